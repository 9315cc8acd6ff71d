/- A view of one's own: own. -/
import Derived.Test.YtomdbcddokaagaaDoorGW
import Derived.Deep.RegionLaw
import Derived.BigRegion
namespace Go.Proofs.YtomdbcddokaagaaDoor
open Go.RowKit

/-- What own answers. -/
def OwR (w : World) (v : Vw) (e : Ending) (w' : World) : Prop := ∃ (p' : Vp) (L : List Lq), e = .returned (.agg (p'.cells v)) ∧
  w'.ownsRow w.heap.size 59 4 (.slice p'.cr v.h.length p'.cc) v.h.length (cl4 v.h) ∧ w'.ownsRow w.heap.size 3 1 (.slice p'.yr v.grey.length p'.yc) v.grey.length (v.grey.map (Value.int .i64)) ∧ w'.ownsRow w.heap.size 57 1 (.slice p'.gr v.gl.length p'.gc) v.gl.length (v.gl.map (Value.int .u64)) ∧ w'.ownsRow w.heap.size 61 3 (.slice p'.lr L.length p'.lc) L.length (lq3 L) ∧
  (∀ q ∈ L, w'.ownsRow w.heap.size 57 1 (.slice q.ra q.x.roots.length q.cc) q.x.roots.length (q.x.roots.map (Value.int .u64))) ∧ (∀ q ∈ L, ∀ k, (Value.slice p'.gr v.gl.length p'.gc).ownBlock = some k → (Value.slice q.ra q.x.roots.length q.cc).ownBlock ≠ some k) ∧
  (∀ (i j : Nat) (q r : Lq), i ≠ j → L[i]? = some q → L[j]? = some r → ∀ k, (Value.slice q.ra q.x.roots.length q.cc).ownBlock = some k → (Value.slice r.ra r.x.roots.length r.cc).ownBlock ≠ some k) ∧ L.map Lq.x = v.lanes ∧ Below w.heap.size w w'
set_option maxRecDepth 100000 in
set_option maxHeartbeats 16000000 in
theorem own_any (p : Vp) (v : Vw) (w : World) (hV : VL w p v) (hsm : v.h.length + v.grey.length + v.gl.length + v.lanes.length + (v.lanes.map Ln.roots).flatten.length ≤ 20000) :
    Calls Tryd.prog 13 #[.agg (p.cells v)] w fun e w' => OwR w v e w' := by
  obtain ⟨pcr, pcc, pyr, pyc, pgr, pgc, plr, plc⟩ := p
  have HV : Hid (VL w ⟨pcr, pcc, pyr, pyc, pgr, pgc, plr, plc⟩ v) := hV
  have HSm : Hid (v.h.length + v.grey.length + v.gl.length + v.lanes.length + (v.lanes.map Ln.roots).flatten.length ≤ 20000) := hsm
  have q1 : v.h.length ≤ 20000 := by omega
  have q2 : v.grey.length ≤ 20000 := by omega
  have q3 : v.gl.length ≤ 20000 := by omega
  have q4 : v.lanes.length ≤ 20000 := by omega
  obtain ⟨i0, hi0, hz0, hz1, hz2⟩ := info_parts infoCl
  obtain ⟨i1, hi1, hy0, hy1, hy2⟩ := info_parts infoLn
  obtain ⟨i2, hi2, hx0, hx1, hx2⟩ := info_parts infoI
  obtain ⟨i3, hi3, hw0, hw1, hw2⟩ := info_parts infoWd
  obtain ⟨o2, ho2⟩ : ∃ o2 : Obj, o2 = .cells #[.slice none 0 0, .int .u8 0, .int .i64 0, .slice none 0 0, .slice none 0 0, .int .i64 0, .slice none 0 0] 28 := ⟨_, rfl⟩
  obtain ⟨W1, hW1⟩ : ∃ W1, ((w.alloc (.cells ((⟨pcr, pcc, pyr, pyc, pgr, pgc, plr, plc⟩ : Vp).cells v) 28)).alloc o2).alloc (.cells ((⟨pcr, pcc, pyr, pyc, pgr, pgc, plr, plc⟩ : Vp).cells v) 28) = W1 := ⟨_, rfl⟩
  have b1 : Below w.heap.size w W1 := by
    rw [← hW1]
    exact (((Below.refl _ w).alloc (Nat.le_refl _) _).alloc (by rw [World.size_alloc]; omega) _).alloc (by rw [World.size_alloc, World.size_alloc]; omega) _
  have HT1 : Hid (OT w W1 ⟨pcr, pcc, pyr, pyc, pgr, pgc, plr, plc⟩ v ⟨pcr, pcc, pyr, pyc, pgr, pgc, plr, plc⟩ v none 0 [] none 0 [] none 0 [] none 0 []) := by
    refine ⟨?_, ⟨#[.slice none 0 0, .int .u8 0, .int .i64 0, .slice none 0 0, .slice none 0 0, .int .i64 0, .slice none 0 0], ?_, rfl⟩, ?_, World.ownsRow_nil _ _ _ _, World.ownsRow_nil _ _ _ _, World.ownsRow_nil _ _ _ _, World.ownsRow_nil _ _ _ _, (fun q hq => by cases hq), (fun q hq => by cases hq), (fun i j q r _ hq => by simp at hq), b1⟩
    · unfold VB
      rw [← hW1, Below.heap_alloc _ _ _ (by rw [World.size_alloc, World.size_alloc]; omega), Below.heap_alloc _ _ _ (by rw [World.size_alloc]; omega)]
      exact World.alloc_heap_new w _
    · rw [← hW1, Below.heap_alloc _ _ _ (by rw [World.size_alloc, World.size_alloc]; omega)]
      have := World.alloc_heap_new (w.alloc (.cells ((⟨pcr, pcc, pyr, pyc, pgr, pgc, plr, plc⟩ : Vp).cells v) 28)) o2
      rw [World.size_alloc] at this
      rw [this, ho2]
    · unfold VB
      rw [← hW1]
      have := World.alloc_heap_new ((w.alloc (.cells ((⟨pcr, pcc, pyr, pyc, pgr, pgc, plr, plc⟩ : Vp).cells v) 28)).alloc o2) (.cells ((⟨pcr, pcc, pyr, pyc, pgr, pgc, plr, plc⟩ : Vp).cells v) 28)
      rw [World.size_alloc, World.size_alloc] at this
      exact this
  have HW1 : Hid _ := hW1
  rw [ho2] at HW1
  unfold Vp.cells at HW1
  unfold Vp.cells
  dsimp only at HW1 ⊢
  clear hW1 hV b1 hsm ho2
  go_enter Tryd.func13, Tryd.ntmps13
  go_upto_region 2 with fail
  rw [HW1.out]
  clear HW1
  have HT1n : Hid (OT w (W1.setCell ⟨w.heap.size + 2, 0, none⟩ (.slice none 0 0)) ⟨pcr, pcc, pyr, pyc, pgr, pgc, plr, plc⟩ v ⟨none, 0, pyr, pyc, pgr, pgc, plr, plc⟩ ⟨[], v.ph, v.sw, v.grey, v.gl, v.laid, v.lanes⟩ none 0 [] none 0 [] none 0 [] none 0 []) := HT1.out.field 0 _ rfl
  have fz1 : W1.frozen? ⟨w.heap.size + 2, 0, none⟩ = false := vb_fz HT1.out.b3 0
  obtain ⟨x0, x1, x2, x3, x4, x5, x6⟩ := HT1.out.b3.at7
  dsimp only at x0 x3 x4 x6
  have l1 := HT1.out.lt
  go_upto_region 3 with fail
  generalize W1.setCell ⟨w.heap.size + 2, 0, none⟩ (.slice none 0 0) = W1n at HT1n ⊢
  clear x0 x1 x2 x3 x4 x5 x6 l1 fz1 HT1
  obtain ⟨x0, x1, x2, x3, x4, x5, x6⟩ := HT1n.out.b3.at7
  obtain ⟨d0, d1, d2, d3, d4, d5, d6⟩ := HT1n.out.b1.at7
  dsimp only at x0 x3 x4 x6 d0 d3 d4 d6
  have l1 := HT1n.out.lt
  have l1' : w.heap.size < W1n.heap.size := by omega
  have HN1 : Hid _ := hr_news (HV.out.h.below HT1n.out.bel)
  go_wp2_with (at_builtin; refine stop_of ?_)
  unfold Hid
  refine wpList_append_all _ rfl _ _ 22 rfl w.heap.size 59 i0 _ 4 24 Tryd.underlying22 hi0 hz0 hz1 hz2 rfl (by decide) (.slice none 0 0) 0 [] rfl (World.ownsRow_nil _ _ _ _) pcr v.h.length pcc (cl4 v.h) rfl (cl4_len _) HN1.out.1 HN1.out.2 (cl4_one _) (by unfold maxLen; omega) (by omega) HT1n.out.bel.size ?_
  intro rc cc W2a hown hgr _
  rw [Nat.zero_add, List.nil_append] at hown
  have hbl : Below W1n.heap.size W1n W2a := grown_low hgr (fun g hg => by cases hg) (Nat.le_refl _)
  have HT2a : Hid (OT w W2a ⟨pcr, pcc, pyr, pyc, pgr, pgc, plr, plc⟩ v ⟨none, 0, pyr, pyc, pgr, pgc, plr, plc⟩ ⟨[], v.ph, v.sw, v.grey, v.gl, v.laid, v.lanes⟩ rc cc v.h none 0 [] none 0 [] none 0 []) := by
    have t := HT1n.out.below hbl
    exact ⟨t.b1, t.b2, t.b3, hown, t.y, t.g, t.l, t.q, (fun q hq => by cases hq), t.aq, t.bel⟩
  have HT2 : Hid (OT w (W2a.setCell ⟨w.heap.size + 2, 0, none⟩ (.slice rc v.h.length cc)) ⟨pcr, pcc, pyr, pyc, pgr, pgc, plr, plc⟩ v ⟨rc, cc, pyr, pyc, pgr, pgc, plr, plc⟩ ⟨v.h, v.ph, v.sw, v.grey, v.gl, v.laid, v.lanes⟩ rc cc v.h none 0 [] none 0 [] none 0 []) := HT2a.out.field 0 _ rfl
  have fz1 : W2a.frozen? ⟨w.heap.size + 2, 0, none⟩ = false := vb_fz HT2a.out.b3 0
  have lz1 := HT2a.out.lt
  clear x0 x1 x2 x3 x4 x5 x6 d0 d1 d2 d3 d4 d5 d6 hown hgr hbl
  obtain ⟨x0, x1, x2, x3, x4, x5, x6⟩ := HT2a.out.b3.at7
  dsimp only at x0 x3 x4 x6
  rw [Nat.zero_add]
  go_upto_region 4 with fail
  generalize W2a.setCell ⟨w.heap.size + 2, 0, none⟩ (.slice rc v.h.length cc) = W2 at HT2 ⊢
  clear x0 x1 x2 x3 x4 x5 x6 fz1 lz1 HT2a HT1n HN1 l1 l1'
  have HT2n : Hid (OT w (W2.setCell ⟨w.heap.size + 2, 3, none⟩ (.slice none 0 0)) ⟨pcr, pcc, pyr, pyc, pgr, pgc, plr, plc⟩ v ⟨rc, cc, none, 0, pgr, pgc, plr, plc⟩ ⟨v.h, v.ph, v.sw, [], v.gl, v.laid, v.lanes⟩ rc cc v.h none 0 [] none 0 [] none 0 []) := HT2.out.field 3 _ rfl
  have fz2 : W2.frozen? ⟨w.heap.size + 2, 3, none⟩ = false := vb_fz HT2.out.b3 3
  obtain ⟨x0, x1, x2, x3, x4, x5, x6⟩ := HT2.out.b3.at7
  dsimp only at x0 x3 x4 x6
  have l2 := HT2.out.lt
  go_upto_region 5 with fail
  generalize W2.setCell ⟨w.heap.size + 2, 3, none⟩ (.slice none 0 0) = W2n at HT2n ⊢
  clear x0 x1 x2 x3 x4 x5 x6 l2 fz2 HT2
  obtain ⟨x0, x1, x2, x3, x4, x5, x6⟩ := HT2n.out.b3.at7
  obtain ⟨d0, d1, d2, d3, d4, d5, d6⟩ := HT2n.out.b1.at7
  dsimp only at x0 x3 x4 x6 d0 d3 d4 d6
  have l2 := HT2n.out.lt
  have l2' : w.heap.size < W2n.heap.size := by omega
  have HN2 : Hid _ := rx_news (HV.out.y.below HT2n.out.bel)
  go_wp2_with (at_builtin; refine stop_of ?_)
  unfold Hid
  refine wpList_append_all _ rfl _ _ 24 rfl w.heap.size 3 i2 _ 1 8 Tryd.underlying24 hi2 hx0 hx1 hx2 rfl (by decide) (.slice none 0 0) 0 [] rfl (World.ownsRow_nil _ _ _ _) pyr v.grey.length pyc (v.grey.map (Value.int .i64)) rfl (by simp) HN2.out.1 HN2.out.2 (ints_one _) (by unfold maxLen; omega) (by omega) HT2n.out.bel.size ?_
  intro ry cy W3a hown hgr _
  rw [Nat.zero_add, List.nil_append] at hown
  have hbl : Below W2n.heap.size W2n W3a := grown_low hgr (fun g hg => by cases hg) (Nat.le_refl _)
  have HT3a : Hid (OT w W3a ⟨pcr, pcc, pyr, pyc, pgr, pgc, plr, plc⟩ v ⟨rc, cc, none, 0, pgr, pgc, plr, plc⟩ ⟨v.h, v.ph, v.sw, [], v.gl, v.laid, v.lanes⟩ rc cc v.h ry cy v.grey none 0 [] none 0 []) := by
    have t := HT2n.out.below hbl
    exact ⟨t.b1, t.b2, t.b3, t.c, hown, t.g, t.l, t.q, (fun q hq => by cases hq), t.aq, t.bel⟩
  have HT3 : Hid (OT w (W3a.setCell ⟨w.heap.size + 2, 3, none⟩ (.slice ry v.grey.length cy)) ⟨pcr, pcc, pyr, pyc, pgr, pgc, plr, plc⟩ v ⟨rc, cc, ry, cy, pgr, pgc, plr, plc⟩ ⟨v.h, v.ph, v.sw, v.grey, v.gl, v.laid, v.lanes⟩ rc cc v.h ry cy v.grey none 0 [] none 0 []) := HT3a.out.field 3 _ rfl
  have fz2 : W3a.frozen? ⟨w.heap.size + 2, 3, none⟩ = false := vb_fz HT3a.out.b3 3
  have lz2 := HT3a.out.lt
  clear x0 x1 x2 x3 x4 x5 x6 d0 d1 d2 d3 d4 d5 d6 hown hgr hbl
  obtain ⟨x0, x1, x2, x3, x4, x5, x6⟩ := HT3a.out.b3.at7
  dsimp only at x0 x3 x4 x6
  rw [Nat.zero_add]
  go_upto_region 6 with fail
  generalize W3a.setCell ⟨w.heap.size + 2, 3, none⟩ (.slice ry v.grey.length cy) = W3 at HT3 ⊢
  clear x0 x1 x2 x3 x4 x5 x6 fz2 lz2 HT3a HT2n HN2 l2 l2'
  have HT3n : Hid (OT w (W3.setCell ⟨w.heap.size + 2, 4, none⟩ (.slice none 0 0)) ⟨pcr, pcc, pyr, pyc, pgr, pgc, plr, plc⟩ v ⟨rc, cc, ry, cy, none, 0, plr, plc⟩ ⟨v.h, v.ph, v.sw, v.grey, [], v.laid, v.lanes⟩ rc cc v.h ry cy v.grey none 0 [] none 0 []) := HT3.out.field 4 _ rfl
  have fz3 : W3.frozen? ⟨w.heap.size + 2, 4, none⟩ = false := vb_fz HT3.out.b3 4
  obtain ⟨x0, x1, x2, x3, x4, x5, x6⟩ := HT3.out.b3.at7
  dsimp only at x0 x3 x4 x6
  have l3 := HT3.out.lt
  go_upto_region 7 with fail
  generalize W3.setCell ⟨w.heap.size + 2, 4, none⟩ (.slice none 0 0) = W3n at HT3n ⊢
  clear x0 x1 x2 x3 x4 x5 x6 l3 fz3 HT3
  obtain ⟨x0, x1, x2, x3, x4, x5, x6⟩ := HT3n.out.b3.at7
  obtain ⟨d0, d1, d2, d3, d4, d5, d6⟩ := HT3n.out.b1.at7
  dsimp only at x0 x3 x4 x6 d0 d3 d4 d6
  have l3 := HT3n.out.lt
  have l3' : w.heap.size < W3n.heap.size := by omega
  have HN3 : Hid _ := wr_news (HV.out.g.below HT3n.out.bel)
  go_wp2_with (at_builtin; refine stop_of ?_)
  unfold Hid
  refine wpList_append_all _ rfl _ _ 25 rfl w.heap.size 57 i3 _ 1 8 Tryd.underlying25 hi3 hw0 hw1 hw2 rfl (by decide) (.slice none 0 0) 0 [] rfl (World.ownsRow_nil _ _ _ _) pgr v.gl.length pgc (v.gl.map (Value.int .u64)) rfl (by simp) HN3.out.1 HN3.out.2 (words_one _) (by unfold maxLen; omega) (by omega) HT3n.out.bel.size ?_
  intro rg cg W4a hown hgr _
  rw [Nat.zero_add, List.nil_append] at hown
  have hbl : Below W3n.heap.size W3n W4a := grown_low hgr (fun g hg => by cases hg) (Nat.le_refl _)
  have HT4a : Hid (OT w W4a ⟨pcr, pcc, pyr, pyc, pgr, pgc, plr, plc⟩ v ⟨rc, cc, ry, cy, none, 0, plr, plc⟩ ⟨v.h, v.ph, v.sw, v.grey, [], v.laid, v.lanes⟩ rc cc v.h ry cy v.grey rg cg v.gl none 0 []) := by
    have t := HT3n.out.below hbl
    exact ⟨t.b1, t.b2, t.b3, t.c, t.y, hown, t.l, t.q, (fun q hq => by cases hq), t.aq, t.bel⟩
  have HT4 : Hid (OT w (W4a.setCell ⟨w.heap.size + 2, 4, none⟩ (.slice rg v.gl.length cg)) ⟨pcr, pcc, pyr, pyc, pgr, pgc, plr, plc⟩ v ⟨rc, cc, ry, cy, rg, cg, plr, plc⟩ ⟨v.h, v.ph, v.sw, v.grey, v.gl, v.laid, v.lanes⟩ rc cc v.h ry cy v.grey rg cg v.gl none 0 []) := HT4a.out.field 4 _ rfl
  have fz3 : W4a.frozen? ⟨w.heap.size + 2, 4, none⟩ = false := vb_fz HT4a.out.b3 4
  have lz3 := HT4a.out.lt
  clear x0 x1 x2 x3 x4 x5 x6 d0 d1 d2 d3 d4 d5 d6 hown hgr hbl
  obtain ⟨x0, x1, x2, x3, x4, x5, x6⟩ := HT4a.out.b3.at7
  dsimp only at x0 x3 x4 x6
  rw [Nat.zero_add]
  go_upto_region 8 with fail
  generalize W4a.setCell ⟨w.heap.size + 2, 4, none⟩ (.slice rg v.gl.length cg) = W4 at HT4 ⊢
  clear x0 x1 x2 x3 x4 x5 x6 fz3 lz3 HT4a HT3n HN3 l3 l3'
  have HT4n : Hid (OT w (W4.setCell ⟨w.heap.size + 2, 6, none⟩ (.slice none 0 0)) ⟨pcr, pcc, pyr, pyc, pgr, pgc, plr, plc⟩ v ⟨rc, cc, ry, cy, rg, cg, none, 0⟩ ⟨v.h, v.ph, v.sw, v.grey, v.gl, v.laid, []⟩ rc cc v.h ry cy v.grey rg cg v.gl none 0 []) := HT4.out.field 6 _ rfl
  have fz4 : W4.frozen? ⟨w.heap.size + 2, 6, none⟩ = false := vb_fz HT4.out.b3 6
  obtain ⟨x0, x1, x2, x3, x4, x5, x6⟩ := HT4.out.b3.at7
  dsimp only at x0 x3 x4 x6
  have l4 := HT4.out.lt
  go_upto_region 9 with fail
  generalize W4.setCell ⟨w.heap.size + 2, 6, none⟩ (.slice none 0 0) = W7 at HT4n ⊢
  clear x0 x1 x2 x3 x4 x5 x6 l4 fz4 HT4
  go_wp2_with fail
  go_loopw [4] (fun i wr => ∃ (k : Nat) (L : List Lq) (rl : Option Addr) (cl : Nat), i = .int .i64 k ∧ k ≤ v.lanes.length ∧ L.length = k ∧ Hid (L.map Lq.x = v.lanes.take k) ∧ Hid (OT w wr ⟨pcr, pcc, pyr, pyc, pgr, pgc, plr, plc⟩ v ⟨rc, cc, ry, cy, rg, cg, rl, cl⟩ ⟨v.h, v.ph, v.sw, v.grey, v.gl, v.laid, L.map Lq.x⟩ rc cc v.h ry cy v.grey rg cg v.gl rl cl L)) (fun i _ => v.lanes.length - (intOf i).toNat)
  case atStart => exact ⟨0, [], none, 0, rfl, Nat.zero_le _, rfl, rfl, HT4n⟩
  case round =>
    clear HT4n
    obtain ⟨k, L, rl, cl, rfl, hk, hLk, HM, HT⟩ := hrel
    subst hLk
    obtain ⟨d0, d1, d2, d3, d4, d5, d6⟩ := HT.out.b1.at7
    dsimp only at d6
    clear d0 d1 d2 d3 d4 d5
    have l1 := HT.out.lt
    have l1' : w.heap.size < wr.heap.size := by omega
    by_cases hkl : L.length < v.lanes.length
    · have k1 : (L.length : Int) < (v.lanes.length : Int) := by omega
      obtain ⟨x, hx⟩ : ∃ x, v.lanes[L.length]? = some x := ⟨_, List.getElem?_eq_getElem hkl⟩
      obtain ⟨b, o, hor, hcs⟩ := HV.out.l.below HT.out.bel
      have hlr : plr = some ⟨b, o, none⟩ := hor.resolve_left (by omega)
      subst hlr
      obtain ⟨g1, ⟨ry2, rc2, c0, hw, c3⟩, c4, c5⟩ := hcs L.length x hx
      have HM2 : Hid (v.lanes.take (L.length + 1) = L.map Lq.x ++ [x]) := by show _ = _; rw [List.take_add_one, hx, HM.out]; rfl
      have hrl : x.roots.length ≤ 20000 := by
        have h1 : x.roots.length ≤ (v.lanes.map Ln.roots).flatten.length := len_flat (List.mem_of_getElem? hx)
        have := HSm.out
        omega
      obtain ⟨W8, hW8⟩ : ∃ W8, wr.alloc (.cells #[.slice none 0 0, .bool x.sc, .bool x.en] 61) = W8 := ⟨_, rfl⟩
      have b8 : Below wr.heap.size wr W8 := by rw [← hW8]; exact (Below.refl _ wr).alloc (Nat.le_refl _) _
      have n8 : W8.heap[wr.heap.size]? = some (.cells #[.slice none 0 0, .bool x.sc, .bool x.en] 61 (0, 0)) := by rw [← hW8]; exact World.alloc_heap_new _ _
      have hw8 := hw.below b8
      have HW8 : Hid _ := hW8
      have HB8 : Hid (Below wr.heap.size wr W8) := b8
      have HN8 : Hid (W8.heap[wr.heap.size]? = some (.cells #[.slice none 0 0, .bool x.sc, .bool x.en] 61 (0, 0))) := n8
      have HSr : Hid (∀ w' : World, (∀ k, k < wr.heap.size → w'.heap[k]? = wr.heap[k]?) → wr.heap.size ≤ w'.heap.size → w'.cell? ⟨w.heap.size, 6, none⟩ = some (.slice (some ⟨b, o, none⟩) v.lanes.length plc) ∧ w'.cell? ⟨b, o + L.length * 3, none⟩ = some (.slice ry2 x.roots.length rc2) ∧ w.heap.size < w'.heap.size ∧ b < w'.heap.size) := fun w' hk hz =>
        ⟨(World.cell?_of_block (a := ⟨w.heap.size, 6, none⟩) (hk _ l1')).trans d6, (World.cell?_of_block (a := ⟨b, o + L.length * 3, none⟩) (hk _ g1)).trans c0, by omega, by omega⟩
      clear hcs hor hx HM hW8 b8
      go_upto_region 14 with fail
      rw [HW8.out]
      clear HW8 d6 c0 c4 c5 g1 hw
      have a0 := heap_cell (j := 0) n8 rfl
      have l8 := heap_lt n8
      obtain ⟨s6, s0, l9, lb⟩ := HSr.out W8 (fun k hk => HB8.out.block k hk) HB8.out.size
      have HNr : Hid _ := wr_news (hw8.below ((Below.refl W8.heap.size W8).drew))
      have HSz : Hid (w.heap.size ≤ W8.drew.heap.size) := Nat.le_trans HT.out.bel.size HB8.out.size
      have HG9 : Hid (∀ W9 : World, W8.drew.grownBy W9 (Value.slice none 0 0).ownBlock → W9.cell? ⟨wr.heap.size, 0, none⟩ = some (.slice none 0 0) ∧ W9.frozen? ⟨wr.heap.size, 0, none⟩ = false ∧ wr.heap.size < W9.heap.size ∧ Below W8.heap.size W8 W9) := fun W9 hgr => by
        have hb : Below W8.heap.size W8 W9 := (Below.refl W8.heap.size W8).drew.trans (grown_low hgr (fun g hg => by cases hg) (Nat.le_refl _))
        have e := (hb.block _ (heap_lt HN8.out)).trans HN8.out
        exact ⟨heap_cell e rfl, fz_of e 0, heap_lt e, hb⟩
      have HS9 : Hid (∀ W9 : World, Below W8.heap.size W8 W9 → W9.cell? ⟨w.heap.size, 6, none⟩ = some (.slice (some ⟨b, o, none⟩) v.lanes.length plc) ∧ W9.cell? ⟨b, o + L.length * 3, none⟩ = some (.slice ry2 x.roots.length rc2) ∧ w.heap.size < W9.heap.size ∧ b < W9.heap.size) := fun W9 hb => HSr.out W9 (fun k hk => (hb.block k (by have := HB8.out.size; omega)).trans (HB8.out.block k hk)) (Nat.le_trans HB8.out.size hb.size)
      have HS10 : Hid (∀ (W9 : World) (u : Value), Below W8.heap.size W8 W9 → (W9.setCell ⟨wr.heap.size, 0, none⟩ u).cell? ⟨w.heap.size, 6, none⟩ = some (.slice (some ⟨b, o, none⟩) v.lanes.length plc) ∧ (W9.setCell ⟨wr.heap.size, 0, none⟩ u).cell? ⟨b, o + L.length * 3, none⟩ = some (.slice ry2 x.roots.length rc2) ∧ w.heap.size < (W9.setCell ⟨wr.heap.size, 0, none⟩ u).heap.size ∧ b < (W9.setCell ⟨wr.heap.size, 0, none⟩ u).heap.size) := fun W9 u hb => HSr.out _ (fun k hk => (Below.heap_setCell _ _ _ _ (Nat.ne_of_lt hk)).trans ((hb.block k (by have := HB8.out.size; omega)).trans (HB8.out.block k hk))) (by rw [World.size_setCell]; exact Nat.le_trans HB8.out.size hb.size)
      have hmx : Tryd.prog.follows .mixedOrders = true := by kernel_rfl
      clear hw8
      go_region_law (refine step_append_all _ rfl _ _ 25 rfl w.heap.size 57 i3 _ 1 8 Tryd.underlying25 hi3 hw0 hw1 hw2 rfl (by decide) (.slice none 0 0) 0 [] rfl (World.ownsRow_nil _ _ _ _) ry2 x.roots.length rc2 (x.roots.map (Value.int .u64)) rfl (by simp) HNr.out.1 HNr.out.2 (words_one _) (by unfold maxLen; omega) (by omega) HSz.out ?_; intro rr cr W9 hown9 hgr9 hnw9; obtain ⟨e9, z9, y9, hb9⟩ := HG9.out W9 hgr9)
      all_goals
        rw [Nat.zero_add, List.nil_append] at hown9
        rw [Nat.zero_add] at hnw9
        have n9 := (hb9.block _ (heap_lt HN8.out)).trans HN8.out
        have n10 : (W9.setCell ⟨wr.heap.size, 0, none⟩ (.slice rr x.roots.length cr)).heap[wr.heap.size]? = some (.cells #[.slice rr x.roots.length cr, .bool x.sc, .bool x.en] 61 (0, 0)) := set_atC n9 _
        have B9 : Below wr.heap.size wr W9 := HB8.out.trans (hb9.mono HB8.out.size)
        have B10 : Below wr.heap.size wr (W9.setCell ⟨wr.heap.size, 0, none⟩ (.slice rr x.roots.length cr)) := B9.setCell (p := ⟨wr.heap.size, 0, none⟩) (Nat.le_refl _) _
        have HR10 : Hid ((W9.setCell ⟨wr.heap.size, 0, none⟩ (.slice rr x.roots.length cr)).ownsRow w.heap.size 57 1 (.slice rr x.roots.length cr) x.roots.length (x.roots.map (Value.int .u64))) := own_same hown9 (fun k hk' => Below.heap_setCell _ _ _ _ (fun e => own_ty hown9 n9 (by decide) (by rw [show k = wr.heap.size from e] at hk'; exact hk')))
        have HNw : Hid (∀ k, (Value.slice rr x.roots.length cr).ownBlock = some k → wr.heap.size ≤ k) := fun k hk => by
          rcases hnw9 k hk with h | h
          · cases h
          · exact Nat.le_trans HB8.out.size h
        have HT10 : Hid (OT w (W9.setCell ⟨wr.heap.size, 0, none⟩ (.slice rr x.roots.length cr)) ⟨pcr, pcc, pyr, pyc, pgr, pgc, some ⟨b, o, none⟩, plc⟩ v ⟨rc, cc, ry, cy, rg, cg, rl, cl⟩ ⟨v.h, v.ph, v.sw, v.grey, v.gl, v.laid, L.map Lq.x⟩ rc cc v.h ry cy v.grey rg cg v.gl rl cl L) := HT.out.below B10
        clear hown9 hgr9 hnw9 e9 z9 y9 hb9 HG9 HS9 HS10 HSr HNr HSz HB8 HN8 n8 a0 l8 s6 s0 l9 lb n9 B9 B10 l1 l1'
        go_upto_region 15 with fail
        generalize W9.setCell ⟨wr.heap.size, 0, none⟩ (.slice rr x.roots.length cr) = W10 at HT10 HR10 n10 ⊢
        have a0 := heap_cell (j := 0) n10 rfl
        have a1 := heap_cell (j := 1) n10 rfl
        have a2 := heap_cell (j := 2) n10 rfl
        have la := heap_lt n10
        obtain ⟨x0, x1, x2, x3, x4, x5, x6⟩ := HT10.out.b3.at7
        dsimp only at x6
        rw [List.length_map] at x6
        clear x0 x1 x2 x3 x4 x5
        have l10 := HT10.out.lt
        have b11 : Below W10.heap.size W10 (W10.alloc (.cells #[.slice rr x.roots.length cr, .bool x.sc, .bool x.en] 61)) := (Below.refl _ W10).alloc (Nat.le_refl _) _
        have HT11 : Hid (OT w (W10.alloc (.cells #[.slice rr x.roots.length cr, .bool x.sc, .bool x.en] 61)) ⟨pcr, pcc, pyr, pyc, pgr, pgc, some ⟨b, o, none⟩, plc⟩ v ⟨rc, cc, ry, cy, rg, cg, rl, cl⟩ ⟨v.h, v.ph, v.sw, v.grey, v.gl, v.laid, L.map Lq.x⟩ rc cc v.h ry cy v.grey rg cg v.gl rl cl L) := HT10.out.below b11
        have HR11 : Hid ((W10.alloc (.cells #[.slice rr x.roots.length cr, .bool x.sc, .bool x.en] 61)).ownsRow w.heap.size 57 1 (.slice rr x.roots.length cr) x.roots.length (x.roots.map (Value.int .u64))) := own_same HR10.out (fun k hk' => b11.block k (HR10.out.lt k hk').2)
        have HAg : Hid ((∀ k, (Value.slice rg v.gl.length cg).ownBlock = some k → (Value.slice rr x.roots.length cr).ownBlock ≠ some k) ∧ ∀ q ∈ L, ∀ k, (Value.slice q.ra q.x.roots.length q.cc).ownBlock = some k → (Value.slice rr x.roots.length cr).ownBlock ≠ some k) := ⟨fun k hk h2 => by
          have h3 := (HT.out.g.lt k hk).2
          have h4 := HNw.out k h2
          omega, fun q hq k hk h2 => by
          have h3 := ((HT.out.q q hq).lt k hk).2
          have h4 := HNw.out k h2
          omega⟩
        clear HT10 HR10 b11 HT
        go_wp2_with (at_builtin; refine stop_of ?_)
        unfold Hid
        refine wpList_append_all _ rfl _ _ 26 rfl w.heap.size 61 i1 _ 3 32 Tryd.underlying26 hi1 hy0 hy1 hy2 rfl (by decide) (.slice rl L.length cl) L.length (lq3 L) rfl HT11.out.l (some ⟨W10.heap.size, 0, none⟩) 1 1 [.slice rr x.roots.length cr, .bool x.sc, .bool x.en] rfl rfl (fun e => by cases e) (fun ad had j u hu => by cases had; rw [ad_add, Nat.zero_add]; exact new_cell W10 _ _ j u hu) (by intro u hu; simp at hu; rcases hu with rfl | rfl | rfl <;> rfl) (by unfold maxLen; omega) (by omega) HT11.out.bel.size ?_
        intro rl' cl' W12 hown12 hgr12 _
        have hl2 : (L ++ [(⟨rr, cr, x⟩ : Lq)]).length = L.length + 1 := by rw [List.length_append]; rfl
        have HT12 : Hid (OT w W12 ⟨pcr, pcc, pyr, pyc, pgr, pgc, some ⟨b, o, none⟩, plc⟩ v ⟨rc, cc, ry, cy, rg, cg, rl, cl⟩ ⟨v.h, v.ph, v.sw, v.grey, v.gl, v.laid, L.map Lq.x⟩ rc cc v.h ry cy v.grey rg cg v.gl rl' cl' (L ++ [⟨rr, cr, x⟩])) := HT11.out.growL (r := ⟨rr, cr, x⟩) hgr12 hown12 HR11.out HAg.out.1 HAg.out.2
        have HT13 : Hid (OT w (W12.setCell ⟨w.heap.size + 2, 6, none⟩ (.slice rl' (L.length + 1) cl')) ⟨pcr, pcc, pyr, pyc, pgr, pgc, some ⟨b, o, none⟩, plc⟩ v ⟨rc, cc, ry, cy, rg, cg, rl', cl'⟩ ⟨v.h, v.ph, v.sw, v.grey, v.gl, v.laid, (L ++ [(⟨rr, cr, x⟩ : Lq)]).map Lq.x⟩ rc cc v.h ry cy v.grey rg cg v.gl rl' cl' (L ++ [⟨rr, cr, x⟩])) := HT12.out.field 6 _ (by
          unfold Vp.cells
          dsimp only
          rw [List.length_map, List.length_map, hl2]
          rfl)
        have f12 : W12.frozen? ⟨w.heap.size + 2, 6, none⟩ = false := vb_fz HT12.out.b3 6
        obtain ⟨x0, x1, x2, x3, x4, x5, x7⟩ := HT12.out.b3.at7
        have l12 := HT12.out.lt
        clear x0 x1 x2 x3 x4 x5 hown12 hgr12 HT11 HR11 x6 a0 a1 a2 la l10 n10 HAg
        go_wp2_with fail
        go_roundw
        case rel => exact ⟨L.length + 1, L ++ [⟨rr, cr, x⟩], rl', cl', by go_num, by omega, hl2, by show _ = _; rw [HM2.out, List.map_append]; rfl, HT13⟩
        case measure => simp [intOf]; omega
    · have k1 : ¬ (L.length : Int) < (v.lanes.length : Int) := by omega
      have HM2 : Hid (L.map Lq.x = v.lanes) := by
        have h' := HM.out
        rw [List.take_of_length_le (by omega)] at h'
        exact h'
      clear HM
      obtain ⟨x0, x1, x2, x3, x4, x5, x6⟩ := HT.out.b3.at7
      dsimp only at x0 x3 x4 x6
      obtain ⟨cs2, n2, z2⟩ := HT.out.b2
      obtain ⟨c0, c1, c2, c3, c4, c5, c6, rfl⟩ : ∃ c0 c1 c2 c3 c4 c5 c6, cs2 = #[c0, c1, c2, c3, c4, c5, c6] := by
        obtain ⟨cl⟩ := cs2
        rcases cl with _ | ⟨c0, _ | ⟨c1, _ | ⟨c2, _ | ⟨c3, _ | ⟨c4, _ | ⟨c5, _ | ⟨c6, _ | ⟨c7, r⟩⟩⟩⟩⟩⟩⟩⟩
        · cases z2
        · cases z2
        · cases z2
        · cases z2
        · cases z2
        · cases z2
        · cases z2
        · exact ⟨c0, c1, c2, c3, c4, c5, c6, rfl⟩
        · simp at z2
      have y0 := heap_cell (j := 0) n2 rfl
      have y1 := heap_cell (j := 1) n2 rfl
      have y2 := heap_cell (j := 2) n2 rfl
      have y3 := heap_cell (j := 3) n2 rfl
      have y4 := heap_cell (j := 4) n2 rfl
      have y5 := heap_cell (j := 5) n2 rfl
      have y6 := heap_cell (j := 6) n2 rfl
      have fz : ∀ j, wr.frozen? ⟨w.heap.size + 1, j, none⟩ = false := fun j => by simp [World.frozen?, n2]
      have l2 := heap_lt n2
      have HN2 : Hid _ := n2
      rw [List.length_map] at x6
      clear n2 z2
      go_wp2_with fail
      have hLv : L.length = v.lanes.length := by have := congrArg List.length HM2.out; rwa [List.length_map] at this
      have own : ∀ {e size n : Nat} {x : Value} {xs : List Value}, wr.ownsRow w.heap.size e size x n xs → 28 ≠ e → (((((((wr.setCell ⟨w.heap.size + 1, 0, none⟩ (.slice rc v.h.length cc)).setCell ⟨w.heap.size + 1, 1, none⟩ (.int .u8 v.ph)).setCell ⟨w.heap.size + 1, 2, none⟩ (.int .i64 v.sw)).setCell ⟨w.heap.size + 1, 3, none⟩ (.slice ry v.grey.length cy)).setCell ⟨w.heap.size + 1, 4, none⟩ (.slice rg v.gl.length cg)).setCell ⟨w.heap.size + 1, 5, none⟩ (.int .i64 v.laid)).setCell ⟨w.heap.size + 1, 6, none⟩ (.slice rl L.length cl)).ownsRow w.heap.size e size x n xs := fun h hn => own_same h (fun k hk' => far7 (fun e => own_ty h HN2.out hn (by rw [e] at hk'; exact hk')) _ _ _ _ _ _ _)
      refine bodyPost_ret (results_vw (b := w.heap.size + 1) rfl rfl (set7 HN2.out _ _ _ _ _ _ _)) rfl ⟨⟨rc, cc, ry, cy, rg, cg, rl, cl⟩, L, ?_, own HT.out.c (by decide), own HT.out.y (by decide), own HT.out.g (by decide), own HT.out.l (by decide), fun q hq => own (HT.out.q q hq) (by decide), HT.out.ag, HT.out.aq, HM2.out, below7 HT.out.bel (Nat.le_add_right _ 1) _ _ _ _ _ _ _⟩
      unfold Vp.cells
      rw [← hLv]
end Go.Proofs.YtomdbcddokaagaaDoor
