/- whole. -/
import Derived.Test.YtphpkedfcmghmaaDoorHBLentW
namespace Go.Proofs.YtphpkedfcmghmaaDoor
open Go.RowKit

theorem LV.below {W W' : World} {B : Nat} {v : Vw} {gc gy gg : Nat} {lr : Option Addr} {lc : Nat} {L : List Lq} (h : LV W B v gc gy gg lr lc L) (hb : Below W.heap.size W W') : LV W' B v gc gy gg lr lc L := by
  have own : ∀ {e size n : Nat} {x : Value} {xs : List Value}, W.ownsRow B e size x n xs → W'.ownsRow B e size x n xs := fun h => own_same h (fun k hk' => hb.block k (h.lt k hk').2)
  refine ⟨own h.c, own h.y, own h.g, own h.l, fun q hq => ?_, h.e⟩
  obtain ⟨g, h1, h2, h3⟩ := h.q q hq
  exact ⟨g, h1, h2, own h3⟩
theorem lenV_wr {w : World} {B g : Nat} {l : List Int} (h : LenV w B g l) (hr : ∀ x ∈ l, Rng x) : WR w (some ⟨g, 0, none⟩) l :=
  ⟨g, 0, .inr rfl, fun j x hx => ⟨(lenV_at h).2.2.2.1, by rw [Nat.zero_add]; exact (lenV_at h).1 j x hx, hr x (List.mem_of_getElem? hx)⟩⟩
theorem LV.vl {W : World} {B : Nat} {v : Vw} {gc gy gg : Nat} {lr : Option Addr} {lc : Nat} {L : List Lq} (h : LV W B v gc gy gg lr lc L) (hk : ∀ x ∈ v.h, OkK x) (hg : ∀ x ∈ v.gl, Rng x) (hl : ∀ y ∈ v.lanes, ∀ x ∈ y.roots, Rng x) (hs : v.h.length ≤ 281474976710656 ∧ v.grey.length ≤ 281474976710656 ∧ v.gl.length ≤ 281474976710656 ∧ v.lanes.length ≤ 281474976710656 ∧ ∀ y ∈ v.lanes, y.roots.length ≤ 281474976710656) : VL W (lvP v gc gy gg lr lc) v := by
  refine ⟨hr_lent h.c hk, hs.1, lenI_rx h.y, hs.2.1, lenV_wr h.g hg, hs.2.2.1, ?_, hs.2.2.2.1⟩
  rw [← h.e]
  refine lr_own (n := L.length) h.l (fun q hq => ?_)
  obtain ⟨g, h1, h2, h3⟩ := h.q q hq
  have hm : q.x ∈ v.lanes := by rw [← h.e]; exact List.mem_map.2 ⟨q, hq, rfl⟩
  exact ⟨by rw [h1]; exact lenV_wr h3 (hl _ hm), hs.2.2.2.2 _ hm⟩
set_option maxRecDepth 100000 in
set_option maxHeartbeats 32000000 in
theorem whole_any (p : Vp) (v : Vw) (w : World) (B gc gy gg : Nat) (lr : Option Addr) (lc : Nat) (L : List Lq) (hX : LV w B v gc gy gg lr lc L) (hV : VL w p v) (hsm : v.h.length + v.grey.length + v.gl.length + v.lanes.length + (v.lanes.map Ln.roots).flatten.length ≤ 20000) :
    Calls Tryd.prog 10 #[.agg ((lvP v gc gy gg lr lc).cells v), .agg (p.cells v)] w fun e w' => e = .returned (.bool true) ∧ Below w.heap.size w w' := by
  obtain ⟨pcr, pcc, pyr, pyc, pgr, pgc, plr, plc⟩ := p
  have HX : Hid (LV w B v gc gy gg lr lc L) := hX
  have HV : Hid (VL w ⟨pcr, pcc, pyr, pyc, pgr, pgc, plr, plc⟩ v) := hV
  have q1 : v.h.length ≤ 20000 := by omega
  have q2 : v.grey.length ≤ 20000 := by omega
  have q3 : v.gl.length ≤ 20000 := by omega
  have q4 : v.lanes.length ≤ 20000 := by omega
  have HRl : Hid (∀ x ∈ v.lanes, x.roots.length ≤ 20000) := fun x hx => by have := len_flat hx; omega
  have HLl : Hid (L.length = v.lanes.length) := by
    have := congrArg List.length hX.e
    rw [List.length_map] at this
    exact this
  obtain ⟨W1, hW1⟩ : ∃ W1, (w.alloc (.cells ((lvP v gc gy gg lr lc).cells v) 28)).alloc (.cells ((⟨pcr, pcc, pyr, pyc, pgr, pgc, plr, plc⟩ : Vp).cells v) 28) = W1 := ⟨_, rfl⟩
  have b1 : Below w.heap.size w W1 := by
    rw [← hW1]
    exact ((Below.refl _ w).alloc (Nat.le_refl _) _).alloc (by rw [World.size_alloc]; omega) _
  have HE1 : Hid (VB W1 w.heap.size (lvP v gc gy gg lr lc) v ∧ VB W1 (w.heap.size + 1) ⟨pcr, pcc, pyr, pyc, pgr, pgc, plr, plc⟩ v ∧ Below w.heap.size w W1) := by
    refine ⟨?_, ?_, b1⟩
    · unfold VB
      rw [← hW1, Below.heap_alloc _ _ _ (by rw [World.size_alloc]; omega)]
      exact World.alloc_heap_new w _
    · unfold VB
      rw [← hW1]
      have := World.alloc_heap_new (w.alloc (.cells ((lvP v gc gy gg lr lc).cells v) 28)) (.cells ((⟨pcr, pcc, pyr, pyc, pgr, pgc, plr, plc⟩ : Vp).cells v) 28)
      rw [World.size_alloc] at this
      exact this
  have HW1 : Hid _ := hW1
  unfold lvP Vp.cells at HW1
  unfold lvP Vp.cells
  dsimp only at HW1 ⊢
  clear hW1 b1 hX hV hsm
  go_enter Tryd.func10, Tryd.ntmps10
  go_upto_region 1 with fail
  rw [HW1.out]
  clear HW1
  have kp : ∀ {Wa Wb : World}, (VB Wa w.heap.size (lvP v gc gy gg lr lc) v ∧ VB Wa (w.heap.size + 1) ⟨pcr, pcc, pyr, pyc, pgr, pgc, plr, plc⟩ v ∧ Below w.heap.size w Wa) → Below Wa.heap.size Wa Wb → (VB Wb w.heap.size (lvP v gc gy gg lr lc) v ∧ VB Wb (w.heap.size + 1) ⟨pcr, pcc, pyr, pyc, pgr, pgc, plr, plc⟩ v ∧ Below w.heap.size w Wb) := fun h hb => ⟨(hb.block _ (heap_lt h.1)).trans h.1, (hb.block _ (heap_lt h.2.1)).trans h.2.1, h.2.2.trans (hb.mono h.2.2.size)⟩
  have HKp : Hid _ := @kp
  clear kp
  obtain ⟨x0, x1, x2, x3, x4, x5, x6⟩ := HE1.out.1.at7
  obtain ⟨d0, d1, d2, d3, d4, d5, d6⟩ := HE1.out.2.1.at7
  unfold lvP at x0 x3 x4 x6
  dsimp only at x0 x3 x4 x6 d0 d3 d4 d6
  have l1 := heap_lt HE1.out.2.1
  have l1' := heap_lt HE1.out.1
  go_wp2_with fail
  refine Calls.mono (wholeK_any v.h gc B pcr pcc W1 (by omega) (own_same HX.out.c (fun k hk => HE1.out.2.2.block k (HX.out.c.lt k hk).2)) (hr_ok HV.out.h) (HV.out.h.below HE1.out.2.2).hx) ?_
  rintro e W2 ⟨rfl, b2⟩
  have HE2 : Hid _ := HKp.out HE1.out b2
  clear b2 HE1 x0 x1 x2 x3 x4 x5 x6 d0 d1 d2 d3 d4 d5 d6 l1 l1'
  obtain ⟨x0, x1, x2, x3, x4, x5, x6⟩ := HE2.out.1.at7
  obtain ⟨d0, d1, d2, d3, d4, d5, d6⟩ := HE2.out.2.1.at7
  unfold lvP at x0 x3 x4 x6
  dsimp only at x0 x3 x4 x6 d0 d3 d4 d6
  have l1 := heap_lt HE2.out.2.1
  have l1' := heap_lt HE2.out.1
  go_wp2_with fail
  refine Calls.mono (wholeI_any v.grey gy B pyr pyc W2 (by omega) (own_same HX.out.y (fun k hk => HE2.out.2.2.block k (HX.out.y.lt k hk).2)) (HV.out.y.below HE2.out.2.2)) ?_
  rintro e W3 ⟨rfl, b3⟩
  have HE3 : Hid _ := HKp.out HE2.out b3
  clear b3 HE2 x0 x1 x2 x3 x4 x5 x6 d0 d1 d2 d3 d4 d5 d6 l1 l1'
  obtain ⟨x0, x1, x2, x3, x4, x5, x6⟩ := HE3.out.1.at7
  obtain ⟨d0, d1, d2, d3, d4, d5, d6⟩ := HE3.out.2.1.at7
  unfold lvP at x0 x3 x4 x6
  dsimp only at x0 x3 x4 x6 d0 d3 d4 d6
  have l1 := heap_lt HE3.out.2.1
  have l1' := heap_lt HE3.out.1
  go_wp2_with fail
  refine Calls.mono (wholeV_any v.gl gg B pgr pgc W3 (by omega) (own_same HX.out.g (fun k hk => HE3.out.2.2.block k (HX.out.g.lt k hk).2)) ((HV.out.g.below HE3.out.2.2).rx)) ?_
  rintro e W4 ⟨rfl, b4⟩
  have HE4 : Hid (VB W4 w.heap.size (lvP v gc gy gg lr lc) v ∧ VB W4 (w.heap.size + 1) ⟨pcr, pcc, pyr, pyc, pgr, pgc, plr, plc⟩ v ∧ Below w.heap.size w W4) := HKp.out HE3.out b4
  clear b4 HE3 x0 x1 x2 x3 x4 x5 x6 d0 d1 d2 d3 d4 d5 d6 l1 l1'
  go_wp2_with fail
  go_loopw [5, 6] (fun ok i wr => ∃ k : Nat, i = .int .i64 k ∧ ok = .bool true ∧ k ≤ v.lanes.length ∧ Hid (VB wr w.heap.size (lvP v gc gy gg lr lc) v ∧ VB wr (w.heap.size + 1) ⟨pcr, pcc, pyr, pyc, pgr, pgc, plr, plc⟩ v ∧ Below w.heap.size w wr)) (fun _ i _ => v.lanes.length - (intOf i).toNat)
  case atStart => exact ⟨0, rfl, rfl, Nat.zero_le _, HE4⟩
  case round =>
    clear HE4
    obtain ⟨k, rfl, rfl, hk, HE⟩ := hrel
    obtain ⟨_, _, _, _, _, _, x6⟩ := HE.out.1.at7
    obtain ⟨_, _, _, _, _, _, d6⟩ := HE.out.2.1.at7
    unfold lvP at x6
    dsimp only at x6 d6
    have l1 := heap_lt HE.out.2.1
    have l1' := heap_lt HE.out.1
    by_cases hkl : k < v.lanes.length
    · have k1 : (k : Int) < (v.lanes.length : Int) := by omega
      obtain ⟨x, hx⟩ : ∃ x, v.lanes[k]? = some x := ⟨_, List.getElem?_eq_getElem hkl⟩
      have hrx := HRl.out x (List.mem_of_getElem? hx)
      obtain ⟨b, o, hor, hcs⟩ := HV.out.l.below HE.out.2.2
      have hlr : plr = some ⟨b, o, none⟩ := hor.resolve_left (by omega)
      subst hlr
      obtain ⟨g1, ⟨ry, rc, c0, hw, c3⟩, c4, c5⟩ := hcs k x hx
      obtain ⟨q, hq, hqx⟩ : ∃ q, L[k]? = some q ∧ q.x = x := by
        have h1 : (L.map Lq.x)[k]? = some x := by rw [HX.out.e]; exact hx
        rw [List.getElem?_map] at h1
        obtain ⟨q, hq, e⟩ := Option.map_eq_some_iff.1 h1
        exact ⟨q, hq, e⟩
      obtain ⟨gq, hq1, hq2, hq3⟩ := HX.out.q q (List.mem_of_getElem? hq)
      obtain ⟨t0, t1, t2⟩ := lq3_at L k q hq
      rw [hqx] at t0 t1 t2 hq2 hq3
      rw [hq1, hq2] at t0
      have hol := own_same HX.out.l (fun k hk => HE.out.2.2.block k (HX.out.l.lt k hk).2)
      obtain ⟨gl, hgl⟩ : ∃ gl, lr = some ⟨gl, 0, none⟩ := by
        rcases hol.2 with ⟨h', h0⟩ | ⟨g', cap', cur, hv, _⟩
        · exact absurd h0 (by have := HLl.out; omega)
        · cases hv; exact ⟨g', rfl⟩
      subst hgl
      have u0 := own_cell hol t0
      have u1 := own_cell hol t1
      have u2 := own_cell hol t2
      have lgl := (hol.lt gl rfl).2
      have HWv : Hid (Calls Tryd.prog 33 #[.slice (some ⟨gq, 0, none⟩) x.roots.length (x.roots.length + 2), .slice ry x.roots.length rc] wr.drew fun e w' => e = .returned (.bool true) ∧ Below wr.drew.heap.size wr.drew w') := wholeV_any x.roots gq B ry rc wr.drew (by omega) (own_same hq3 (fun k hk => HE.out.2.2.block k (hq3.lt k hk).2)) (hw.rx)
      clear hcs hor hx hq hqx hq1 hq2 hq3 t0 t1 t2 hol hw
      go_upto_region 5 with fail
      have HMk : Hid (∀ wx, Below wr.drew.heap.size wr.drew wx → wx.cell? ⟨w.heap.size, 6, none⟩ = some (.slice (some ⟨gl, 0, none⟩) v.lanes.length lc) ∧ wx.cell? ⟨gl, k * 3, none⟩ = some (.slice (some ⟨gq, 0, none⟩) x.roots.length (x.roots.length + 2)) ∧ wx.cell? ⟨w.heap.size + 1, 6, none⟩ = some (.slice (some ⟨b, o, none⟩) v.lanes.length plc) ∧ wx.cell? ⟨b, o + k * 3, none⟩ = some (.slice ry x.roots.length rc)) := fun wx hb => ⟨(hb.cell (p := ⟨w.heap.size, 6, none⟩) l1').trans x6, (hb.cell (p := ⟨gl, k * 3, none⟩) lgl).trans u0, (hb.cell (p := ⟨w.heap.size + 1, 6, none⟩) l1).trans d6, (hb.cell (p := ⟨b, o + k * 3, none⟩) g1).trans c0⟩
      go_region_held3 (fun wx => wx.cell? ⟨w.heap.size, 6, none⟩ = some (.slice (some ⟨gl, 0, none⟩) v.lanes.length lc) ∧ wx.cell? ⟨gl, k * 3, none⟩ = some (.slice (some ⟨gq, 0, none⟩) x.roots.length (x.roots.length + 2)) ∧ wx.cell? ⟨w.heap.size + 1, 6, none⟩ = some (.slice (some ⟨b, o, none⟩) v.lanes.length plc) ∧ wx.cell? ⟨b, o + k * 3, none⟩ = some (.slice ry x.roots.length rc)) (first | (go_keep; done) | exact ⟨x6, u0, d6, c0⟩ | exact HMk.out _ hb) (first | (go_at_call 33; refine HWv.out.mono ?_; rintro e w' ⟨rfl, hb⟩) | fail)
      have bw : Below wr.heap.size wr w' := (Below.refl _ wr).drew.trans hb
      have HE2 : Hid (VB w' w.heap.size (lvP v gc gy gg (some ⟨gl, 0, none⟩) lc) v ∧ VB w' (w.heap.size + 1) ⟨pcr, pcc, pyr, pyc, pgr, pgc, some ⟨b, o, none⟩, plc⟩ v ∧ Below w.heap.size w w') := HKp.out HE.out bw
      have y6 := (bw.cell (p := ⟨w.heap.size, 6, none⟩) l1').trans x6
      have z6 := (bw.cell (p := ⟨w.heap.size + 1, 6, none⟩) l1).trans d6
      have s1 := (bw.cell (p := ⟨gl, k * 3 + 1, none⟩) lgl).trans u1
      have s2 := (bw.cell (p := ⟨gl, k * 3 + 1 + 1, none⟩) lgl).trans u2
      have r1 := (bw.cell (p := ⟨b, o + k * 3 + 1, none⟩) g1).trans c4
      have r2 := (bw.cell (p := ⟨b, o + k * 3 + 1 + 1, none⟩) g1).trans c5
      clear hb bw HMk HWv x6 u0 u1 u2 d6 c0 c4 c5 HE
      generalize x.sc = bs at s1 r1
      generalize x.en = be at s2 r2
      have zb : (bs == bs) = true := by simp
      have ze : (be == be) = true := by simp
      go_wp2_with fail
      go_quiet (fail)
      go_wp2_with fail
      go_roundw
      case rel => exact ⟨k + 1, by go_num, by first | rfl | simp, by omega, HKp.out HE2.out (below_drewM (Below.refl _ w') _)⟩
      case measure => simp [intOf]; omega
    · have k1 : ¬ (k : Int) < (v.lanes.length : Int) := by omega
      go_wp2_with fail
      go_ret
      exact ⟨rfl, HE.out.2.2⟩
end Go.Proofs.YtphpkedfcmghmaaDoor
