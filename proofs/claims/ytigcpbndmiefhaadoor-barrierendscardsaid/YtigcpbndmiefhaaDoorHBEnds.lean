/- BarrierEnds. -/
import Derived.Test.YtigcpbndmiefhaaDoorHBEndsS
import Derived.Deep.RegionLaw
namespace Go.Proofs.YtigcpbndmiefhaaDoor
open Go.RowKit

theorem infoLn : (Tryd.prog.info? 71).map (fun i => (i.zero, i.size, i.bytes)) = some (some (.agg #[.slice none 0 0, .bool false, .bool false]), 3, 32) := by kernel_rfl
def rootsK (l : List Ln) (k : Nat) : List Int := ((l.take k).map Ln.roots).flatten
theorem rootsK_more {l : List Ln} {k : Nat} {x : Ln} (h : l[k]? = some x) : rootsK l (k + 1) = rootsK l k ++ x.roots := by
  unfold rootsK
  rw [List.take_add_one, h]
  simp
theorem rootsK_le (l : List Ln) (k : Nat) : (rootsK l k).length ≤ (l.map Ln.roots).flatten.length := by
  have : (l.map Ln.roots).flatten = rootsK l k ++ ((l.drop k).map Ln.roots).flatten := by
    unfold rootsK
    rw [← List.flatten_append, ← List.map_append, List.take_append_drop]
  rw [this, List.length_append]
  omega
theorem cl4_one (H : List Cl) : ∀ u ∈ cl4 H, u.oneCell' = true := by
  intro u hu
  obtain ⟨x, _, hx⟩ := List.mem_flatMap.1 hu
  simp only [List.mem_cons, List.not_mem_nil, or_false] at hx
  rcases hx with rfl | rfl | rfl | rfl <;> rfl
/-- What is appended of a heap that comes in. -/
theorem hr_news {W : World} {ra : Option Addr} {H : List Cl} (h : HR W ra H) : (ra = none → H.length = 0) ∧ ∀ ad, ra = some ad → ∀ j u, (cl4 H)[j]? = some u → W.cell? (ad.add j) = some u := by
  obtain ⟨b, o, hor, hcs⟩ := h
  refine ⟨fun e => ?_, fun ad had j u hu => ?_⟩
  · rcases hor with h' | h'
    · exact h'
    · rw [h'] at e; cases e
  · obtain ⟨i, x, hx, hq⟩ := cl4_get H j u hu
    have := hor.resolve_left (by have := (List.getElem?_eq_some_iff.1 hx).1; omega)
    rw [this] at had
    cases had
    rw [ad_add]
    obtain ⟨_, ⟨a0, a1, a2, a3⟩, _⟩ := hcs i x hx
    rcases hq with ⟨rfl, rfl⟩ | ⟨rfl, rfl⟩ | ⟨rfl, rfl⟩ | ⟨rfl, rfl⟩
    · exact a0
    · exact a1
    · exact a2
    · exact a3
theorem wr_news {W : World} {ra : Option Addr} {l : List Int} (h : WR W ra l) : (ra = none → l.length = 0) ∧ ∀ ad, ra = some ad → ∀ j u, (l.map (Value.int .u64))[j]? = some u → W.cell? (ad.add j) = some u := by
  obtain ⟨b, o, hor, hcs⟩ := h
  refine ⟨fun e => ?_, fun ad had j u hu => ?_⟩
  · rcases hor with h' | h'
    · exact h'
    · rw [h'] at e; cases e
  · rw [List.getElem?_map] at hu
    obtain ⟨x, hx, rfl⟩ := Option.map_eq_some_iff.1 hu
    obtain ⟨g1, g2, _⟩ := hcs j x hx
    have := hor.resolve_left (by have := (List.getElem?_eq_some_iff.1 hx).1; omega)
    rw [this] at had
    cases had
    rw [ad_add]
    exact g2
theorem words_one (l : List Int) : ∀ u ∈ l.map (Value.int .u64), u.oneCell' = true := fun u hu => by obtain ⟨x, _, rfl⟩ := List.mem_map.1 hu; rfl
theorem hr_ok {W : World} {ra : Option Addr} {H : List Cl} (h : HR W ra H) : ∀ x ∈ H, OkK x := fun x hx => by
  obtain ⟨_, _, _, h2⟩ := h
  obtain ⟨j, hj⟩ := List.getElem?_of_mem hx
  exact (h2 j x hj).2.2
theorem vb_fz {W : World} {b : Nat} {p : Vp} {v : Vw} (h : VB W b p v) (j : Nat) : W.frozen? ⟨b, j, none⟩ = false := by
  unfold VB at h
  simp [World.frozen?, h]
theorem own_fz {w : World} {base e size n cap g : Nat} {xs : List Value} (h : w.ownsRow base e size (.slice (some ⟨g, 0, none⟩) n cap) n xs) (j : Nat) : w.frozen? ⟨g, j, none⟩ = false := by
  obtain ⟨cs, h1, _⟩ := own_out h
  simp [World.frozen?, h1]
theorem wr_rng {W : World} {ra : Option Addr} {l : List Int} (h : WR W ra l) : ∀ x ∈ l, Rng x := fun x hx => by
  obtain ⟨_, _, _, h2⟩ := h
  obtain ⟨j, hj⟩ := List.getElem?_of_mem hx
  exact (h2 j x hj).2.2
theorem okh_of {v : Vw} (h : wordsOk v = true) (hk : ∀ x ∈ v.h, OkK x) : OkH v.h := fun x hx hk0 => by
  obtain ⟨j, hj⟩ := List.getElem?_of_mem hx
  have hf := used_fits h hj (by simp [usedB, hk0])
  have ho := hk x hx
  exact ⟨⟨hf.1, ho.a⟩, hf.2, ho.b⟩
/-- How the heap stands while greys are turned. -/
structure TH (n k : Nat) (H : List Cl) : Prop where
  len : H.length = n
  c : ∀ (j : Nat) x, j < k → H[j]? = some x → x.c ≠ 1
  ok : ∀ x ∈ H, OkK x
theorem TH.next {n k : Nat} {H : List Cl} (h : TH n k H) {x : Cl} (hx : H[k]? = some x) (hc : x.c ≠ 1) : TH n (k + 1) H := ⟨h.len, fun j y hj hy => by
  by_cases e : j = k
  · subst e; rw [hx] at hy; cases hy; exact hc
  · exact h.c j y (by omega) hy, h.ok⟩
theorem TH.turn {n k : Nat} {H : List Cl} (h : TH n k H) {x : Cl} (hx : H[k]? = some x) : TH n (k + 1) (H.set k ⟨x.k, 2, x.a, x.b⟩) := by
  refine ⟨by rw [List.length_set]; exact h.len, fun j y hj hy => ?_, fun y hy => ?_⟩
  · rw [List.getElem?_set] at hy
    split at hy
    · split at hy
      · cases hy; show (2 : Int) ≠ 1; decide
      · cases hy
    · exact h.c j y (by omega) hy
  · rcases List.mem_or_eq_of_mem_set hy with hy | rfl
    · exact h.ok y hy
    · have := h.ok x (List.mem_of_getElem? hx)
      exact ⟨this.k, ⟨by show (0 : Int) ≤ 2; decide, by show (2 : Int) ≤ 255; decide⟩, this.a, this.b⟩
/-- How the lanes stand while they are copied. -/
structure TL (w0 : World) (v : Vw) (k : Nat) (L : List Lq) : Prop where
  len : L.length = k
  ok : ∀ q ∈ L, q.x.sc = true ∧ WR w0 q.ra q.x.roots ∧ q.x.roots.length ≤ 281474976710656
  ro : (L.map Lq.x).map Ln.roots = (v.lanes.take k).map Ln.roots
theorem TL.next {w0 : World} {v : Vw} {k : Nat} {L : List Lq} (h : TL w0 v k L) {x : Ln} (hx : v.lanes[k]? = some x) {ra : Option Addr} (cc : Nat) (hw : WR w0 ra x.roots) (hl : x.roots.length ≤ 281474976710656) : TL w0 v (k + 1) (L ++ [⟨ra, cc, ⟨x.roots, true, x.en⟩⟩]) := by
  refine ⟨by rw [List.length_append, h.len]; rfl, fun q hq => ?_, ?_⟩
  · rcases List.mem_append.1 hq with hq | hq
    · exact h.ok q hq
    · rw [List.mem_singleton.1 hq]; exact ⟨rfl, hw, hl⟩
  · rw [List.take_add_one, hx, List.map_append, List.map_append, h.ro]
    simp
theorem ho_all {v : Vw} (hm : mayV v = true) : ∃ (is : Bool) (at' : Int), hoE v = .tuple #[.bool is, .int .i64 at', .int .i64 0] ∧ (onB v.ph = false → is = true ∧ at' = 0) ∧ (onB v.ph = true → (is = true ∧ lossM v = none) ∨ (is = false ∧ ∃ (c : Nat) (x : Cl), at' = (c : Int) ∧ v.h[c]? = some x ∧ whiteB x = true)) := by
  unfold hoE hoM
  rw [hm]
  cases hon : onB v.ph with
  | false => exact ⟨true, 0, rfl, fun _ => ⟨rfl, rfl⟩, fun h => by cases h⟩
  | true =>
    cases hl : lossM v with
    | none => exact ⟨true, 0, rfl, (fun h => by cases h), fun _ => .inl ⟨rfl, rfl⟩⟩
    | some c =>
      obtain ⟨x, _, hx, hw⟩ := loss_white v.h 0 c hl
      exact ⟨false, c, rfl, (fun h => by cases h), fun _ => .inr ⟨rfl, c, x, rfl, by simpa using hx, hw⟩⟩
theorem ho_not {v : Vw} (hm : mayV v = false) : hoE v = .tuple #[.bool false, .int .i64 0, .int .i64 130] := by
  unfold hoE hoM
  rw [hm]
  rfl
set_option maxRecDepth 100000 in
set_option maxHeartbeats 32000000 in
theorem barrierEnds_walk (p : Vp) (v : Vw) (w : World) (hV : VL w p v) (_hph : 0 ≤ v.ph ∧ v.ph ≤ 255) (hT : Tab w) :
    Calls Tryd.prog 7 #[.agg (p.cells v)] w fun e w' => e = .returned (.bool true) ∧ Below w.heap.size w w' := by
  obtain ⟨pcr, pcc, pyr, pyc, pgr, pgc, plr, plc⟩ := p
  have HV : Hid (VL w ⟨pcr, pcc, pyr, pyc, pgr, pgc, plr, plc⟩ v) := hV
  have HT : Hid (Tab w) := hT
  obtain ⟨W1, hW1⟩ : ∃ W1, w.alloc (.cells ((⟨pcr, pcc, pyr, pyc, pgr, pgc, plr, plc⟩ : Vp).cells v) 65) = W1 := ⟨_, rfl⟩
  have b1 : Below w.heap.size w W1 := by rw [← hW1]; exact (Below.refl _ w).alloc (Nat.le_refl _) _
  have v1 : VB W1 w.heap.size ⟨pcr, pcc, pyr, pyc, pgr, pgc, plr, plc⟩ v := by unfold VB; rw [← hW1]; exact World.alloc_heap_new w _
  have HE1 : Hid (EV w W1 ⟨pcr, pcc, pyr, pyc, pgr, pgc, plr, plc⟩ v (.slice none 0 0) [] (.slice none 0 0) [] (.slice none 0 0) []) := ⟨v1, World.ownsRow_nil _ _ _ _, World.ownsRow_nil _ _ _ _, World.ownsRow_nil _ _ _ _, b1⟩
  have HO : Hid _ := ofView_any ⟨pcr, pcc, pyr, pyc, pgr, pgc, plr, plc⟩ v W1 (hV.kc (kc_below (Nat.le_refl _) b1))
  obtain ⟨d0, d1, d2, d3, d4, d5, d6⟩ := v1.at7
  have l1 : w.heap.size < W1.heap.size := (Array.getElem?_eq_some_iff.1 v1).1
  obtain ⟨i0, hi0, hz0, hz1, hz2⟩ := info_parts infoCl
  obtain ⟨i1, hi1, hy0, hy1, hy2⟩ := info_parts infoWd
  obtain ⟨i2, hi2, hx0, hx1, hx2⟩ := info_parts infoLn
  clear hV hT b1 v1
  unfold Vp.cells at hW1 HO
  unfold Vp.cells
  dsimp only at hW1 HO d0 d3 d4 d6 ⊢
  have HW1 : Hid _ := hW1
  clear hW1
  go_enter Tryd.func7, Tryd.ntmps7
  go_upto_region 1 with fail
  rw [HW1.out]
  clear HW1
  go_wp2_with fail
  refine Calls.mono HO.out ?_
  rintro e W2 ⟨rfl, hb2⟩
  have HE2 := HE1.out.below hb2
  clear HO HE1 d0 d1 d2 d3 d4 d5 d6 l1 hb2
  by_cases hbig : 20000 < ofV v
  · have k0 : (ofV v : Int) > 20000 := by omega
    go_wp2
    go_ret
    exact ⟨rfl, HE2.bel⟩
  have k0 : ¬ (ofV v : Int) > 20000 := by omega
  have HSm : Hid (v.h.length + v.grey.length + v.gl.length + v.lanes.length + (v.lanes.map Ln.roots).flatten.length ≤ 20000) := ofLn_le _ _ (by show ofV v ≤ 20000; omega)
  have HK : Hid _ := known_any W2 (HT.out.below HE2.bel)
  have HE2' : Hid (EV w W2 ⟨pcr, pcc, pyr, pyc, pgr, pgc, plr, plc⟩ v (.slice none 0 0) [] (.slice none 0 0) [] (.slice none 0 0) []) := HE2
  clear HE2
  go_wp2_with fail
  refine Calls.mono HK.out ?_
  rintro e W3 ⟨rfl, hb3⟩
  have e3 := HE2'.out.below hb3
  clear HK HE2' hb3 k0 hbig
  obtain ⟨d0, d1, d2, d3, d4, d5, d6⟩ := e3.vb.at7
  dsimp only at d0 d3 d4 d6
  have l3 := e3.lt
  obtain ⟨f3, f5⟩ : W3.frozen? ⟨w.heap.size, 3, none⟩ = false ∧ W3.frozen? ⟨w.heap.size, 5, none⟩ = false := ⟨vb_fz e3.vb 3, vb_fz e3.vb 5⟩
  have HE3 : Hid (EV w ((W3.setCell ⟨w.heap.size, 5, none⟩ (.int .i64 v.gl.length)).setCell ⟨w.heap.size, 3, none⟩ (.slice none 0 0)) ⟨pcr, pcc, none, 0, pgr, pgc, plr, plc⟩ ⟨v.h, v.ph, v.sw, [], v.gl, v.gl.length, v.lanes⟩ (.slice none 0 0) [] (.slice none 0 0) [] (.slice none 0 0) []) := (e3.field (p' := ⟨pcr, pcc, pyr, pyc, pgr, pgc, plr, plc⟩) (v' := ⟨v.h, v.ph, v.sw, v.grey, v.gl, v.gl.length, v.lanes⟩) 5 _ rfl).field 3 _ rfl
  clear e3
  go_upto_region 7 with fail
  generalize ((W3.setCell ⟨w.heap.size, 5, none⟩ (.int .i64 v.gl.length)).setCell ⟨w.heap.size, 3, none⟩ (.slice none 0 0)) = W4 at HE3 ⊢
  clear d0 d1 d2 d3 d4 d5 d6 l3 f3 f5
  obtain ⟨d0, d1, d2, d3, d4, d5, d6⟩ := HE3.out.vb.at7
  dsimp only at d0
  have l4 := HE3.out.lt
  have HN : Hid _ := hr_news (HV.out.h.below HE3.out.bel)
  have q1 : v.h.length ≤ 20000 := by have := HSm.out; omega
  have q2 : v.gl.length ≤ 20000 := by have := HSm.out; omega
  have q3 : v.lanes.length ≤ 20000 := by have := HSm.out; omega
  go_wp2_with (at_builtin; refine stop_of ?_)
  unfold Hid
  refine wpList_append_all _ rfl _ _ 25 rfl w.heap.size 58 i0 _ 4 24 Tryd.underlying25 hi0 hz0 hz1 hz2 rfl (by decide) (.slice none 0 0) 0 [] rfl (World.ownsRow_nil _ _ _ _) pcr v.h.length pcc (cl4 v.h) rfl (cl4_len _) HN.out.1 HN.out.2 (cl4_one _) (by unfold maxLen; omega) (by omega) HE3.out.bel.size ?_
  intro rh ch W5 hown5 hgr5 _
  rw [Nat.zero_add, List.nil_append] at hown5
  have HE5 : Hid (EV w W5 ⟨pcr, pcc, none, 0, pgr, pgc, plr, plc⟩ ⟨v.h, v.ph, v.sw, [], v.gl, v.gl.length, v.lanes⟩ (.slice rh v.h.length ch) v.h (.slice none 0 0) [] (.slice none 0 0) []) := HE3.out.growH hgr5 hown5
  have HTh : Hid (TH v.h.length 0 v.h) := ⟨rfl, fun _ _ hj => absurd hj (Nat.not_lt_zero _), hr_ok HV.out.h⟩
  clear hown5 hgr5 HE3 HN d0 d1 d2 d3 d4 d5 d6 l4
  rw [Nat.zero_add]
  go_wp2_with fail
  go_loopw [5] (fun i wr => ∃ (k : Nat) (H : List Cl), i = .int .i64 k ∧ k ≤ v.h.length ∧ Hid (TH v.h.length k H) ∧ Hid (EV w wr ⟨pcr, pcc, none, 0, pgr, pgc, plr, plc⟩ ⟨v.h, v.ph, v.sw, [], v.gl, v.gl.length, v.lanes⟩ (.slice rh v.h.length ch) H (.slice none 0 0) [] (.slice none 0 0) [])) (fun i _ => v.h.length - (intOf i).toNat)
  case atStart => exact ⟨0, v.h, rfl, Nat.zero_le _, HTh, HE5⟩
  case round =>
    clear HTh HE5
    obtain ⟨k, H, rfl, hk, HTh, HE⟩ := hrel
    by_cases hkl : k < v.h.length
    · have k1 : (k : Int) < (v.h.length : Int) := by omega
      obtain ⟨x, hx⟩ : ∃ x, H[k]? = some x := ⟨_, List.getElem?_eq_getElem (by rw [HTh.out.len]; exact hkl)⟩
      have hrow := HE.out.hr
      rw [HTh.out.len] at hrow
      obtain ⟨gh, rfl⟩ : ∃ gh, rh = some ⟨gh, 0, none⟩ := by
        rcases hrow.2 with ⟨_, h0⟩ | ⟨g, cap', cur, hv, _⟩
        · omega
        · cases hv; exact ⟨g, rfl⟩
      obtain ⟨q0, qc, _, _⟩ := cl4_at H k x hx
      have c1 := own_cell hrow qc
      have fz : wr.frozen? ⟨gh, k * 4 + 1, none⟩ = false := own_fz hrow (k * 4 + 1)
      have lg := (hrow.lt gh rfl).2
      clear q0 qc hrow
      by_cases hc : x.c = 1
      · have z1 : (x.c == 1) = true := by simp [hc]
        have HE2 : Hid (EV w (wr.setCell ⟨gh, k * 4 + 1, none⟩ (.int .u8 2)) ⟨pcr, pcc, none, 0, pgr, pgc, plr, plc⟩ ⟨v.h, v.ph, v.sw, [], v.gl, v.gl.length, v.lanes⟩ (.slice (some ⟨gh, 0, none⟩) v.h.length ch) (H.set k ⟨x.k, 2, x.a, x.b⟩) (.slice none 0 0) [] (.slice none 0 0) []) := HE.out.turn HTh.out.len.symm hx 2
        have HT2 : Hid (TH v.h.length (k + 1) (H.set k ⟨x.k, 2, x.a, x.b⟩)) := HTh.out.turn hx
        clear hx HE HTh hc
        go_wp2
        go_roundw
        case rel => exact ⟨k + 1, H.set k ⟨x.k, 2, x.a, x.b⟩, by go_num, by omega, HT2, HE2⟩
        case measure => simp [intOf]; omega
      · have z1 : (x.c == 1) = false := by simp [hc]
        have HT2 : Hid (TH v.h.length (k + 1) H) := HTh.out.next hx hc
        clear hx HTh hc
        go_wp2
        go_roundw
        case rel => exact ⟨k + 1, H, by go_num, by omega, HT2, HE⟩
        case measure => simp [intOf]; omega
    · have k1 : ¬ (k : Int) < (v.h.length : Int) := by omega
      have HT2 : Hid (TH v.h.length v.h.length H) := by
        have e : k = v.h.length := by omega
        have h' := HTh.out
        rw [e] at h'
        exact h'
      have HRo : Hid (wr.ownsRow w.heap.size 58 4 (.slice rh v.h.length ch) v.h.length (cl4 H)) := by
        have h' := HE.out.hr
        rw [HTh.out.len] at h'
        exact h'
      have l6 := HE.out.lt
      have d0 := (HE.out.vb.at7).1
      have f0 := vb_fz HE.out.vb 0
      have HE6 : Hid (EV w (wr.setCell ⟨w.heap.size, 0, none⟩ (.slice rh v.h.length ch)) ⟨rh, ch, none, 0, pgr, pgc, plr, plc⟩ ⟨H, v.ph, v.sw, [], v.gl, v.gl.length, v.lanes⟩ (.slice rh v.h.length ch) H (.slice none 0 0) [] (.slice none 0 0) []) := HE.out.field 0 _ (by unfold Vp.cells; dsimp only; rw [HTh.out.len]; rfl)
      clear HTh HE
      go_upto_region 16 with fail
      generalize wr.setCell ⟨w.heap.size, 0, none⟩ (.slice rh v.h.length ch) = W6 at HE6 ⊢
      clear d0 f0 l6 HRo
      obtain ⟨d0, d1, d2, d3, d4, d5, d6⟩ := HE6.out.vb.at7
      dsimp only at d4
      have l6 := HE6.out.lt
      have HN : Hid _ := wr_news (HV.out.g.below HE6.out.bel)
      go_wp2_with (at_builtin; refine stop_of ?_)
      unfold Hid
      refine wpList_append_all _ rfl _ _ 62 rfl w.heap.size 24 i1 _ 1 8 Tryd.underlying62 hi1 hy0 hy1 hy2 rfl (by decide) (.slice none 0 0) 0 [] rfl (World.ownsRow_nil _ _ _ _) pgr v.gl.length pgc (v.gl.map (Value.int .u64)) rfl (by simp) HN.out.1 HN.out.2 (words_one _) (by unfold maxLen; omega) (by omega) HE6.out.bel.size ?_
      intro rg cg W7 hown7 hgr7 _
      rw [Nat.zero_add, List.nil_append] at hown7
      have HE7 : Hid (EV w W7 ⟨rh, ch, none, 0, pgr, pgc, plr, plc⟩ ⟨H, v.ph, v.sw, [], v.gl, v.gl.length, v.lanes⟩ (.slice rh v.h.length ch) H (.slice none 0 0) [] (.slice rg v.gl.length cg) v.gl) := HE6.out.growR hgr7 hown7
      have HTl : Hid (TL w v 0 []) := ⟨rfl, fun _ hq => (by cases hq), rfl⟩
      have HRt : Hid (v.gl = v.gl ++ rootsK v.lanes 0) := by show _ = _; unfold rootsK; simp
      clear hown7 hgr7 HE6 HN d0 d1 d2 d3 d4 d5 d6 l6
      rw [Nat.zero_add]
      go_wp2_with fail
      go_loopw [6, 7, 8, 9] (fun vl vr i _ wr => ∃ (k : Nat) (L : List Lq) (R : List Int) (rl rr : Option Addr) (cl cr : Nat), i = .int .i64 k ∧ vl = .slice rl k cl ∧ vr = .slice rr R.length cr ∧ k ≤ v.lanes.length ∧ Hid (R = v.gl ++ rootsK v.lanes k) ∧ Hid (TL w v k L) ∧ Hid (EV w wr ⟨rh, ch, none, 0, pgr, pgc, plr, plc⟩ ⟨H, v.ph, v.sw, [], v.gl, v.gl.length, v.lanes⟩ (.slice rh v.h.length ch) H (.slice rl k cl) L (.slice rr R.length cr) R)) (fun _ _ i _ _ => v.lanes.length - (intOf i).toNat)
      case atStart => exact ⟨0, [], v.gl, none, rg, 0, cg, rfl, rfl, rfl, Nat.zero_le _, HRt, HTl, HE7⟩
      case round =>
        clear HTl HRt HE7
        obtain ⟨k, L, R, rl, rr, cl, cr, rfl, rfl, rfl, hk, HRt, HTl, HE⟩ := hrel
        by_cases hkl : k < v.lanes.length
        · have k1 : (k : Int) < (v.lanes.length : Int) := by omega
          obtain ⟨x, hx⟩ : ∃ x, v.lanes[k]? = some x := ⟨_, List.getElem?_eq_getElem hkl⟩
          obtain ⟨d0, d1, d2, d3, d4, d5, d6⟩ := HE.out.vb.at7
          dsimp only at d6
          clear d0 d1 d2 d3 d4 d5
          have l7 := HE.out.lt
          obtain ⟨b, o, hor, hcs⟩ := HV.out.l
          obtain ⟨g1, ⟨ry, rc, c0, hw, c3⟩, c4, c5⟩ := hcs k x hx
          have hlr : plr = some ⟨b, o, none⟩ := hor.resolve_left (by omega)
          subst hlr
          have bc := fun q => HE.out.bel.cell (p := ⟨b, q, none⟩) g1
          have e0 := (bc _).trans c0
          have e1 := (bc _).trans c4
          have e2 := (bc _).trans c5
          have HTn : Hid (TL w v (k + 1) (L ++ [⟨ry, rc, ⟨x.roots, true, x.en⟩⟩])) := HTl.out.next hx rc hw c3
          have HRn : Hid (R ++ x.roots = v.gl ++ rootsK v.lanes (k + 1)) := by show _ = _; rw [rootsK_more hx, HRt.out, List.append_assoc]
          have HWx : Hid (WR w ry x.roots) := hw
          clear hcs hor c0 c4 c5 bc hx hw
          go_upto_region 22 with fail
          have hbl : Below wr.heap.size wr (wr.alloc (.cells #[.slice ry x.roots.length rc, .bool true, .bool x.en] 71)) := (Below.refl _ wr).alloc (Nat.le_refl _) _
          have hnw : (wr.alloc (.cells #[.slice ry x.roots.length rc, .bool true, .bool x.en] 71)).heap[wr.heap.size]? = some (.cells #[.slice ry x.roots.length rc, .bool true, .bool x.en] 71 (0, 0)) := World.alloc_heap_new _ _
          have HE7 : Hid _ := HE.out.below hbl
          have HFr : Hid (∀ g, (Value.slice rl k cl).ownBlock = some g → g ≠ wr.heap.size) := fun g hg e => by
            have := (HE.out.lr.lt g hg).2
            omega
          clear HE hbl e0 e1 e2 d6 l7 c3 g1
          generalize wr.alloc (.cells #[.slice ry x.roots.length rc, .bool true, .bool x.en] 71) = W7 at hnw HE7 ⊢
          generalize wr.heap.size = gx at hnw HFr ⊢
          have n0 := heap_cell (j := 0) hnw rfl
          have n1 := heap_cell (j := 1) hnw rfl
          have n2 := heap_cell (j := 2) hnw rfl
          have lx := heap_lt hnw
          have HNw : Hid _ := hnw
          have HE8 : Hid _ := HE7.out.below ((Below.refl _ W7).alloc (Nat.le_refl _) (.cells #[.slice ry x.roots.length rc, .bool true, .bool x.en] 71))
          clear hnw
          go_wp2_with (at_builtin; refine stop_of ?_)
          unfold Hid
          refine wpList_append_all _ rfl _ _ 63 rfl w.heap.size 71 i2 _ 3 32 Tryd.underlying63 hi2 hx0 hx1 hx2 rfl (by decide) (.slice rl k cl) k (lq3 L) rfl (by have h' := HE8.out.lr; rw [HTl.out.len] at h'; exact h') (some ⟨W7.heap.size, 0, none⟩) 1 1 [.slice ry x.roots.length rc, .bool true, .bool x.en] rfl rfl (fun e => by cases e) (fun ad had j u hu => by cases had; rw [ad_add, Nat.zero_add]; exact new_cell W7 _ _ j u hu) (by intro u hu; simp at hu; rcases hu with rfl | rfl | rfl <;> rfl) (by unfold maxLen; omega) (by omega) HE8.out.bel.size ?_
          intro rl' cl' W8 hown8 hgr8 _
          have HE9 : Hid (EV w W8 ⟨rh, ch, none, 0, pgr, pgc, some ⟨b, o, none⟩, plc⟩ ⟨H, v.ph, v.sw, [], v.gl, v.gl.length, v.lanes⟩ (.slice rh v.h.length ch) H (.slice rl' (k + 1) cl') (L ++ [⟨ry, rc, ⟨x.roots, true, x.en⟩⟩]) (.slice rr R.length cr) R) := HE8.out.growL hgr8 (by rw [HTn.out.len, lq3_app]; exact hown8)
          have n0' : W8.cell? ⟨gx, 0, none⟩ = some (.slice ry x.roots.length rc) := by
            have h8 : W8.heap[gx]? = W7.heap[gx]? := (hgr8.block gx (by rw [World.size_alloc]; omega) (fun e => HFr.out gx e.symm rfl)).trans (Below.heap_alloc _ _ _ lx)
            exact (World.cell?_of_block (w := W7) h8).trans n0
          have lx8 : gx < W8.heap.size := by
            have := hgr8.size
            rw [World.size_alloc] at this
            omega
          clear hown8 hgr8 HE8 HE7 n0 n1 n2 lx HNw HFr HTl
          have HN : Hid _ := wr_news (HWx.out.below HE9.out.bel)
          have hRl : R.length + x.roots.length ≤ 20000 := by
            have h1 := congrArg List.length HRn.out
            have h2 := rootsK_le v.lanes (k + 1)
            have h3 := HSm.out
            rw [List.length_append, List.length_append] at h1
            omega
          go_wp2_with (at_builtin; refine stop_of ?_)
          unfold Hid
          refine wpList_append_all _ rfl _ _ 62 rfl w.heap.size 24 i1 _ 1 8 Tryd.underlying62 hi1 hy0 hy1 hy2 rfl (by decide) (.slice rr R.length cr) R.length (R.map (Value.int .u64)) rfl HE9.out.rr ry x.roots.length rc (x.roots.map (Value.int .u64)) rfl (by simp) HN.out.1 HN.out.2 (words_one _) (by unfold maxLen; omega) (by omega) HE9.out.bel.size ?_
          intro rr2 cr2 W9 hown9 hgr9 _
          have HE10 : Hid (EV w W9 ⟨rh, ch, none, 0, pgr, pgc, some ⟨b, o, none⟩, plc⟩ ⟨H, v.ph, v.sw, [], v.gl, v.gl.length, v.lanes⟩ (.slice rh v.h.length ch) H (.slice rl' (k + 1) cl') (L ++ [⟨ry, rc, ⟨x.roots, true, x.en⟩⟩]) (.slice rr2 (R.length + x.roots.length) cr2) (R ++ x.roots)) := HE9.out.growR hgr9 (by rw [List.length_append, List.map_append]; exact hown9)
          clear hown9 hgr9 HE9 HN n0' lx8
          have hla : (R ++ x.roots).length = R.length + x.roots.length := List.length_append
          go_wp2
          go_roundw
          case rel => exact ⟨k + 1, L ++ [⟨ry, rc, ⟨x.roots, true, x.en⟩⟩], R ++ x.roots, rl', rr2, cl', cr2, by go_num, rfl, by rw [hla], by omega, HRn, HTn, by rw [hla]; exact HE10⟩
          case measure => simp [intOf]; omega
        · have k1 : ¬ (k : Int) < (v.lanes.length : Int) := by omega
          have l10 := HE.out.lt
          have d6 := (HE.out.vb.at7).2.2.2.2.2.2
          dsimp only at d6
          have f6 := vb_fz HE.out.vb 6
          have HRe : Hid (R = v.gl ++ ((L.map Lq.x).map Ln.roots).flatten) := by
            show _ = _
            rw [HRt.out, HTl.out.ro]
            rfl
          obtain ⟨v', HVe⟩ : ∃ v' : Vw, Hid (v' = ⟨H, v.ph, v.sw, [], v.gl, v.gl.length, L.map Lq.x⟩) := ⟨_, rfl⟩
          have HE10 : Hid (EV w (wr.setCell ⟨w.heap.size, 6, none⟩ (.slice rl k cl)) ⟨rh, ch, none, 0, pgr, pgc, rl, cl⟩ v' (.slice rh v.h.length ch) H (.slice rl k cl) L (.slice rr R.length cr) R) := by
            rw [HVe.out]
            exact HE.out.field 6 _ (by unfold Vp.cells; dsimp only; rw [List.length_map, HTl.out.len]; rfl)
          have HVL : Hid (VL (wr.setCell ⟨w.heap.size, 6, none⟩ (.slice rl k cl)) ⟨rh, ch, none, 0, pgr, pgc, rl, cl⟩ v') := by
            have hb := HE10.out.bel
            rw [HVe.out]
            refine ⟨hr_own HE10.out.hr HT2.out.ok, by have := HT2.out.len; show H.length ≤ _; omega, ⟨0, 0, .inl rfl, fun j x hx => by simp at hx⟩, Nat.zero_le _, HV.out.g.below hb, by show v.gl.length ≤ _; omega, lr_own HE10.out.lr (fun q hq => ⟨(HTl.out.ok q hq).2.1.below hb, (HTl.out.ok q hq).2.2⟩), ?_⟩
            show (L.map Lq.x).length ≤ _
            rw [List.length_map, HTl.out.len]
            omega
          have HSt : Hid (Still v') := by
            show Still v'
            rw [HVe.out]
            refine ⟨rfl, fun x hx => ?_, fun x hx => ?_⟩
            · obtain ⟨j, hj⟩ := List.getElem?_of_mem hx
              have hj' : H[j]? = some x := hj
              exact HT2.out.c j x (by have := (List.getElem?_eq_some_iff.1 hj').1; have := HT2.out.len; omega) hj'
            · obtain ⟨q, hq, rfl⟩ := List.mem_map.1 hx
              exact (HTl.out.ok q hq).1
          have HRv : Hid (R = rootsV v') := by show _ = _; rw [HVe.out]; exact HRe.out
          have HLn : Hid (v'.h.length = v.h.length) := by show _ = _; rw [HVe.out]; exact HT2.out.len
          have q4 : v'.h.length ≤ 20000 := by rw [HLn.out]; exact q1
          have HHv : Hid (v'.h = H) := by show _ = _; rw [HVe.out]
          have HRl : Hid (R.length ≤ 20000) := by
            have h2 := rootsK_le v.lanes k
            have h3 := HSm.out
            show R.length ≤ 20000
            rw [HRt.out, List.length_append]
            omega
          have HRg : Hid (∀ x ∈ R, Rng x) := by
            show ∀ x ∈ R, Rng x
            rw [HRe.out]
            intro x hx
            rcases List.mem_append.1 hx with hx | hx
            · exact wr_rng HV.out.g x hx
            · obtain ⟨l, hl, hxl⟩ := List.mem_flatten.1 hx
              obtain ⟨y, hy, rfl⟩ := List.mem_map.1 hl
              obtain ⟨q, hq, rfl⟩ := List.mem_map.1 hy
              exact wr_rng (HTl.out.ok q hq).2.1 x hxl
          clear HTl HRt HE HVe HRe
          go_upto_region 25 with fail
          generalize wr.setCell ⟨w.heap.size, 6, none⟩ (.slice rl k cl) = W10 at HE10 HVL ⊢
          clear d6 f6 l10
          have HGu : Hid _ := guarded_any _ v' W10 HVL.out (HT.out.below HE10.out.bel) (by rw [HLn.out]; omega)
          unfold Vp.cells at HGu
          dsimp only at HGu
          obtain ⟨d0, d1, d2, d3, d4, d5, d6⟩ := HE10.out.vb.at7
          dsimp only at d0 d3 d4 d6
          have l10 := HE10.out.lt
          go_wp2_with fail
          refine Calls.mono HGu.out ?_
          rintro e W11 ⟨hb11, hor⟩
          have HE11 : Hid _ := HE10.out.below hb11
          have HVL2 : Hid _ := HVL.out.kc (kc_below (Nat.le_refl _) hb11)
          have HHo : Hid _ := holds_any _ v' W11 HVL2.out (HT.out.below HE11.out.bel) (by rw [HLn.out]; omega)
          unfold Vp.cells at HHo
          dsimp only at HHo
          clear d0 d1 d2 d3 d4 d5 d6 l10 HGu HE10 HVL hb11
          obtain ⟨d0, d1, d2, d3, d4, d5, d6⟩ := HE11.out.vb.at7
          dsimp only at d0 d3 d4 d6
          have l11 := HE11.out.lt
          rcases hor with ⟨hm, rfl⟩ | ⟨hm, g1, g2, rfl, hd1, _, _, _, _⟩
          · rw [ho_not hm] at HHo
            clear hm
            go_wp2_with fail
            refine Calls.mono HHo.out ?_
            rintro e W12 ⟨rfl, hb12⟩
            have HE12 : Hid _ := HE11.out.below hb12
            clear HHo HE11 hb12 HVL2 d0 d1 d2 d3 d4 d5 d6 l11
            go_wp2
            go_ret
            exact ⟨rfl, HE12.out.bel⟩
          · obtain ⟨is, at', hho, HF1, HF2⟩ := ho_all hm
            rw [hho] at HHo
            have HF1' : Hid (onB v'.ph = false → is = true ∧ at' = 0) := HF1
            have HF2' : Hid (onB v'.ph = true → (is = true ∧ lossM v' = none) ∨ (is = false ∧ ∃ (c : Nat) (x : Cl), at' = (c : Int) ∧ v'.h[c]? = some x ∧ whiteB x = true)) := HF2
            have HOw : Hid (wordsOk v' = true) := may_words hm
            have HD1 : Hid (DR W11 4 g1 v'.h.length (fun k u => u = .bool (byM v' k))) := hd1
            clear hho HF1 HF2 hm hd1
            go_wp2_with fail
            refine Calls.mono HHo.out ?_
            rintro e W12 ⟨rfl, hb12⟩
            have HE12 : Hid _ := HE11.out.below hb12
            have HD2 : Hid (DR W12 4 g1 v'.h.length (fun k u => u = .bool (byM v' k))) := HD1.out.kept (hb12.block _ HD1.out.lt)
            clear HHo HE11 hb12 HVL2 d0 d1 d2 d3 d4 d5 d6 l11 HD1
            go_wp2_with fail
            go_loopw [16] (fun i wr => ∃ (j : Nat), i = .int .i64 j ∧ j ≤ v'.h.length ∧ wr = W12) (fun i _ => v'.h.length - (intOf i).toNat)
            case atStart => exact ⟨0, rfl, Nat.zero_le _, rfl⟩
            case round =>
              obtain ⟨j, rfl, hj, rfl⟩ := hrel
              by_cases hjl : j < v'.h.length
              · have k2 : (j : Int) < (v'.h.length : Int) := by omega
                obtain ⟨u, hu, hu2⟩ := HD2.out.cell hjl
                rw [hu2, HSt.out.by j] at hu
                have lg := HD2.out.lt
                clear hu2
                go_wp2
                go_roundw
                case rel => exact ⟨j + 1, by go_num, by omega, trivial⟩
                case measure => simp [intOf]; omega
              · have k2 : ¬ (j : Int) < (v'.h.length : Int) := by omega
                have d1 := (HE12.out.vb.at7).2.1
                have l12 := HE12.out.lt
                clear HD2
                by_cases hp1 : v'.ph = 1 ∨ v'.ph = 2
                · have hon : onB v'.ph = true := by unfold onB; rcases hp1 with h | h <;> rw [h] <;> rfl
                  have HF : Hid ((is = true ∧ lossM v' = none) ∨ (is = false ∧ ∃ (c : Nat) (x : Cl), at' = (c : Int) ∧ v'.h[c]? = some x ∧ whiteB x = true)) := HF2'.out hon
                  clear HF1' HF2' hon
                  have HOk : Hid (∀ x ∈ v'.h, OkK x) := by
                    show ∀ x ∈ v'.h, OkK x
                    rw [HHv.out]
                    exact HT2.out.ok
                  have HRc : Hid _ := reach_any v'.h R rh rr ch cr wr (by rw [HLn.out]; omega) (by have := HRl.out; omega) (by rw [HHv.out]; exact hr_own HE12.out.hr HT2.out.ok) (wr_own HE12.out.rr HRg.out) (okh_of HOw.out HOk.out) (fun x hx => ⟨by rw [HRv.out] at hx; exact roots_fit HOw.out hx, HRg.out x hx⟩)
                  rw [HLn.out] at HRc
                  have hzz : ((v'.ph != 1) = false) ∨ ((v'.ph != 1) = true ∧ (v'.ph != 2) = false) := by
                    rcases hp1 with h | h
                    · exact .inl (by rw [h]; rfl)
                    · exact .inr ⟨by rw [h]; rfl, by rw [h]; rfl⟩
                  clear hp1 k2
                  rcases hzz with z1 | ⟨z1, z2⟩
                  all_goals
                    go_wp2_with fail
                    refine Calls.mono HRc.out ?_
                    rintro e W13 ⟨⟨ge, rfl, hdr⟩, hb13⟩
                    have HE13 : Hid (EV w W13 ⟨rh, ch, none, 0, pgr, pgc, rl, cl⟩ v' (.slice rh v.h.length ch) H (.slice rl k cl) L (.slice rr R.length cr) R) := HE12.out.below hb13
                    have HDr : Hid (DR W13 4 ge v.h.length (fun k u => u = .bool ((orderM v'.h R).contains k))) := hdr
                    clear HRc hdr hb13 HE12 d1 l12 z1
                    go_wp2_with fail
                    go_loopw [18] (fun i wr' => ∃ (j : Nat), i = .int .i64 j ∧ j ≤ v.h.length ∧ wr' = W13) (fun i _ => v.h.length - (intOf i).toNat)
                    case atStart => exact ⟨0, rfl, Nat.zero_le _, rfl⟩
                    case round =>
                      obtain ⟨j, rfl, hj, rfl⟩ := hrel
                      obtain ⟨bb, oo, hor, hcs⟩ := hr_own HE13.out.hr HT2.out.ok
                      by_cases hjl : j < v.h.length
                      · have k2 : (j : Int) < (v.h.length : Int) := by omega
                        obtain ⟨x, hx⟩ : ∃ x, H[j]? = some x := ⟨_, List.getElem?_eq_getElem (by rw [HT2.out.len]; exact hjl)⟩
                        have hrh : rh = some ⟨bb, oo, none⟩ := hor.resolve_left (by have := HT2.out.len; omega)
                        subst hrh
                        obtain ⟨gb, ⟨y0, y1, _, _⟩, _⟩ := hcs j x hx
                        obtain ⟨u, hu, hu2⟩ := HDr.out.cell hjl
                        rw [hu2] at hu
                        have lg := HDr.out.lt
                        have HX : Hid (H[j]? = some x) := hx
                        clear hu2 hor hcs hx
                        cases hct : (orderM v'.h R).contains j
                        · rw [hct] at hu
                          clear hct
                          go_wp2
                          go_roundw
                          case rel => exact ⟨j + 1, by go_num, by omega, trivial⟩
                          case measure => simp [intOf]; omega
                        · rw [hct] at hu
                          have HCt : Hid ((orderM v'.h R).contains j = true) := hct
                          clear hct
                          by_cases hk0 : x.k = 0
                          · have z3 : (x.k != 0) = false := by simp [hk0]
                            clear hk0
                            go_wp2
                            go_roundw
                            case rel => exact ⟨j + 1, by go_num, by omega, trivial⟩
                            case measure => simp [intOf]; omega
                          · have z3 : (x.k != 0) = true := by simp [hk0]
                            by_cases hc0 : x.c = 0
                            · have z4 : (x.c == 0) = true := by simp [hc0]
                              have HWh : Hid (whiteB x = true) := by show whiteB x = true; simp [whiteB, usedB, hk0, hc0]
                              clear hk0 hc0
                              rcases HF.out with ⟨rfl, hl⟩ | ⟨rfl, _⟩
                              · exfalso
                                have hm : j ∈ orderM v'.h (rootsV v') := by
                                  rw [← HRv.out]
                                  simpa using HCt.out
                                have := ends_white HSt.out hl hm (by rw [HHv.out]; exact HX.out)
                                rw [HWh.out] at this
                                cases this
                              · go_wp2
                                go_roundw
                                case rel => exact ⟨j + 1, by go_num, by omega, trivial⟩
                                case measure => simp [intOf]; omega
                            · have z4 : (x.c == 0) = false := by simp [hc0]
                              clear hk0 hc0
                              go_wp2
                              go_roundw
                              case rel => exact ⟨j + 1, by go_num, by omega, trivial⟩
                              case measure => simp [intOf]; omega
                      · have k2 : ¬ (j : Int) < (v.h.length : Int) := by omega
                        rcases HF.out with ⟨rfl, _⟩ | ⟨rfl, c, x, rfl, hx, hw⟩
                        · clear hor hcs
                          go_wp2
                          go_ret
                          exact ⟨rfl, HE13.out.bel⟩
                        · rw [HHv.out] at hx
                          have hcl := (List.getElem?_eq_some_iff.1 hx).1
                          rw [HT2.out.len] at hcl
                          have k3 : (c : Int) < (v.h.length : Int) := by omega
                          have hrh : rh = some ⟨bb, oo, none⟩ := hor.resolve_left (by have := HT2.out.len; omega)
                          subst hrh
                          obtain ⟨gb, ⟨y0, y1, _, _⟩, _⟩ := hcs c x hx
                          have z3 : (x.k != 0) = true := by
                            simp only [whiteB, usedB, Bool.and_eq_true] at hw
                            simpa using hw.1
                          have z4 : (x.c == 0) = true := by
                            simp only [whiteB, usedB, Bool.and_eq_true] at hw
                            simpa using hw.2
                          clear hor hcs hx hw
                          go_wp2
                          go_ret
                          exact ⟨rfl, HE13.out.bel⟩
                · have hon : onB v'.ph = false := by unfold onB; rw [not_or] at hp1; simp [hp1.1, hp1.2]
                  obtain ⟨rfl, rfl⟩ := HF1'.out hon
                  have z1 : (v'.ph != 1) = true := by rw [not_or] at hp1; simp [hp1.1]
                  have z2 : (v'.ph != 2) = true := by rw [not_or] at hp1; simp [hp1.2]
                  clear HF1' HF2' hon hp1
                  go_wp2
                  go_ret
                  exact ⟨rfl, HE12.out.bel⟩
end Go.Proofs.YtigcpbndmiefhaaDoor
