/- slices.Contains of truths.; What the collector makes of a holder.; Has Grey just the cells that are grey, each once?; May a view be? -/
import Derived.Test.YtomdbcddokaagaaDoorHBNamed
/- slices.Contains of truths. -/
namespace Go.Proofs.YtomdbcddokaagaaDoor
open Go.RowKit

set_option maxRecDepth 100000 in
set_option maxHeartbeats 4000000 in
theorem indexB_any (l : List Bool) (v : Bool) (ra : Option Addr) (ca : Nat) (w : World) (hl : l.length ≤ 281474976710656) (hR : RX (Value.bool) w ra l) :
    Calls Tryd.prog 105 #[.slice ra l.length ca, .bool v] w fun e w' => (∃ k : Int, e = .returned (.int .i64 k) ∧ decide (0 ≤ k) = l.any (fun z => z == v)) ∧ w' = w := by
  have HR : Hid (RX (Value.bool) w ra l) := hR
  clear hR
  go_enter Tryd.func105, Tryd.ntmps105
  go_wp2
  go_loopw [8, 5] (fun i _ wr => ∃ j : Nat, i = .int .i64 j ∧ j ≤ l.length ∧ Hid ((l.take j).any (fun z => z == v) = false) ∧ wr = w) (fun i _ _ => l.length - (intOf i).toNat)
  case atStart => exact ⟨0, rfl, Nat.zero_le _, rfl, rfl⟩
  case round =>
    obtain ⟨j, rfl, hj, HN, rfl⟩ := hrel
    by_cases hjl : j < l.length
    · have k1 : (j : Int) < (l.length : Int) := by omega
      obtain ⟨x, hx⟩ : ∃ x, l[j]? = some x := ⟨_, List.getElem?_eq_getElem hjl⟩
      obtain ⟨b, o, q1, q2⟩ := HR.out.at
      have q1' := q1 (by omega)
      subst q1'
      obtain ⟨q3, q4⟩ := q2 j x hx
      have HXx : Hid (l[j]? = some x) := hx
      clear q1 q2 hx
      by_cases hv : v = x
      · subst hv
        have z : (v == v) = true := by simp
        have HT : Hid (l.any (fun z => z == v) = true) := any_at HXx.out (by simp)
        go_wp2
        go_ret
        exact ⟨⟨(j : Int), rfl, by rw [HT.out]; exact decide_eq_true (by omega)⟩, rfl⟩
      · have z : (v == x) = false := by simpa using hv
        have HX2 : Hid ((l.take (j + 1)).any (fun z => z == v) = false) := (any_take HN.out HXx.out).trans (by simpa using fun e : x = v => hv e.symm)
        go_wp2
        go_roundw
        case rel => exact ⟨j + 1, by go_num, by omega, HX2, trivial⟩
        case measure => simp [intOf]; omega
    · have k1 : ¬ (j : Int) < (l.length : Int) := by omega
      have HE : Hid (l.any (fun z => z == v) = false) := by have := HN.out; rwa [List.take_of_length_le (by omega)] at this
      go_wp2
      go_ret
      exact ⟨⟨-1, rfl, by rw [HE.out]; rfl⟩, rfl⟩
set_option maxRecDepth 100000 in
set_option maxHeartbeats 4000000 in
theorem containsB_any (l : List Bool) (v : Bool) (ra : Option Addr) (ca : Nat) (w : World) (hl : l.length ≤ 281474976710656) (hR : RX (Value.bool) w ra l) :
    Calls Tryd.prog 100 #[.slice ra l.length ca, .bool v] w fun e w' => e = .returned (.bool (l.any (fun z => z == v))) ∧ w' = w := by
  have HI : Hid _ := indexB_any l v ra ca w hl hR
  clear hR
  go_enter Tryd.func100, Tryd.ntmps100
  go_wp2_with fail
  refine Calls.mono HI.out ?_
  rintro e w1 ⟨⟨k, rfl, hk⟩, rfl⟩
  have HK : Hid (decide (0 ≤ k) = l.any (fun z => z == v)) := hk
  clear hk HI
  go_wp2
  go_ret
  exact ⟨ret_bool HK.out, rfl⟩
end Go.Proofs.YtomdbcddokaagaaDoor

/- What the collector makes of a holder. -/
namespace Go.Proofs.YtomdbcddokaagaaDoor
open Go.RowKit

/-- A holder that is one of the view's. -/
def HdOk (v : Vw) (x : Hd) : Prop := (x.s = 0 ∧ x.i < v.h.length) ∨ x.s = 1 ∨ (x.s = 2 ∧ x.i < v.lanes.length)
set_option maxRecDepth 100000 in
set_option maxHeartbeats 4000000 in
theorem colourOf_any (p : Vp) (v : Vw) (w : World) (x : Hd) (hV : VL w p v) (hx : HdOk v x) :
    Calls Tryd.prog 57 #[.agg (p.cells v), hdV x] w fun e w' => e = .returned (.int .u8 (colM v x)) ∧ Below w.heap.size w w' := by
  have hl := hV.hl
  have hll := hV.ll
  have HB : Hid (Below w.heap.size w ((w.alloc (.cells (p.cells v) 28)).alloc (.cells #[.int .u8 x.s, .int .i64 x.i] 113))) := ((Below.refl _ w).alloc (Nat.le_refl _) _).alloc (by simp) _
  have hV2 := hV.kc (kc_below (Nat.le_refl _) HB.out)
  obtain ⟨s, i, ws⟩ := x
  have HM : Hid (colM v ⟨s, i, ws⟩ = colM v ⟨s, i, ws⟩) := rfl
  unfold hdV
  simp only at HB hV2
  rcases hx with ⟨h0, hi⟩ | h0 | ⟨h0, hi⟩ <;> simp only at h0 <;> subst h0
  · simp only at hi
    obtain ⟨c, hc⟩ : ∃ c, v.h[i]? = some c := ⟨_, List.getElem?_eq_getElem hi⟩
    obtain ⟨bb, o, hor, hcs⟩ := hV2.h
    have hra : p.cr = some ⟨bb, o, none⟩ := hor.resolve_left (by omega)
    have HP : Hid (p.cr = some ⟨bb, o, none⟩) := hra
    obtain ⟨g1, ⟨y2, y3, y4, y5⟩, _⟩ := hcs i c hc
    have HR : Hid (colM v ⟨0, i, ws⟩ = c.c) := by show _ = _; unfold colM; simp [hc]
    have k1 : (i : Int) < (v.h.length : Int) := by omega
    clear hcs hor hc hV2 HM
    simp only [nat0] at *
    unfold Vp.cells at *
    rw [hra] at g1 y2 y3 y4 y5 ⊢
    rw [HR.out]
    go_enter Tryd.func57, Tryd.ntmps57
    go_wp2
    go_ret
    exact ⟨rfl, by have := HB.out; rw [HP.out] at this; exact this⟩
  · simp only [nat1] at *
    unfold Vp.cells at *
    clear hV2
    by_cases hla : v.laid ≤ (i : Int)
    · have HR : Hid (colM v ⟨1, i, ws⟩ = 1) := by show _ = _; unfold colM; simp [hla]
      have z : (i : Int) ≥ v.laid := hla
      rw [HR.out]
      go_enter Tryd.func57, Tryd.ntmps57
      go_wp2
      go_ret
      exact ⟨rfl, HB.out⟩
    · have HR : Hid (colM v ⟨1, i, ws⟩ = 2) := by show _ = _; unfold colM; simp [hla]
      have z : ¬ (i : Int) ≥ v.laid := hla
      rw [HR.out]
      go_enter Tryd.func57, Tryd.ntmps57
      go_wp2
      go_ret
      exact ⟨rfl, HB.out⟩
  · simp only at hi
    obtain ⟨c, hc⟩ : ∃ c, v.lanes[i]? = some c := ⟨_, List.getElem?_eq_getElem hi⟩
    obtain ⟨bb, o, hor, hcs⟩ := hV2.l
    have hra : p.lr = some ⟨bb, o, none⟩ := hor.resolve_left (by omega)
    have HP : Hid (p.lr = some ⟨bb, o, none⟩) := hra
    obtain ⟨g1, _, y3, y4⟩ := hcs i c hc
    have HR : Hid (colM v ⟨2, i, ws⟩ = if c.sc then 2 else 1) := by show _ = _; unfold colM; cases hs : c.sc <;> simp [hc, hs]
    have k1 : (i : Int) < (v.lanes.length : Int) := by omega
    clear hcs hor hc hV2 HM
    simp only [nat2] at *
    unfold Vp.cells at *
    rw [hra] at g1 y3 y4 ⊢
    rw [HR.out]
    cases hs : c.sc
    · rw [hs] at y3
      go_enter Tryd.func57, Tryd.ntmps57
      go_wp2
      go_ret
      exact ⟨rfl, by have := HB.out; rw [HP.out] at this; exact this⟩
    · rw [hs] at y3
      go_enter Tryd.func57, Tryd.ntmps57
      go_wp2
      go_ret
      exact ⟨rfl, by have := HB.out; rw [HP.out] at this; exact this⟩
end Go.Proofs.YtomdbcddokaagaaDoor

/- Has Grey just the cells that are grey, each once? -/
namespace Go.Proofs.YtomdbcddokaagaaDoor
open Go.RowKit

/-- What is missing when some cells are struck out; none: one could not be. -/
def grM (n : Nat) : List Int → (Nat → Bool) → Option (Nat → Bool)
  | [], m => some m
  | c :: r, m => if 0 ≤ c ∧ c < (n : Int) ∧ m c.toNat = true then grM n r (fun k => if k = c.toNat then false else m k) else none
def gr0 (h : List Cl) (k : Nat) : Bool := match h[k]? with | some x => greyB x | none => false
def greyOk (v : Vw) : Bool := match grM v.h.length v.grey (gr0 v.h) with | some m => !((List.range v.h.length).any m) | none => false
theorem grM_step {n : Nat} {l : List Int} {m m' : Nat → Bool} {j : Nat} {c : Int} (h : grM n (l.take j) m = some m') (hc : l[j]? = some c) : grM n (l.take (j + 1)) m = if 0 ≤ c ∧ c < (n : Int) ∧ m' c.toNat = true then some (fun k => if k = c.toNat then false else m' k) else none := by
  induction l generalizing j m with
  | nil => simp at hc
  | cons y r ih =>
    cases j with
    | zero =>
      have e : y = c := by simpa using hc
      subst e
      have : m = m' := by simpa [grM] using h
      subst this
      simp [grM]
    | succ j =>
      rw [List.take_succ_cons] at h ⊢
      unfold grM at h ⊢
      split at h
      · rename_i hy
        rw [if_pos hy]
        exact ih h (by simpa using hc)
      · cases h
theorem grM_bad {n : Nat} {l : List Int} {m : Nat → Bool} {j : Nat} (h : grM n (l.take j) m = none) : grM n l m = none := by
  induction l generalizing j m with
  | nil => simp [grM] at h
  | cons y r ih =>
    cases j with
    | zero => simp [grM] at h
    | succ j =>
      rw [List.take_succ_cons] at h
      unfold grM at h ⊢
      split at h
      · rename_i hy
        rw [if_pos hy]
        exact ih h
      · rename_i hy
        rw [if_neg hy]
theorem dr_rx {W : World} {t g n : Nat} {m : Nat → Bool} (h : DR W t g n (fun k u => u = .bool (m k))) : RX (Value.bool) W (some ⟨g, 0, none⟩) ((List.range n).map m) := by
  refine ⟨g, 0, .inr rfl, fun j x hx => ⟨h.lt, ?_⟩⟩
  rw [List.getElem?_map] at hx
  obtain ⟨k, hk, rfl⟩ := Option.map_eq_some_iff.1 hx
  have hj : j < n := by have := (List.getElem?_eq_some_iff.1 hk).1; simpa using this
  have : k = j := by rw [List.getElem?_range hj] at hk; exact (Option.some.inj hk).symm
  subst this
  obtain ⟨u, h1, h2⟩ := h.cell hj
  rw [Nat.zero_add, h1, h2]
structure GI (w : World) (p : Vp) (v : Vw) (f : Nat → Bool) (W : World) : Prop where
  b : Below w.heap.size w W
  v0 : VB W w.heap.size p v
  o : DR W 4 (w.heap.size + 1) v.h.length (fun k u => u = .bool (f k))
theorem GI.kc {w : World} {p : Vp} {v : Vw} {f : Nat → Bool} {W W' : World} (h : GI w p v f W) (hb : Below W.heap.size W W') : GI w p v f W' :=
  have hk := kc_below (N := w.heap.size) h.b.size hb
  ⟨h.b.trans hk.1, h.v0.kc hk, h.o.kc hk⟩
theorem GI.f {w : World} {p : Vp} {v : Vw} {f g : Nat → Bool} {W : World} (h : GI w p v f W) (hf : ∀ c, c < v.h.length → f c = g c) : GI w p v g W := ⟨h.b, h.v0, h.o.mono (fun k u hk hu => by rw [hu, hf k hk])⟩
theorem GI.set {w : World} {p : Vp} {v : Vw} {f g : Nat → Bool} {W : World} (h : GI w p v f W) {k : Nat} {x : Bool} (hg : ∀ c, c ≠ k → f c = g c) (hk : g k = x) : GI w p v g (W.setCell ⟨w.heap.size + 1, k, none⟩ (.bool x)) :=
  ⟨h.b.setCell (by simp) _, (Below.heap_setCell _ _ _ _ (by simp)).trans h.v0, h.o.set (fun c u hc hu => by rw [hu, hg c hc]) (by rw [hk])⟩
theorem VB.at3 {w : World} {b : Nat} {p : Vp} {v : Vw} (h : VB w b p v) : w.cell? ⟨b, 0, none⟩ = some (.slice p.cr v.h.length p.cc) ∧ w.cell? ⟨b, 3, none⟩ = some (.slice p.yr v.grey.length p.yc) := ⟨h.at7.1, h.at7.2.2.2.1⟩
theorem any_map_range (n : Nat) (m : Nat → Bool) : ((List.range n).map m).any (fun z => z == true) = (List.range n).any m := by
  rw [List.any_map]
  congr 1
  funext z
  simp
set_option maxRecDepth 100000 in
set_option maxHeartbeats 8000000 in
theorem hasGrey_any (p : Vp) (v : Vw) (w : World) (hV : VL w p v) :
    Calls Tryd.prog 92 #[.agg (p.cells v)] w fun e w' => e = .returned (.bool (greyOk v)) ∧ Below w.heap.size w w' := by
  have hl := hV.hl
  have hyl := hV.yl
  have HV : Hid (VL w p v) := hV
  clear hV
  obtain ⟨i0, hi0, hz0, hz1, hz2⟩ := info_parts infoBool
  obtain ⟨W1, hW1⟩ : ∃ W1, w.alloc (.cells (p.cells v) 28) = W1 := ⟨_, rfl⟩
  have s1 : W1.heap.size = w.heap.size + 1 := by rw [← hW1, World.size_alloc]
  have b1 : Below w.heap.size w W1 := by rw [← hW1]; exact (Below.refl _ w).alloc (Nat.le_refl _) _
  have v1 : VB W1 w.heap.size p v := by unfold VB; rw [← hW1]; exact World.alloc_heap_new w _
  obtain ⟨w2, hrun, hown, hgr⟩ := run_make_full (P := Tryd.prog) W1 (w.heap.size + 1) 73 4 i0 (.bool false) 1 Tryd.underlying73 hi0 hz0 hz1 .i64 .i64 v.h.length (by rw [hz2]; omega) (by unfold maxLen; omega) (by omega)
  have hd2 := row_made hown (false_made _)
  have b2 : Below W1.heap.size W1 w2 := grown_low hgr (fun g hg => by cases hg) (Nat.le_refl _)
  rw [s1] at hrun hd2
  have HD : Hid (DR w2 4 (w.heap.size + 1) v.h.length (fun _ u => u = .bool false)) := hd2
  have HB : Hid (Below w.heap.size w w2) := b1.trans (b2.mono (by omega))
  have hv2 : VB w2 w.heap.size p v := (b2.block _ (by omega)).trans v1
  have HV2 : Hid (VB w2 w.heap.size p v) := hv2
  have c0 := v1.at.1
  have e0 := hv2.at.1
  have HG : Hid (GI w p v (fun k => decide (k < 0) && gr0 v.h k) w2) := ⟨HB.out, hv2, hd2.mono (fun k u _ hu => by rw [hu]; simp)⟩
  clear hd2 hown hgr b1 b2 v1 hv2 HD HB HV2
  unfold Vp.cells at hW1
  unfold Vp.cells
  go_enter Tryd.func92, Tryd.ntmps92
  go_wp2_with (first | rw [hW1] | fail)
  clear c0 e0 hrun
  go_loopw [15, 5, 4] (fun i _ _ wr => ∃ j : Nat, i = .int .i64 j ∧ j ≤ v.h.length ∧ Hid (GI w p v (fun k => decide (k < j) && gr0 v.h k) wr)) (fun i _ _ _ => v.h.length - (intOf i).toNat)
  case atStart => exact ⟨0, rfl, Nat.zero_le _, HG⟩
  case round =>
    clear HG
    obtain ⟨j, rfl, hj, HI⟩ := hrel
    by_cases hjl : j < v.h.length
    · have k1 : (j : Int) < (v.h.length : Int) := by omega
      obtain ⟨x, hx⟩ : ∃ x, v.h[j]? = some x := ⟨_, List.getElem?_eq_getElem hjl⟩
      obtain ⟨bb, o, hor, hcs⟩ := (HV.out.kc (kc_below (Nat.le_refl _) HI.out.b)).h
      have hra : p.cr = some ⟨bb, o, none⟩ := hor.resolve_left (by omega)
      obtain ⟨g1, ⟨y2, y3, y4, y5⟩, _⟩ := hcs j x hx
      have HX : Hid (gr0 v.h j = greyB x) := by show _ = _; unfold gr0; rw [hx]
      have HA : Hid (GI w p v (fun k => decide (k < j) && gr0 v.h k) (wr.alloc (.cells #[.int .u8 x.k, .int .u8 x.c, .int .u64 x.a, .int .u64 x.b] 59))) := HI.out.kc ((Below.refl _ _).alloc (Nat.le_refl _) _)
      have HC : Hid _ := isGrey_any x (wr.alloc (.cells #[.int .u8 x.k, .int .u8 x.c, .int .u64 x.a, .int .u64 x.b] 59))
      clear hx hcs hor
      rw [hra]
      go_wp2_with fail
      refine Calls.mono HC.out ?_
      rintro e w' ⟨rfl, hb⟩
      have HA2 : Hid (GI w p v (fun k => decide (k < j) && gr0 v.h k) w') := HA.out.kc hb
      clear hb HC HA HI
      have HE : Hid (GI w p v (fun k => decide (k < j + 1) && gr0 v.h k) (w'.setCell ⟨w.heap.size + 1, j, none⟩ (.bool (greyB x)))) := HA2.out.set (fun c hc => by
        have : decide (c < j + 1) = decide (c < j) := decide_eq_decide.2 (by omega)
        simp only [this]) (by simp [HX.out])
      obtain ⟨u0, hu0, _⟩ := HA2.out.o.cell hjl
      have hfz := HA2.out.o.fz j
      go_wp2
      go_roundw
      case rel => exact ⟨j + 1, by go_num, by omega, HE⟩
      case measure => simp [intOf]; omega
    · have k1 : ¬ (j : Int) < (v.h.length : Int) := by omega
      have HG : Hid (GI w p v (gr0 v.h) wr) := HI.out.f (fun c hc => by simp [show c < j by omega])
      have hc3 := HG.out.v0.at3.2
      clear HI
      go_wp2
      go_loopw [29, 7] (fun i _ wr => ∃ (k : Nat) (m : Nat → Bool), i = .int .i64 k ∧ k ≤ v.grey.length ∧ Hid (grM v.h.length (v.grey.take k) (gr0 v.h) = some m) ∧ Hid (GI w p v m wr)) (fun i _ _ => v.grey.length - (intOf i).toNat)
      case atStart => exact ⟨0, gr0 v.h, rfl, Nat.zero_le _, rfl, HG⟩
      case round =>
        clear HG hc3
        obtain ⟨k, m, rfl, hk, HM, HI⟩ := hrel
        by_cases hkl : k < v.grey.length
        · have k1 : (k : Int) < (v.grey.length : Int) := by omega
          obtain ⟨c, hc⟩ : ∃ c, v.grey[k]? = some c := ⟨_, List.getElem?_eq_getElem hkl⟩
          obtain ⟨bb, o, hor, hcs⟩ := (HV.out.kc (kc_below (Nat.le_refl _) HI.out.b)).y
          have hra : p.yr = some ⟨bb, o, none⟩ := hor.resolve_left (by omega)
          obtain ⟨g1, y2⟩ := hcs k c hc
          have HS : Hid (grM v.h.length (v.grey.take (k + 1)) (gr0 v.h) = if 0 ≤ c ∧ c < (v.h.length : Int) ∧ m c.toNat = true then some (fun k => if k = c.toNat then false else m k) else none) := grM_step HM.out hc
          have hc0 := HI.out.v0.at3.1
          clear hc hcs hor
          rw [hra]
          have HBad : Hid ((¬ (0 ≤ c ∧ c < (v.h.length : Int) ∧ m c.toNat = true)) → greyOk v = false) := fun hn => by
            have h1 := HS.out
            rw [if_neg hn] at h1
            unfold greyOk
            rw [grM_bad h1]
          by_cases z0 : c < 0
          · have HF : Hid (greyOk v = false) := HBad.out (by omega)
            go_wp2
            go_ret
            exact ⟨ret_bool HF.out.symm, HI.out.b⟩
          · by_cases z1 : c ≥ (v.h.length : Int)
            · have HF : Hid (greyOk v = false) := HBad.out (by omega)
              go_wp2
              go_ret
              exact ⟨ret_bool HF.out.symm, HI.out.b⟩
            · obtain ⟨cN, rfl⟩ : ∃ cN : Nat, c = (cN : Int) := ⟨c.toNat, by omega⟩
              have hcN : cN < v.h.length := by omega
              have z2 : (cN : Int) < (v.h.length : Int) := by omega
              obtain ⟨u0, hu0, hu1⟩ := HI.out.o.cell hcN
              rw [hu1] at hu0
              have hfz := HI.out.o.fz cN
              cases hm : m cN
              · have HF : Hid (greyOk v = false) := HBad.out (by simp [hm])
                rw [hm] at hu0
                go_wp2
                go_ret
                exact ⟨ret_bool HF.out.symm, HI.out.b⟩
              · rw [hm] at hu0
                have HS2 : Hid (grM v.h.length (v.grey.take (k + 1)) (gr0 v.h) = some (fun k => if k = cN then false else m k)) := by
                  have := HS.out
                  rw [if_pos ⟨by omega, by omega, by simpa using hm⟩] at this
                  exact this
                have HE : Hid (GI w p v (fun k => if k = cN then false else m k) (wr.setCell ⟨w.heap.size + 1, cN, none⟩ (.bool false))) := HI.out.set (fun q hq => by simp [hq]) (by simp)
                clear HS HBad hm hu1
                go_wp2
                go_roundw
                case rel => exact ⟨k + 1, _, by go_num, by omega, HS2, HE⟩
                case measure => simp [intOf]; omega
        · have k1 : ¬ (k : Int) < (v.grey.length : Int) := by omega
          have HE : Hid (greyOk v = !((List.range v.h.length).any m)) := by
            have h1 := HM.out
            rw [List.take_of_length_le (by omega)] at h1
            show _ = _
            unfold greyOk
            rw [h1]
          have HC : Hid _ := containsB_any ((List.range v.h.length).map m) true (some ⟨w.heap.size + 1, 0, none⟩) v.h.length wr (by simpa using hl) (dr_rx HI.out.o)
          have HC2 : Hid (Calls Tryd.prog 100 #[.slice (some ⟨w.heap.size + 1, 0, none⟩) v.h.length v.h.length, .bool true] wr fun e w' => e = .returned (.bool ((List.range v.h.length).any m)) ∧ w' = wr) := by
            have h1 := HC.out
            rw [any_map_range, List.length_map, List.length_range] at h1
            exact h1
          clear HC
          go_wp2_with fail
          refine Calls.mono HC2.out ?_
          rintro e w' ⟨rfl, rfl⟩
          go_wp2
          go_ret
          exact ⟨ret_bool HE.out.symm, HI.out.b⟩
end Go.Proofs.YtomdbcddokaagaaDoor

/- May a view be? -/
namespace Go.Proofs.YtomdbcddokaagaaDoor
open Go.RowKit

def mayV (v : Vw) : Bool := decide (v.ph ≤ 3) && (upToB v.sw v.h.length && (upToB v.laid v.gl.length && (v.h.all headB && (wordsOk v && greyOk v))))
set_option maxRecDepth 100000 in
set_option maxHeartbeats 8000000 in
theorem mayBe_any (p : Vp) (v : Vw) (w : World) (hV : VL w p v) (hT : Tab w) :
    Calls Tryd.prog 66 #[.agg (p.cells v)] w fun e w' => e = .returned (.bool (mayV v)) ∧ Below w.heap.size w w' := by
  have HV : Hid (VL w p v) := hV
  have HT : Hid (Tab w) := hT
  have hl := hV.hl
  obtain ⟨W1, hW1⟩ : ∃ W1, w.alloc (.cells (p.cells v) 28) = W1 := ⟨_, rfl⟩
  have b1 : Below w.heap.size w W1 := by rw [← hW1]; exact (Below.refl _ w).alloc (Nat.le_refl _) _
  have v1 : VB W1 w.heap.size p v := by unfold VB; rw [← hW1]; exact World.alloc_heap_new w _
  have HB1 : Hid (Below w.heap.size w W1) := b1
  have HV1 : Hid (VL W1 p v) := hV.kc (kc_below (Nat.le_refl _) b1)
  have HVB : Hid (VB W1 w.heap.size p v) := v1
  obtain ⟨d0, d1, d2, d3, d4, d5, d6⟩ := v1.at7
  clear hV hT b1 v1
  unfold Vp.cells at hW1
  unfold Vp.cells
  go_enter Tryd.func66, Tryd.ntmps66
  by_cases z0 : v.ph ≤ 3
  · go_wp2_with (first | rw [hW1] | fail)
    refine Calls.mono (isUpTo_any _ _ _) ?_
    rintro e w' ⟨rfl, rfl⟩
    cases z1 : upToB v.sw v.h.length
    · have HF : Hid (mayV v = false) := by show _ = _; unfold mayV; simp [z1]
      go_wp2
      go_ret
      exact ⟨ret_bool HF.out.symm, HB1.out⟩
    go_wp2_with fail
    refine Calls.mono (isUpTo_any _ _ _) ?_
    rintro e w'' ⟨rfl, rfl⟩
    cases z2 : upToB v.laid v.gl.length
    · have HF : Hid (mayV v = false) := by show _ = _; unfold mayV; simp [z2]
      go_wp2
      go_ret
      exact ⟨ret_bool HF.out.symm, HB1.out⟩
    go_wp2_with fail
    refine Calls.mono (hasHeads_any v.h p.cr p.cc _ hl HV1.out.h) ?_
    rintro e W2 ⟨rfl, hb2⟩
    have HB2 : Hid (Below w.heap.size w W2) := HB1.out.trans (hb2.mono HB1.out.size)
    have HV2 : Hid (VL W2 p v) := HV.out.kc (kc_below (Nat.le_refl _) HB2.out)
    have v2 : VB W2 w.heap.size p v := HVB.out.kc (kc_below (Nat.le_refl _) hb2)
    have HVB2 : Hid (VB W2 w.heap.size p v) := v2
    clear d0 d1 d2 d3 d4 d5 d6 hb2
    obtain ⟨d0, d1, d2, d3, d4, d5, d6⟩ := v2.at7
    clear v2
    cases z3 : v.h.all headB
    · have HF : Hid (mayV v = false) := by show _ = _; unfold mayV; simp only [z3]; simp
      go_wp2
      go_ret
      exact ⟨ret_bool HF.out.symm, HB2.out⟩
    go_wp2_with fail
    refine Calls.mono (hasWords_any p v _ HV2.out (HT.out.below HB2.out)) ?_
    rintro e W3 ⟨rfl, hb3⟩
    have HB3 : Hid (Below w.heap.size w W3) := HB2.out.trans (hb3.mono HB2.out.size)
    have HV3 : Hid (VL W3 p v) := HV.out.kc (kc_below (Nat.le_refl _) HB3.out)
    have v3 : VB W3 w.heap.size p v := HVB2.out.kc (kc_below (Nat.le_refl _) hb3)
    clear d0 d1 d2 d3 d4 d5 d6 hb3
    obtain ⟨d0, d1, d2, d3, d4, d5, d6⟩ := v3.at7
    clear v3
    cases z4 : wordsOk v
    · have HF : Hid (mayV v = false) := by show _ = _; unfold mayV; simp [z4]
      go_wp2
      go_ret
      exact ⟨ret_bool HF.out.symm, HB3.out⟩
    go_wp2_with fail
    refine Calls.mono (hasGrey_any p v _ HV3.out) ?_
    rintro e W4 ⟨rfl, hb4⟩
    have HB4 : Hid (Below w.heap.size w W4) := HB3.out.trans (hb4.mono HB3.out.size)
    have HF : Hid (mayV v = greyOk v) := by show _ = _; unfold mayV; simp only [z0, z1, z2, z3, z4]; simp
    clear hb4
    go_wp2
    go_ret
    exact ⟨ret_bool HF.out.symm, HB4.out⟩
  · have HF : Hid (mayV v = false) := by show _ = _; unfold mayV; simp [z0]
    go_wp2_with (first | rw [hW1] | fail)
    go_ret
    exact ⟨ret_bool HF.out.symm, HB1.out⟩
end Go.Proofs.YtomdbcddokaagaaDoor
