/- Guarded.; Holds. -/
import Derived.Test.YtomdbcddokaagaaDoorHBWalk
import Derived.Laws.EntriesVeiled
/- Guarded. -/
namespace Go.Proofs.YtomdbcddokaagaaDoor
open Go.RowKit

theorem holders_ok {v : Vw} {x : Hd} (h : x ∈ holdersM v) : HdOk v x := by
  have k0 : ∀ (l : List Cl) (i : Nat), x ∈ cellsH l i → x.s = 0 ∧ x.i < i + l.length := by
    intro l
    induction l with
    | nil => intro i h; cases h
    | cons y r ih =>
      intro i h
      unfold cellsH at h
      split at h
      · have := ih (i + 1) h; exact ⟨this.1, by have := this.2; simp; omega⟩
      · rcases List.mem_cons.1 h with h | h
        · subst h; exact ⟨rfl, by simp⟩
        · have := ih (i + 1) h; exact ⟨this.1, by have := this.2; simp; omega⟩
  have k1 : ∀ (l : List Int) (i : Nat), x ∈ globsH l i → x.s = 1 := by
    intro l
    induction l with
    | nil => intro i h; cases h
    | cons y r ih =>
      intro i h
      unfold globsH at h
      rcases List.mem_cons.1 h with h | h
      · subst h; rfl
      · exact ih (i + 1) h
  have k2 : ∀ (l : List Ln) (i : Nat), x ∈ lanesH l i → x.s = 2 ∧ x.i < i + l.length := by
    intro l
    induction l with
    | nil => intro i h; cases h
    | cons y r ih =>
      intro i h
      unfold lanesH at h
      rcases List.mem_cons.1 h with h | h
      · subst h; exact ⟨rfl, by simp⟩
      · have := ih (i + 1) h; exact ⟨this.1, by have := this.2; simp; omega⟩
  unfold holdersM at h
  rcases List.mem_append.1 h with h | h
  · have := k0 _ _ h; exact .inl ⟨this.1, by have := this.2; omega⟩
  · rcases List.mem_append.1 h with h | h
    · exact .inr (.inl (k1 _ _ h))
    · have := k2 _ _ h; exact .inr (.inr ⟨this.1, by have := this.2; omega⟩)
def byM (v : Vw) (k : Nat) : Bool := metW v whiteB (namedM v (fun x => colM v x == 1)) k
def wellM (v : Vw) (k : Nat) : Bool := metW v whiteB (namedM v (wellC v)) k
theorem may_words {v : Vw} (h : mayV v = true) : wordsOk v = true := by
  unfold mayV at h
  simp only [Bool.and_eq_true] at h
  exact h.2.2.2.2.1
theorem white_used (x : Cl) (h : whiteB x = true) : usedB x = true := by
  unfold whiteB at h
  exact (Bool.and_eq_true_iff.1 h).1
/-- What Guarded tells. -/
def GuR (v : Vw) (e : Ending) (w w' : World) : Prop := Below w.heap.size w w' ∧ ((mayV v = false ∧ e = .returned (.tuple #[.slice none 0 0, .slice none 0 0, .int .i64 130])) ∨ (mayV v = true ∧ ∃ g1 g2, e = .returned (.tuple #[.slice (some ⟨g1, 0, none⟩) v.h.length v.h.length, .slice (some ⟨g2, 0, none⟩) v.h.length v.h.length, .int .i64 0]) ∧ DR w' 4 g1 v.h.length (fun k u => u = .bool (byM v k)) ∧ DR w' 4 g2 v.h.length (fun k u => u = .bool (wellM v k)) ∧ w.heap.size ≤ g1 ∧ w.heap.size ≤ g2 ∧ g1 ≠ g2))
theorem enters_g2 : ∀ args W, (callFunc 68 args).run Tryd.prog W = .ok (.enter 68 args) W := enters_of Tryd.func68 (by kernel_rfl) rfl
theorem enters_wh : ∀ args W, (callFunc 58 args).run Tryd.prog W = .ok (.enter 58 args) W := enters_of Tryd.func58 (by kernel_rfl) rfl
theorem enters_us : ∀ args W, (callFunc 53 args).run Tryd.prog W = .ok (.enter 53 args) W := enters_of Tryd.func53 (by kernel_rfl) rfl
theorem enters_h1 : ∀ args W, (callFunc 54 args).run Tryd.prog W = .ok (.enter 54 args) W := enters_of Tryd.func54 (by kernel_rfl) rfl
theorem enters_h2 : ∀ args W, (callFunc 56 args).run Tryd.prog W = .ok (.enter 56 args) W := enters_of Tryd.func56 (by kernel_rfl) rfl
set_option maxRecDepth 100000 in
set_option maxHeartbeats 8000000 in
theorem guarded_any (p : Vp) (v : Vw) (w : World) (hV : VL w p v) (hT : Tab w) (hn : v.h.length ≤ 1000000) :
    Calls Tryd.prog 23 #[.agg (p.cells v)] w fun e w' => GuR v e w w' := by
  have HV : Hid (VL w p v) := hV
  have HT : Hid (Tab w) := hT
  obtain ⟨W1, hW1⟩ : ∃ W1, w.alloc (.cells (p.cells v) 28) = W1 := ⟨_, rfl⟩
  have b1 : Below w.heap.size w W1 := by rw [← hW1]; exact (Below.refl _ w).alloc (Nat.le_refl _) _
  have v1 : VB W1 w.heap.size p v := by unfold VB; rw [← hW1]; exact World.alloc_heap_new w _
  have HB1 : Hid (Below w.heap.size w W1) := b1
  have HVB : Hid (VB W1 w.heap.size p v) := v1
  obtain ⟨d0, d1, d2, d3, d4, d5, d6⟩ := v1.at7
  have l1 : w.heap.size < W1.heap.size := (Array.getElem?_eq_some_iff.1 v1).1
  have HMy : Hid _ := mayBe_any p v W1 (hV.kc (kc_below (Nat.le_refl _) b1)) (hT.below b1)
  clear hV hT b1 v1
  unfold Vp.cells at hW1 HMy
  unfold Vp.cells
  have HW1 : Hid _ := hW1
  clear hW1
  go_enter Tryd.func23, Tryd.ntmps23
  go_upto_region 1 with fail
  rw [HW1.out]
  clear HW1
  go_wp2_with fail
  refine Calls.mono HMy.out ?_
  rintro e W2 ⟨rfl, hb2⟩
  have HB2 : Hid (Below w.heap.size w W2) := HB1.out.trans (hb2.mono HB1.out.size)
  have v2 : VB W2 w.heap.size p v := HVB.out.kc (kc_below (Nat.le_refl _) hb2)
  have l2 : w.heap.size < W2.heap.size := (Array.getElem?_eq_some_iff.1 v2).1
  clear d0 d1 d2 d3 d4 d5 d6 hb2 HMy HVB HB1 l1
  cases hm : mayV v
  · have HE : Hid (mayV v = false) := hm
    clear v2 hm
    go_wp2
    go_ret3
    exact ⟨HB2.out, .inl ⟨HE.out, rfl⟩⟩
  · have HE : Hid (mayV v = true) := hm
    have HOk : Hid (wordsOk v = true) := may_words hm
    clear hm
    obtain ⟨W3, hW3⟩ : ∃ W3, W2.alloc (.cells #[.func (.func 67) #[] #[.pointer (some ⟨w.heap.size, 0, none⟩)]] 114) = W3 := ⟨_, rfl⟩
    have b3 : Below W2.heap.size W2 W3 := by rw [← hW3]; exact (Below.refl _ _).alloc (Nat.le_refl _) _
    have f3 : Boxed W3 W2.heap.size 114 (.func (.func 67) #[] #[.pointer (some ⟨w.heap.size, 0, none⟩)]) := by rw [← hW3]; exact Boxed.new W2 _ _
    have v3 : VB W3 w.heap.size p v := v2.kc (kc_below (Nat.le_refl _) b3)
    have HB3 : Hid (Below w.heap.size w W3) := HB2.out.trans (b3.mono HB2.out.size)
    have HF3 : Hid _ := f3
    have HV3 : Hid (VB W3 w.heap.size p v) := v3
    have HL3 : Hid (VL W3 p v) := HV.out.kc (kc_below (Nat.le_refl _) HB3.out)
    have fc := f3.cell
    have lf : W2.heap.size < W3.heap.size := f3.lt
    obtain ⟨d0, d1, d2, d3, d4, d5, d6⟩ := v3.at7
    have HWk : Hid _ := walk_any p v W3 58 67 #[.pointer (some ⟨w.heap.size, 0, none⟩)] whiteB (fun x => colM v x == 1) HL3.out (HT.out.below HB3.out) HOk.out hn white_used enters_g1 enters_wh (fun W x hW hx => guarded1_any p v W x w.heap.size (HL3.out.kc (kc_below (Nat.le_refl _) hW)) (HV3.out.kc (kc_below (Nat.le_refl _) hW)) (holders_ok hx)) isWhite_any
    have HW3 : Hid _ := hW3
    clear hW3 b3 f3 v3 v2
    unfold Vp.cells at HWk
    go_upto_region 4 with fail
    rw [HW3.out]
    clear HW3
    go_wp2_with fail
    refine Calls.mono HWk.out ?_
    rintro e W4 ⟨rfl, hb4, hd4⟩
    have HB4 : Hid (Below W3.heap.size W3 W4) := hb4
    have HB40 : Hid (Below w.heap.size w W4) := HB3.out.trans (hb4.mono HB3.out.size)
    have HD4 : Hid (DR W4 4 (W3.heap.size + 2) v.h.length (fun k u => u = .bool (byM v k))) := hd4
    have v4 : VB W4 w.heap.size p v := HV3.out.kc (kc_below (Nat.le_refl _) hb4)
    have HV4 : Hid (VB W4 w.heap.size p v) := v4
    have HF4 : Hid (Boxed W4 W2.heap.size 114 (.func (.func 67) #[] #[.pointer (some ⟨w.heap.size, 0, none⟩)])) := (hb4.block _ lf).trans HF3.out
    have HL4 : Hid (VL W4 p v) := HV.out.kc (kc_below (Nat.le_refl _) HB40.out)
    clear d0 d1 d2 d3 d4 d5 d6 hb4 hd4 HWk fc
    obtain ⟨d0, d1, d2, d3, d4, d5, d6⟩ := v4.at7
    have l4 : w.heap.size < W4.heap.size := (Array.getElem?_eq_some_iff.1 v4).1
    have HWk : Hid _ := walk_any p v W4 58 68 #[.pointer (some ⟨W2.heap.size, 0, none⟩), .pointer (some ⟨w.heap.size, 0, none⟩)] whiteB (wellC v) HL4.out (HT.out.below HB40.out) HOk.out hn white_used enters_g2 enters_wh (fun W x hW hx => guarded2_any p v W x w.heap.size W2.heap.size (HL4.out.kc (kc_below (Nat.le_refl _) hW)) (HV4.out.kc (kc_below (Nat.le_refl _) hW)) ((hW.block _ HF4.out.lt).trans HF4.out) (holders_ok hx)) isWhite_any
    clear v4
    unfold Vp.cells at HWk
    go_wp2_with fail
    refine Calls.mono HWk.out ?_
    rintro e W5 ⟨rfl, hb5, hd5⟩
    have s3 := HB3.out.size
    have HR : Hid (Below w.heap.size w W5 ∧ DR W5 4 (W3.heap.size + 2) v.h.length (fun k u => u = .bool (byM v k)) ∧ DR W5 4 (W4.heap.size + 2) v.h.length (fun k u => u = .bool (wellM v k)) ∧ w.heap.size ≤ W3.heap.size + 2 ∧ w.heap.size ≤ W4.heap.size + 2 ∧ W3.heap.size + 2 ≠ W4.heap.size + 2) := by
      have h1 := HD4.out.lt
      exact ⟨HB40.out.trans (hb5.mono HB40.out.size), HD4.out.kept (hb5.block _ h1), hd5, by omega, by omega, by omega⟩
    clear hb5 hd5 HWk d0 d1 d2 d3 d4 d5 d6
    go_wp2
    go_ret3
    exact ⟨HR.out.1, .inr ⟨HE.out, _, _, rfl, HR.out.2⟩⟩
end Go.Proofs.YtomdbcddokaagaaDoor

/- Holds. -/
namespace Go.Proofs.YtomdbcddokaagaaDoor
open Go.RowKit

def liveM (v : Vw) (k : Nat) : Bool := metW v usedB (namedM v (fun x => (x.s : Int) != 0)) k
def passM (v : Vw) (k : Nat) : Bool := namedM v (fun x => colM v x == 2) k
/-- Is a cell one that can be lost? -/
def lossB (v : Vw) (k : Nat) (x : Cl) : Bool := whiteB x && ((liveM v k && !byM v k) || (passM v k && !wellM v k))
def lossAt (v : Vw) : List Cl → Nat → Option Nat
  | [], _ => none
  | x :: r, i => if lossB v i x then some i else lossAt v r (i + 1)
def lossM (v : Vw) : Option Nat := lossAt v v.h 0
theorem loss_none {v : Vw} : ∀ (l : List Cl) (i : Nat), (∀ (j : Nat) x, l[j]? = some x → lossB v (i + j) x = false) → lossAt v l i = none
  | [], _, _ => rfl
  | y :: r, i, h => by
    unfold lossAt
    rw [if_neg (by rw [show lossB v i y = false from h 0 y rfl]; decide)]
    exact loss_none r (i + 1) (fun j x hx => by rw [show i + 1 + j = i + (j + 1) by omega]; exact h (j + 1) x (by simpa using hx))
theorem loss_at {v : Vw} : ∀ (l : List Cl) (i c : Nat) (x : Cl), l[c]? = some x → lossB v (i + c) x = true → (∀ (j : Nat) y, j < c → l[j]? = some y → lossB v (i + j) y = false) → lossAt v l i = some (i + c)
  | [], i, c, x, h, _, _ => by simp at h
  | y :: r, i, 0, x, h, hl, _ => by
    have e : y = x := by simpa using h
    subst e
    unfold lossAt
    rw [if_pos (show lossB v i y = true from hl)]; rfl
  | y :: r, i, c + 1, x, h, hl, hb => by
    unfold lossAt
    rw [if_neg (by rw [show lossB v i y = false from hb 0 y (by omega) rfl]; decide)]
    rw [loss_at r (i + 1) c x (by simpa using h) (by rw [show i + 1 + c = i + (c + 1) by omega]; exact hl) (fun j z hj hz => by rw [show i + 1 + j = i + (j + 1) by omega]; exact hb (j + 1) z (by omega) (by simpa using hz))]
    rw [show i + 1 + c = i + (c + 1) by omega]
/-- What Holds tells. -/
def hoM (v : Vw) : Bool × Int × Int := if mayV v then (if onB v.ph then (match lossM v with | none => (true, 0, 0) | some c => (false, (c : Int), 0)) else (true, 0, 0)) else (false, 0, 130)
def hoE (v : Vw) : Value := .tuple #[.bool (hoM v).1, .int .i64 (hoM v).2.1, .int .i64 (hoM v).2.2]
theorem used_used (x : Cl) (h : usedB x = true) : usedB x = true := h
set_option maxRecDepth 100000 in
set_option maxHeartbeats 16000000 in
theorem holds_any (p : Vp) (v : Vw) (w : World) (hV : VL w p v) (hT : Tab w) (hn : v.h.length ≤ 1000000) :
    Calls Tryd.prog 12 #[.agg (p.cells v)] w fun e w' => e = .returned (hoE v) ∧ Below w.heap.size w w' := by
  have HV : Hid (VL w p v) := hV
  have HT : Hid (Tab w) := hT
  obtain ⟨W1, hW1⟩ : ∃ W1, w.alloc (.cells (p.cells v) 28) = W1 := ⟨_, rfl⟩
  have b1 : Below w.heap.size w W1 := by rw [← hW1]; exact (Below.refl _ w).alloc (Nat.le_refl _) _
  have v1 : VB W1 w.heap.size p v := by unfold VB; rw [← hW1]; exact World.alloc_heap_new w _
  have HB1 : Hid (Below w.heap.size w W1) := b1
  have HVB : Hid (VB W1 w.heap.size p v) := v1
  obtain ⟨d0, d1, d2, d3, d4, d5, d6⟩ := v1.at7
  have l1 : w.heap.size < W1.heap.size := (Array.getElem?_eq_some_iff.1 v1).1
  have HGu : Hid _ := guarded_any p v W1 (hV.kc (kc_below (Nat.le_refl _) b1)) (hT.below b1) hn
  clear hV hT b1 v1
  unfold Vp.cells at hW1 HGu
  unfold Vp.cells
  have HW1 : Hid _ := hW1
  clear hW1
  go_enter Tryd.func12, Tryd.ntmps12
  go_upto_region 1 with fail
  rw [HW1.out]
  clear HW1
  go_wp2_with fail
  refine Calls.mono HGu.out ?_
  rintro e W2 ⟨hb2, hor⟩
  have HB2 : Hid (Below w.heap.size w W2) := HB1.out.trans (hb2.mono HB1.out.size)
  have v2 : VB W2 w.heap.size p v := HVB.out.kc (kc_below (Nat.le_refl _) hb2)
  have HV2 : Hid (VB W2 w.heap.size p v) := v2
  have HL2 : Hid (VL W2 p v) := HV.out.kc (kc_below (Nat.le_refl _) HB2.out)
  have l2 : w.heap.size < W2.heap.size := (Array.getElem?_eq_some_iff.1 v2).1
  clear d0 d1 d2 d3 d4 d5 d6 HGu HVB HB1 l1
  rcases hor with ⟨hm, rfl⟩ | ⟨hm, g1, g2, rfl, hd1, hd2, _, _, _⟩
  · have HE : Hid (hoE v = .tuple #[.bool false, .int .i64 0, .int .i64 130]) := by show _ = _; unfold hoE hoM; rw [hm]; rfl
    clear v2 hm hb2
    go_wp2
    go_ret3
    exact ⟨by rw [HE.out]; rfl, HB2.out⟩
  · have HOk : Hid (wordsOk v = true) := may_words hm
    have HD1 : Hid (DR W2 4 g1 v.h.length (fun k u => u = .bool (byM v k))) := hd1
    have HD2 : Hid (DR W2 4 g2 v.h.length (fun k u => u = .bool (wellM v k))) := hd2
    have HMm : Hid (mayV v = true) := hm
    clear hd1 hd2 hb2 hm
    obtain ⟨d0, d1, d2, d3, d4, d5, d6⟩ := v2.at7
    clear v2
    have HOn : Hid _ := isOn_any v.ph W2
    go_wp2_with fail
    refine Calls.mono HOn.out ?_
    rintro e W3 ⟨rfl, rfl⟩
    clear HOn
    cases hon : onB v.ph
    · have HE : Hid (hoE v = .tuple #[.bool true, .int .i64 0, .int .i64 0]) := by show _ = _; unfold hoE hoM; rw [HMm.out, hon]; rfl
      clear HMm
      go_wp2
      go_ret3
      exact ⟨by rw [HE.out]; rfl, HB2.out⟩
    · have HE : Hid (hoM v = match lossM v with | none => (true, 0, 0) | some c => (false, (c : Int), 0)) := by show _ = _; unfold hoM; rw [HMm.out, hon]; rfl
      clear hon HMm
      have HWk : Hid _ := walk_any p v W3 53 54 #[] usedB (fun x => (x.s : Int) != 0) HL2.out (HT.out.below HB2.out) HOk.out hn used_used enters_h1 enters_us (fun W x _ _ => holds1_any W x) isUsed_any
      unfold Vp.cells at HWk
      go_wp2_with fail
      refine Calls.mono HWk.out ?_
      rintro e W4 ⟨rfl, hb4, hd4⟩
      have HB4 : Hid (Below w.heap.size w W4) := HB2.out.trans (hb4.mono HB2.out.size)
      have HD4 : Hid (DR W4 4 (W3.heap.size + 2) v.h.length (fun k u => u = .bool (liveM v k))) := hd4
      have HD41 : Hid (DR W4 4 g1 v.h.length (fun k u => u = .bool (byM v k))) := HD1.out.kept (hb4.block _ HD1.out.lt)
      have HD42 : Hid (DR W4 4 g2 v.h.length (fun k u => u = .bool (wellM v k))) := HD2.out.kept (hb4.block _ HD2.out.lt)
      have v4 : VB W4 w.heap.size p v := HV2.out.kc (kc_below (Nat.le_refl _) hb4)
      have HV4 : Hid (VB W4 w.heap.size p v) := v4
      have HL4 : Hid (VL W4 p v) := HV.out.kc (kc_below (Nat.le_refl _) HB4.out)
      clear d0 d1 d2 d3 d4 d5 d6 hb4 hd4 HWk HD1 HD2 l2
      obtain ⟨d0, d1, d2, d3, d4, d5, d6⟩ := v4.at7
      have l4 : w.heap.size < W4.heap.size := (Array.getElem?_eq_some_iff.1 v4).1
      have HNm : Hid _ := named_any p v W4 56 #[.pointer (some ⟨w.heap.size, 0, none⟩)] (fun x => colM v x == 2) HL4.out (HT.out.below HB4.out) HOk.out enters_h2 (fun W x hW hx => holds2_any p v W x w.heap.size (HL4.out.kc (kc_below (Nat.le_refl _) hW)) (HV4.out.kc (kc_below (Nat.le_refl _) hW)) (holders_ok hx))
      clear v4
      unfold Vp.cells at HNm
      go_wp2_with fail
      refine Calls.mono HNm.out ?_
      rintro e W5 ⟨rfl, hb5, hd5⟩
      have HB5 : Hid (Below w.heap.size w W5) := HB4.out.trans (hb5.mono HB4.out.size)
      have HDp : Hid (DR W5 4 (W4.heap.size + 2) v.h.length (fun k u => u = .bool (passM v k))) := hd5
      have HDl : Hid (DR W5 4 (W3.heap.size + 2) v.h.length (fun k u => u = .bool (liveM v k))) := HD4.out.kept (hb5.block _ HD4.out.lt)
      have HDb : Hid (DR W5 4 g1 v.h.length (fun k u => u = .bool (byM v k))) := HD41.out.kept (hb5.block _ HD41.out.lt)
      have HDw : Hid (DR W5 4 g2 v.h.length (fun k u => u = .bool (wellM v k))) := HD42.out.kept (hb5.block _ HD42.out.lt)
      have v5 : VB W5 w.heap.size p v := HV4.out.kc (kc_below (Nat.le_refl _) hb5)
      clear d0 d1 d2 d3 d4 d5 d6 hb5 hd5 HNm HD4 HD41 HD42 l4 HV4 HL4 HV2 HL2
      obtain ⟨d0, _, _, _, _, _, _⟩ := v5.at7
      have l5 : w.heap.size < W5.heap.size := (Array.getElem?_eq_some_iff.1 v5).1
      have hl := HV.out.hl
      clear v5
      obtain ⟨cr, cc, yr, yc, gr, gc, lr, lc⟩ := p
      dsimp only at d0 ⊢
      generalize W4.heap.size + 2 = gp at *
      generalize W3.heap.size + 2 = gl at *
      go_wp2_with fail
      clear d0 l5
      go_loopw [35, 10, 11] (fun i _ _ wr => ∃ j : Nat, i = .int .i64 j ∧ j ≤ v.h.length ∧ Hid (Below W5.heap.size W5 wr) ∧ Hid (∀ (k : Nat) y, k < j → v.h[k]? = some y → lossB v (0 + k) y = false)) (fun i _ _ _ => v.h.length - (intOf i).toNat)
      case atStart => exact ⟨0, rfl, Nat.zero_le _, Below.refl _ _, fun _ _ h => absurd h (Nat.not_lt_zero _)⟩
      case round =>
        obtain ⟨j, rfl, hj, HBr, HLo⟩ := hrel
        by_cases hjl : j < v.h.length
        · have k1 : (j : Int) < (v.h.length : Int) := by omega
          obtain ⟨x, hx⟩ : ∃ x, v.h[j]? = some x := ⟨_, List.getElem?_eq_getElem hjl⟩
          have HB6 : Hid (Below w.heap.size w wr) := HB5.out.trans (HBr.out.mono HB5.out.size)
          obtain ⟨bb, o, hor, hcs⟩ := (HV.out.kc (kc_below (Nat.le_refl _) HB6.out)).h
          have hra : cr = some ⟨bb, o, none⟩ := hor.resolve_left (by omega)
          subst hra
          obtain ⟨g1', ⟨y0, y1, y2, y3⟩, _⟩ := hcs j x hx
          have HX : Hid (v.h[j]? = some x) := hx
          have KO : Hid (Below W5.heap.size W5 (wr.alloc (.cells #[.int .u8 x.k, .int .u8 x.c, .int .u64 x.a, .int .u64 x.b] 59))) := HBr.out.alloc HBr.out.size _
          have nw : (wr.alloc (.cells #[.int .u8 x.k, .int .u8 x.c, .int .u64 x.a, .int .u64 x.b] 59)).heap[wr.heap.size]? = some (.cells #[.int .u8 x.k, .int .u8 x.c, .int .u64 x.a, .int .u64 x.b] 59 (0, 0)) := World.alloc_heap_new _ _
          have e0 := heap_cell (j := 0) nw rfl
          have e1 := heap_cell (j := 1) nw rfl
          have e2 := heap_cell (j := 2) nw rfl
          have e3 := heap_cell (j := 3) nw rfl
          have ln := heap_lt nw
          have HWh : Hid (Calls Tryd.prog 58 #[.agg #[.int .u8 x.k, .int .u8 x.c, .int .u64 x.a, .int .u64 x.b]] (wr.alloc (.cells #[.int .u8 x.k, .int .u8 x.c, .int .u64 x.a, .int .u64 x.b] 59)) fun e w' => e = .returned (.bool (whiteB x)) ∧ Below (wr.alloc (.cells #[.int .u8 x.k, .int .u8 x.c, .int .u64 x.a, .int .u64 x.b] 59)).heap.size (wr.alloc (.cells #[.int .u8 x.k, .int .u8 x.c, .int .u64 x.a, .int .u64 x.b] 59)) w') := isWhite_any x _
          clear hcs hor hx nw HBr HB6
          go_wp2_with fail
          refine Calls.mono HWh.out ?_
          rintro e W6 ⟨rfl, hb6⟩
          have HB7 : Hid (Below W5.heap.size W5 W6) := KO.out.trans (hb6.mono KO.out.size)
          have cl : ∀ {g : Nat} {f : Nat → Bool}, DR W5 4 g v.h.length (fun k u => u = .bool (f k)) → W6.cell? ⟨g, j, none⟩ = some (.bool (f j)) ∧ g < W6.heap.size := fun {g f} hd => by
            obtain ⟨u, hu, hu2⟩ := hd.cell hjl
            rw [hu2] at hu
            exact ⟨(HB7.out.cell (p := ⟨g, j, none⟩) hd.lt).trans hu, Nat.lt_of_lt_of_le hd.lt HB7.out.size⟩
          obtain ⟨c1, m1⟩ := cl HDl.out
          obtain ⟨c2, m2⟩ := cl HDb.out
          obtain ⟨c3, m3⟩ := cl HDp.out
          obtain ⟨c4, m4⟩ := cl HDw.out
          have HR : Hid (lossB v j x = (whiteB x && ((liveM v j && !byM v j) || (passM v j && !wellM v j)))) := rfl
          clear hb6 cl KO HWh e0 e1 e2 e3 ln y0 y1 y2 y3 g1'
          generalize liveM v j = q1 at c1 HR
          generalize byM v j = q2 at c2 HR
          generalize passM v j = q3 at c3 HR
          generalize wellM v j = q4 at c4 HR
          cases hw : whiteB x
          · rw [hw] at HR
            have HL2 : Hid (∀ (k : Nat) y, k < j + 1 → v.h[k]? = some y → lossB v (0 + k) y = false) := fun k y hk hy => by
              by_cases e : k = j
              · subst e
                rw [HX.out] at hy
                cases hy
                rw [Nat.zero_add, HR.out]
                rfl
              · exact HLo.out k y (by omega) hy
            go_wp2
            go_roundw
            case rel => exact ⟨j + 1, by go_num, by omega, HB7, HL2⟩
            case measure => simp [intOf]; omega
          · rw [hw] at HR
            cases q1
            · cases q3
              · skip
                have HL2 : Hid (∀ (k : Nat) y, k < j + 1 → v.h[k]? = some y → lossB v (0 + k) y = false) := fun k y hk hy => by
                  by_cases e : k = j
                  · subst e
                    rw [HX.out] at hy
                    cases hy
                    rw [Nat.zero_add, HR.out]
                    rfl
                  · exact HLo.out k y (by omega) hy
                go_wp2
                go_roundw
                case rel => exact ⟨j + 1, by go_num, by omega, HB7, HL2⟩
                case measure => simp [intOf]; omega
              · cases q4
                · skip
                  have HL2 : Hid (hoE v = .tuple #[.bool false, .int .i64 (j : Int), .int .i64 0]) := by
                    have e : lossM v = some j := by
                      unfold lossM
                      rw [loss_at v.h 0 j x HX.out (by rw [Nat.zero_add, HR.out]; rfl) HLo.out, Nat.zero_add]
                    show _ = _
                    unfold hoE
                    rw [HE.out, e]
                  have HBe : Hid (Below w.heap.size w W6) := HB5.out.trans (HB7.out.mono HB5.out.size)
                  go_wp2
                  go_ret3
                  exact ⟨by rw [HL2.out]; rfl, HBe.out⟩
                · skip
                  have HL2 : Hid (∀ (k : Nat) y, k < j + 1 → v.h[k]? = some y → lossB v (0 + k) y = false) := fun k y hk hy => by
                    by_cases e : k = j
                    · subst e
                      rw [HX.out] at hy
                      cases hy
                      rw [Nat.zero_add, HR.out]
                      rfl
                    · exact HLo.out k y (by omega) hy
                  go_wp2
                  go_roundw
                  case rel => exact ⟨j + 1, by go_num, by omega, HB7, HL2⟩
                  case measure => simp [intOf]; omega
            · cases q2
              · skip
                have HL2 : Hid (hoE v = .tuple #[.bool false, .int .i64 (j : Int), .int .i64 0]) := by
                  have e : lossM v = some j := by
                    unfold lossM
                    rw [loss_at v.h 0 j x HX.out (by rw [Nat.zero_add, HR.out]; rfl) HLo.out, Nat.zero_add]
                  show _ = _
                  unfold hoE
                  rw [HE.out, e]
                have HBe : Hid (Below w.heap.size w W6) := HB5.out.trans (HB7.out.mono HB5.out.size)
                go_wp2
                go_ret3
                exact ⟨by rw [HL2.out]; rfl, HBe.out⟩
              · cases q3
                · skip
                  have HL2 : Hid (∀ (k : Nat) y, k < j + 1 → v.h[k]? = some y → lossB v (0 + k) y = false) := fun k y hk hy => by
                    by_cases e : k = j
                    · subst e
                      rw [HX.out] at hy
                      cases hy
                      rw [Nat.zero_add, HR.out]
                      rfl
                    · exact HLo.out k y (by omega) hy
                  go_wp2
                  go_roundw
                  case rel => exact ⟨j + 1, by go_num, by omega, HB7, HL2⟩
                  case measure => simp [intOf]; omega
                · cases q4
                  · skip
                    have HL2 : Hid (hoE v = .tuple #[.bool false, .int .i64 (j : Int), .int .i64 0]) := by
                      have e : lossM v = some j := by
                        unfold lossM
                        rw [loss_at v.h 0 j x HX.out (by rw [Nat.zero_add, HR.out]; rfl) HLo.out, Nat.zero_add]
                      show _ = _
                      unfold hoE
                      rw [HE.out, e]
                    have HBe : Hid (Below w.heap.size w W6) := HB5.out.trans (HB7.out.mono HB5.out.size)
                    go_wp2
                    go_ret3
                    exact ⟨by rw [HL2.out]; rfl, HBe.out⟩
                  · skip
                    have HL2 : Hid (∀ (k : Nat) y, k < j + 1 → v.h[k]? = some y → lossB v (0 + k) y = false) := fun k y hk hy => by
                      by_cases e : k = j
                      · subst e
                        rw [HX.out] at hy
                        cases hy
                        rw [Nat.zero_add, HR.out]
                        rfl
                      · exact HLo.out k y (by omega) hy
                    go_wp2
                    go_roundw
                    case rel => exact ⟨j + 1, by go_num, by omega, HB7, HL2⟩
                    case measure => simp [intOf]; omega
        · obtain rfl : j = v.h.length := by omega
          have k1 : ¬ (v.h.length : Int) < (v.h.length : Int) := by omega
          have HL2 : Hid (hoE v = .tuple #[.bool true, .int .i64 0, .int .i64 0]) := by
            have e : lossM v = none := loss_none v.h 0 (fun k y hy => HLo.out k y (List.getElem?_eq_some_iff.1 hy).1 hy)
            show _ = _
            unfold hoE
            rw [HE.out, e]
          have HBe : Hid (Below w.heap.size w wr) := HB5.out.trans (HBr.out.mono HB5.out.size)
          go_wp2
          go_ret3
          exact ⟨by rw [HL2.out]; rfl, HBe.out⟩
end Go.Proofs.YtomdbcddokaagaaDoor
