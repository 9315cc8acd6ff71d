/- Guarded. -/
import Derived.Test.YtphpkedfcmghmaaDoorHBWalk
import Derived.Laws.EntriesVeiled
namespace Go.Proofs.YtphpkedfcmghmaaDoor
open Go.RowKit

theorem holders_ok {v : Vw} {x : Hd} (h : x ∈ holdersM v) : HdOk v x := by
  have k0 : ∀ (l : List Cl) (i : Nat), x ∈ cellsH l i → x.s = 0 ∧ x.i < i + l.length := by
    intro l
    induction l with
    | nil => intro i h; cases h
    | cons y r ih =>
      intro i h
      unfold cellsH at h
      split at h
      · have := ih (i + 1) h; exact ⟨this.1, by have := this.2; simp; omega⟩
      · rcases List.mem_cons.1 h with h | h
        · subst h; exact ⟨rfl, by simp⟩
        · have := ih (i + 1) h; exact ⟨this.1, by have := this.2; simp; omega⟩
  have k1 : ∀ (l : List Int) (i : Nat), x ∈ globsH l i → x.s = 1 := by
    intro l
    induction l with
    | nil => intro i h; cases h
    | cons y r ih =>
      intro i h
      unfold globsH at h
      rcases List.mem_cons.1 h with h | h
      · subst h; rfl
      · exact ih (i + 1) h
  have k2 : ∀ (l : List Ln) (i : Nat), x ∈ lanesH l i → x.s = 2 ∧ x.i < i + l.length := by
    intro l
    induction l with
    | nil => intro i h; cases h
    | cons y r ih =>
      intro i h
      unfold lanesH at h
      rcases List.mem_cons.1 h with h | h
      · subst h; exact ⟨rfl, by simp⟩
      · have := ih (i + 1) h; exact ⟨this.1, by have := this.2; simp; omega⟩
  unfold holdersM at h
  rcases List.mem_append.1 h with h | h
  · have := k0 _ _ h; exact .inl ⟨this.1, by have := this.2; omega⟩
  · rcases List.mem_append.1 h with h | h
    · exact .inr (.inl (k1 _ _ h))
    · have := k2 _ _ h; exact .inr (.inr ⟨this.1, by have := this.2; omega⟩)
def byM (v : Vw) (k : Nat) : Bool := metW v whiteB (namedM v (fun x => colM v x == 1)) k
def wellM (v : Vw) (k : Nat) : Bool := metW v whiteB (namedM v (wellC v)) k
theorem may_words {v : Vw} (h : mayV v = true) : wordsOk v = true := by
  unfold mayV at h
  simp only [Bool.and_eq_true] at h
  exact h.2.2.2.2.1
theorem white_used (x : Cl) (h : whiteB x = true) : usedB x = true := by
  unfold whiteB at h
  exact (Bool.and_eq_true_iff.1 h).1
/-- What Guarded tells. -/
def GuR (v : Vw) (e : Ending) (w w' : World) : Prop := Below w.heap.size w w' ∧ ((mayV v = false ∧ e = .returned (.tuple #[.slice none 0 0, .slice none 0 0, .int .i64 130])) ∨ (mayV v = true ∧ ∃ g1 g2, e = .returned (.tuple #[.slice (some ⟨g1, 0, none⟩) v.h.length v.h.length, .slice (some ⟨g2, 0, none⟩) v.h.length v.h.length, .int .i64 0]) ∧ DR w' 4 g1 v.h.length (fun k u => u = .bool (byM v k)) ∧ DR w' 4 g2 v.h.length (fun k u => u = .bool (wellM v k)) ∧ w.heap.size ≤ g1 ∧ w.heap.size ≤ g2 ∧ g1 ≠ g2))
theorem enters_g2 : ∀ args W, (callFunc 68 args).run Tryd.prog W = .ok (.enter 68 args) W := enters_of Tryd.func68 (by kernel_rfl) rfl
theorem enters_wh : ∀ args W, (callFunc 58 args).run Tryd.prog W = .ok (.enter 58 args) W := enters_of Tryd.func58 (by kernel_rfl) rfl
theorem enters_us : ∀ args W, (callFunc 53 args).run Tryd.prog W = .ok (.enter 53 args) W := enters_of Tryd.func53 (by kernel_rfl) rfl
theorem enters_h1 : ∀ args W, (callFunc 54 args).run Tryd.prog W = .ok (.enter 54 args) W := enters_of Tryd.func54 (by kernel_rfl) rfl
theorem enters_h2 : ∀ args W, (callFunc 56 args).run Tryd.prog W = .ok (.enter 56 args) W := enters_of Tryd.func56 (by kernel_rfl) rfl
set_option maxRecDepth 100000 in
set_option maxHeartbeats 8000000 in
theorem guarded_any (p : Vp) (v : Vw) (w : World) (hV : VL w p v) (hT : Tab w) (hn : v.h.length ≤ 1000000) :
    Calls Tryd.prog 23 #[.agg (p.cells v)] w fun e w' => GuR v e w w' := by
  have HV : Hid (VL w p v) := hV
  have HT : Hid (Tab w) := hT
  obtain ⟨W1, hW1⟩ : ∃ W1, w.alloc (.cells (p.cells v) 28) = W1 := ⟨_, rfl⟩
  have b1 : Below w.heap.size w W1 := by rw [← hW1]; exact (Below.refl _ w).alloc (Nat.le_refl _) _
  have v1 : VB W1 w.heap.size p v := by unfold VB; rw [← hW1]; exact World.alloc_heap_new w _
  have HB1 : Hid (Below w.heap.size w W1) := b1
  have HVB : Hid (VB W1 w.heap.size p v) := v1
  obtain ⟨d0, d1, d2, d3, d4, d5, d6⟩ := v1.at7
  have l1 : w.heap.size < W1.heap.size := (Array.getElem?_eq_some_iff.1 v1).1
  have HMy : Hid _ := mayBe_any p v W1 (hV.kc (kc_below (Nat.le_refl _) b1)) (hT.below b1)
  clear hV hT b1 v1
  unfold Vp.cells at hW1 HMy
  unfold Vp.cells
  have HW1 : Hid _ := hW1
  clear hW1
  go_enter Tryd.func23, Tryd.ntmps23
  go_upto_region 1 with fail
  rw [HW1.out]
  clear HW1
  go_wp2_with fail
  refine Calls.mono HMy.out ?_
  rintro e W2 ⟨rfl, hb2⟩
  have HB2 : Hid (Below w.heap.size w W2) := HB1.out.trans (hb2.mono HB1.out.size)
  have v2 : VB W2 w.heap.size p v := HVB.out.kc (kc_below (Nat.le_refl _) hb2)
  have l2 : w.heap.size < W2.heap.size := (Array.getElem?_eq_some_iff.1 v2).1
  clear d0 d1 d2 d3 d4 d5 d6 hb2 HMy HVB HB1 l1
  cases hm : mayV v
  · have HE : Hid (mayV v = false) := hm
    clear v2 hm
    go_wp2
    go_ret3
    exact ⟨HB2.out, .inl ⟨HE.out, rfl⟩⟩
  · have HE : Hid (mayV v = true) := hm
    have HOk : Hid (wordsOk v = true) := may_words hm
    clear hm
    obtain ⟨W3, hW3⟩ : ∃ W3, W2.alloc (.cells #[.func (.func 67) #[] #[.pointer (some ⟨w.heap.size, 0, none⟩)]] 114) = W3 := ⟨_, rfl⟩
    have b3 : Below W2.heap.size W2 W3 := by rw [← hW3]; exact (Below.refl _ _).alloc (Nat.le_refl _) _
    have f3 : Boxed W3 W2.heap.size 114 (.func (.func 67) #[] #[.pointer (some ⟨w.heap.size, 0, none⟩)]) := by rw [← hW3]; exact Boxed.new W2 _ _
    have v3 : VB W3 w.heap.size p v := v2.kc (kc_below (Nat.le_refl _) b3)
    have HB3 : Hid (Below w.heap.size w W3) := HB2.out.trans (b3.mono HB2.out.size)
    have HF3 : Hid _ := f3
    have HV3 : Hid (VB W3 w.heap.size p v) := v3
    have HL3 : Hid (VL W3 p v) := HV.out.kc (kc_below (Nat.le_refl _) HB3.out)
    have fc := f3.cell
    have lf : W2.heap.size < W3.heap.size := f3.lt
    obtain ⟨d0, d1, d2, d3, d4, d5, d6⟩ := v3.at7
    have HWk : Hid _ := walk_any p v W3 58 67 #[.pointer (some ⟨w.heap.size, 0, none⟩)] whiteB (fun x => colM v x == 1) HL3.out (HT.out.below HB3.out) HOk.out hn white_used enters_g1 enters_wh (fun W x hW hx => guarded1_any p v W x w.heap.size (HL3.out.kc (kc_below (Nat.le_refl _) hW)) (HV3.out.kc (kc_below (Nat.le_refl _) hW)) (holders_ok hx)) isWhite_any
    have HW3 : Hid _ := hW3
    clear hW3 b3 f3 v3 v2
    unfold Vp.cells at HWk
    go_upto_region 4 with fail
    rw [HW3.out]
    clear HW3
    go_wp2_with fail
    refine Calls.mono HWk.out ?_
    rintro e W4 ⟨rfl, hb4, hd4⟩
    have HB4 : Hid (Below W3.heap.size W3 W4) := hb4
    have HB40 : Hid (Below w.heap.size w W4) := HB3.out.trans (hb4.mono HB3.out.size)
    have HD4 : Hid (DR W4 4 (W3.heap.size + 2) v.h.length (fun k u => u = .bool (byM v k))) := hd4
    have v4 : VB W4 w.heap.size p v := HV3.out.kc (kc_below (Nat.le_refl _) hb4)
    have HV4 : Hid (VB W4 w.heap.size p v) := v4
    have HF4 : Hid (Boxed W4 W2.heap.size 114 (.func (.func 67) #[] #[.pointer (some ⟨w.heap.size, 0, none⟩)])) := (hb4.block _ lf).trans HF3.out
    have HL4 : Hid (VL W4 p v) := HV.out.kc (kc_below (Nat.le_refl _) HB40.out)
    clear d0 d1 d2 d3 d4 d5 d6 hb4 hd4 HWk fc
    obtain ⟨d0, d1, d2, d3, d4, d5, d6⟩ := v4.at7
    have l4 : w.heap.size < W4.heap.size := (Array.getElem?_eq_some_iff.1 v4).1
    have HWk : Hid _ := walk_any p v W4 58 68 #[.pointer (some ⟨W2.heap.size, 0, none⟩), .pointer (some ⟨w.heap.size, 0, none⟩)] whiteB (wellC v) HL4.out (HT.out.below HB40.out) HOk.out hn white_used enters_g2 enters_wh (fun W x hW hx => guarded2_any p v W x w.heap.size W2.heap.size (HL4.out.kc (kc_below (Nat.le_refl _) hW)) (HV4.out.kc (kc_below (Nat.le_refl _) hW)) ((hW.block _ HF4.out.lt).trans HF4.out) (holders_ok hx)) isWhite_any
    clear v4
    unfold Vp.cells at HWk
    go_wp2_with fail
    refine Calls.mono HWk.out ?_
    rintro e W5 ⟨rfl, hb5, hd5⟩
    have s3 := HB3.out.size
    have HR : Hid (Below w.heap.size w W5 ∧ DR W5 4 (W3.heap.size + 2) v.h.length (fun k u => u = .bool (byM v k)) ∧ DR W5 4 (W4.heap.size + 2) v.h.length (fun k u => u = .bool (wellM v k)) ∧ w.heap.size ≤ W3.heap.size + 2 ∧ w.heap.size ≤ W4.heap.size + 2 ∧ W3.heap.size + 2 ≠ W4.heap.size + 2) := by
      have h1 := HD4.out.lt
      exact ⟨HB40.out.trans (hb5.mono HB40.out.size), HD4.out.kept (hb5.block _ h1), hd5, by omega, by omega, by omega⟩
    clear hb5 hd5 HWk d0 d1 d2 d3 d4 d5 d6
    go_wp2
    go_ret3
    exact ⟨HR.out.1, .inr ⟨HE.out, _, _, rfl, HR.out.2⟩⟩
end Go.Proofs.YtphpkedfcmghmaaDoor
