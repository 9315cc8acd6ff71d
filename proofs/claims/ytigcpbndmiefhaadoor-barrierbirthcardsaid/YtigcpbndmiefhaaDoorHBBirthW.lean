/- BarrierBirth. -/
import Derived.Test.YtigcpbndmiefhaaDoorHBKnown
import Derived.Test.YtigcpbndmiefhaaDoorHBRefSmall
namespace Go.Proofs.YtigcpbndmiefhaaDoor
open Go.RowKit

theorem birth_on {p c s : Int} (h : p = 1 ∨ p = 2) : birthC p c s = 2 := by
  have : onB p = true := by unfold onB; rcases h with rfl | rfl <;> rfl
  unfold birthC
  rw [this]; rfl
theorem birth_sw {c s : Int} (h : s ≤ c) : birthC 3 c s = 2 := by
  unfold birthC
  rw [decide_eq_true h]; rfl
theorem birth_no {p c s : Int} (h1 : p ≠ 1) (h2 : p ≠ 2) (h3 : ¬ (p = 3 ∧ s ≤ c)) : birthC p c s = 0 := by
  have : onB p = false := by unfold onB; simp [h1, h2]
  unfold birthC
  rw [this, if_neg]
  simp only [Bool.false_or, Bool.and_eq_true, decide_eq_true_eq]
  exact h3
set_option maxRecDepth 100000 in
set_option maxHeartbeats 8000000 in
theorem barrierBirth_walk (p c s : Int) (w : World) (hT : Tab w) : Calls Tryd.prog 5 #[.int .u8 p, .int .i64 c, .int .i64 s] w fun e w' => e = .returned (.bool true) ∧ Below w.heap.size w w' := by
  have HK : Hid _ := known_any w hT
  have H1 : Hid (∀ w, Calls Tryd.prog 19 #[.int .u8 p, .int .i64 c, .int .i64 s] w fun e w' => e = .returned (.int .u8 (birthC p c s)) ∧ w' = w) := fun w => birth_any p c s w
  have H2 : Hid (∀ w, Calls Tryd.prog 20 #[.int .u8 p, .int .i64 c, .int .i64 s] w fun e w' => e = .returned (.int .u8 (birthC p c s)) ∧ w' = w) := fun w => refBirth_any p c s w
  clear hT
  go_enter Tryd.func5, Tryd.ntmps5
  go_wp2_with fail
  refine Calls.mono HK.out ?_
  rintro e w1 ⟨rfl, hb⟩
  have HB : Hid (Below w.heap.size w w1) := hb
  clear hb HK
  go_wp2_with fail
  refine Calls.mono (H1.out _) ?_
  rintro e w2 ⟨rfl, rfl⟩
  by_cases p1 : p = 1
  · rw [birth_on (.inl p1)] at H2 ⊢
    subst p1
    go_wp2_with fail
    refine Calls.mono (H2.out _) ?_
    rintro e w3 ⟨rfl, rfl⟩
    go_wp2
    go_ret
    exact ⟨rfl, HB.out⟩
  · by_cases p2 : p = 2
    · rw [birth_on (.inr p2)] at H2 ⊢
      subst p2
      go_wp2_with fail
      refine Calls.mono (H2.out _) ?_
      rintro e w3 ⟨rfl, rfl⟩
      go_wp2
      go_ret
      exact ⟨rfl, HB.out⟩
    · by_cases p3 : p = 3
      · subst p3
        by_cases hsc : s ≤ c
        · rw [birth_sw hsc] at H2 ⊢
          have k1 : c ≥ s := hsc
          go_wp2_with fail
          refine Calls.mono (H2.out _) ?_
          rintro e w3 ⟨rfl, rfl⟩
          go_wp2
          go_ret
          exact ⟨rfl, HB.out⟩
        · rw [birth_no p1 p2 (fun h => hsc h.2)] at H2 ⊢
          have k1 : ¬ c ≥ s := hsc
          go_wp2_with fail
          refine Calls.mono (H2.out _) ?_
          rintro e w3 ⟨rfl, rfl⟩
          go_wp2
          go_ret
          exact ⟨ret_bool (by simp; omega), HB.out⟩
      · rw [birth_no p1 p2 (fun h => p3 h.1)] at H2 ⊢
        go_wp2_with fail
        refine Calls.mono (H2.out _) ?_
        rintro e w3 ⟨rfl, rfl⟩
        go_wp2
        go_ret
        exact ⟨ret_bool (by simp [p1, p2]), HB.out⟩
end Go.Proofs.YtigcpbndmiefhaaDoor
