/- The document's on, Birth. -/
import Derived.Test.YtigcpbndmiefhaaDoorHBRefs
namespace Go.Proofs.YtigcpbndmiefhaaDoor
open Go.RowKit

set_option maxRecDepth 100000 in
set_option maxHeartbeats 4000000 in
theorem refOn_any (p : Int) (w : World) : Calls Tryd.prog 37 #[.int .u8 p] w fun e w' => e = .returned (.bool (onB p)) ∧ w' = w := by
  unfold onB
  by_cases h1 : p = 1
  · subst h1
    go_enter Tryd.func37, Tryd.ntmps37
    go_wp2
    go_ret
    exact ⟨rfl, rfl⟩
  · by_cases h2 : p = 2
    · subst h2
      go_enter Tryd.func37, Tryd.ntmps37
      go_wp2
      go_ret
      exact ⟨rfl, rfl⟩
    · have z1 : (p == 1) = false := by simpa using h1
      have z2 : (p == 2) = false := by simpa using h2
      have HE : Hid ((decide (p = 1) || decide (p = 2)) = false) := by show _ = _; simp [h1, h2]
      rw [HE.out]
      clear h1 h2 HE
      go_enter Tryd.func37, Tryd.ntmps37
      go_wp2
      go_ret
      exact ⟨rfl, rfl⟩
set_option maxRecDepth 100000 in
set_option maxHeartbeats 4000000 in
theorem refBirth_any (p c s : Int) (w : World) : Calls Tryd.prog 20 #[.int .u8 p, .int .i64 c, .int .i64 s] w fun e w' => e = .returned (.int .u8 (birthC p c s)) ∧ w' = w := by
  have HO : Hid _ := refOn_any p w
  unfold birthC
  cases ho : onB p
  · rw [ho] at HO
    by_cases h3 : p = 3
    · by_cases h4 : s ≤ c
      · have HE : Hid ((if (false || (decide (p = 3) && decide (s ≤ c))) = true then (2 : Int) else 0) = 2) := by show _ = _; simp [h3, h4]
        rw [HE.out]
        subst h3
        clear HE ho
        go_enter Tryd.func20, Tryd.ntmps20
        go_wp2_with fail
        refine Calls.mono HO.out ?_
        rintro e w1 ⟨rfl, hw1⟩
        rw [hw1]
        clear hw1 HO
        go_wp2
        all_goals
          go_ret
          exact ⟨rfl, rfl⟩
      · have HE : Hid ((if (false || (decide (p = 3) && decide (s ≤ c))) = true then (2 : Int) else 0) = 0) := by show _ = _; simp [h4]
        rw [HE.out]
        subst h3
        have z4 : ¬ c ≥ s := h4
        clear HE ho
        go_enter Tryd.func20, Tryd.ntmps20
        go_wp2_with fail
        refine Calls.mono HO.out ?_
        rintro e w1 ⟨rfl, hw1⟩
        rw [hw1]
        clear hw1 HO
        go_wp2
        all_goals
          go_ret
          exact ⟨rfl, rfl⟩
    · have HE : Hid ((if (false || (decide (p = 3) && decide (s ≤ c))) = true then (2 : Int) else 0) = 0) := by show _ = _; simp [h3]
      rw [HE.out]
      have z3 : (p == 3) = false := by simpa using h3
      clear HE ho
      go_enter Tryd.func20, Tryd.ntmps20
      go_wp2_with fail
      refine Calls.mono HO.out ?_
      rintro e w1 ⟨rfl, hw1⟩
      rw [hw1]
      clear hw1 HO
      go_wp2
      all_goals
        go_ret
        exact ⟨rfl, rfl⟩
  · rw [ho] at HO
    have HE : Hid ((if (true || (decide (p = 3) && decide (s ≤ c))) = true then (2 : Int) else 0) = 2) := by show _ = _; simp
    rw [HE.out]
    clear HE ho
    go_enter Tryd.func20, Tryd.ntmps20
    go_wp2_with fail
    refine Calls.mono HO.out ?_
    rintro e w1 ⟨rfl, hw1⟩
    rw [hw1]
    clear hw1 HO
    go_wp2
    all_goals
      go_ret
      exact ⟨rfl, rfl⟩
end Go.Proofs.YtigcpbndmiefhaaDoor
