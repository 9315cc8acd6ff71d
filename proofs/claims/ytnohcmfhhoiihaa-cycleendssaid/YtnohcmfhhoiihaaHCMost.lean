/- Most, and the document's. -/
import Derived.Test.YtnohcmfhhoiihaaHCMath
import Derived.Handy
namespace Go.Proofs.Ytnohcmfhhoiihaa
open Go.RowKit

def mostM (a b c : Int) : Int := if 0 ≤ a ∧ a ≤ 2147483647 ∧ 0 ≤ b ∧ b ≤ 2147483647 ∧ 0 ≤ c ∧ c ≤ 2147483647 then 2 * a + b + c + 3 else 0
theorem index0 (a b c : Value) (w : World) : (Instr.index 55 (.agg #[a, b, c]) (.int .i64 0)).run Try.prog w = .ok a w := by
  have u1 := Try.underlying55
  unfold Instr.index
  go_simp
theorem index1 (a b c : Value) (w : World) : (Instr.index 55 (.agg #[a, b, c]) (.int .i64 1)).run Try.prog w = .ok b w := by
  have u1 := Try.underlying55
  unfold Instr.index
  go_simp
theorem index2 (a b c : Value) (w : World) : (Instr.index 55 (.agg #[a, b, c]) (.int .i64 2)).run Try.prog w = .ok c w := by
  have u1 := Try.underlying55
  unfold Instr.index
  go_simp
set_option maxRecDepth 100000 in
set_option maxHeartbeats 16000000 in
theorem most_any (a b c : Int) (w : World) : Calls Try.prog 12 #[.int .i64 a, .int .i64 b, .int .i64 c] w fun e w' => e = .returned (.int .i64 (mostM a b c)) ∧ w' = w := by
  have ix0 := fun w => index0 (.int .i64 a) (.int .i64 b) (.int .i64 c) w
  have ix1 := fun w => index1 (.int .i64 a) (.int .i64 b) (.int .i64 c) w
  have ix2 := fun w => index2 (.int .i64 a) (.int .i64 b) (.int .i64 c) w
  by_cases a1 : a < 0
  · skip
    go_enter Try.func12, Try.ntmps12
    go_wp2
    go_rounds 1
    go_ret
    exact ⟨(by unfold mostM; rw [if_neg (by omega)]; rfl), rfl⟩
  · by_cases a2 : 2147483647 < a
    · skip
      go_enter Try.func12, Try.ntmps12
      go_wp2
      go_rounds 1
      go_ret
      exact ⟨(by unfold mostM; rw [if_neg (by omega)]; rfl), rfl⟩
    · skip
      by_cases b1 : b < 0
      · skip
        go_enter Try.func12, Try.ntmps12
        go_wp2
        go_rounds 2
        go_ret
        exact ⟨(by unfold mostM; rw [if_neg (by omega)]; rfl), rfl⟩
      · by_cases b2 : 2147483647 < b
        · skip
          go_enter Try.func12, Try.ntmps12
          go_wp2
          go_rounds 2
          go_ret
          exact ⟨(by unfold mostM; rw [if_neg (by omega)]; rfl), rfl⟩
        · skip
          by_cases c1 : c < 0
          · skip
            go_enter Try.func12, Try.ntmps12
            go_wp2
            go_rounds 3
            go_ret
            exact ⟨(by unfold mostM; rw [if_neg (by omega)]; rfl), rfl⟩
          · by_cases c2 : 2147483647 < c
            · skip
              go_enter Try.func12, Try.ntmps12
              go_wp2
              go_rounds 3
              go_ret
              exact ⟨(by unfold mostM; rw [if_neg (by omega)]; rfl), rfl⟩
            · skip
              go_enter Try.func12, Try.ntmps12
              go_wp2
              go_rounds 4
              go_ret
              exact ⟨(by unfold mostM; rw [if_pos (by omega)]; rfl), rfl⟩
set_option maxRecDepth 100000 in
set_option maxHeartbeats 16000000 in
theorem refMost_any (a b c : Int) (w : World) : Calls Try.prog 14 #[.int .i64 a, .int .i64 b, .int .i64 c] w fun e w' => e = .returned (.int .i64 (mostM a b c)) ∧ w' = w := by
  by_cases a1 : a < 0
  · skip
    go_enter Try.func14, Try.ntmps14
    go_wp2
    go_ret
    exact ⟨(by unfold mostM; rw [if_neg (by omega)]; rfl), rfl⟩
  · skip
    by_cases b1 : b < 0
    · skip
      go_enter Try.func14, Try.ntmps14
      go_wp2
      go_ret
      exact ⟨(by unfold mostM; rw [if_neg (by omega)]; rfl), rfl⟩
    · skip
      by_cases c1 : c < 0
      · skip
        go_enter Try.func14, Try.ntmps14
        go_wp2
        go_ret
        exact ⟨(by unfold mostM; rw [if_neg (by omega)]; rfl), rfl⟩
      · skip
        by_cases a2 : 2147483647 < a
        · skip
          go_enter Try.func14, Try.ntmps14
          go_wp2
          go_ret
          exact ⟨(by unfold mostM; rw [if_neg (by omega)]; rfl), rfl⟩
        · skip
          by_cases b2 : 2147483647 < b
          · skip
            go_enter Try.func14, Try.ntmps14
            go_wp2
            go_ret
            exact ⟨(by unfold mostM; rw [if_neg (by omega)]; rfl), rfl⟩
          · skip
            by_cases c2 : 2147483647 < c
            · skip
              go_enter Try.func14, Try.ntmps14
              go_wp2
              go_ret
              exact ⟨(by unfold mostM; rw [if_neg (by omega)]; rfl), rfl⟩
            · skip
              go_enter Try.func14, Try.ntmps14
              go_wp2
              go_ret
              exact ⟨(by unfold mostM; rw [if_pos (by omega)]; rfl), rfl⟩
end Go.Proofs.Ytnohcmfhhoiihaa
