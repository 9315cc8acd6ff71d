/- mayBe: may the collector be there? -/
import Derived.Test.YtnohcmfhhoiihaaHCMath
namespace Go.Proofs.Ytnohcmfhhoiihaa
open Go.RowKit

set_option maxRecDepth 100000 in
set_option maxHeartbeats 8000000 in
theorem mayBe_any (ph gl sw fr bg : Int) (ak : Bool) (w : World) : Calls Try.prog 21 #[.agg #[.int .u8 ph, .int .i64 gl, .int .i64 sw, .int .i64 fr, .int .i64 bg, .bool ak]] w fun e w' => e = .returned (.bool (mayB ph gl sw fr bg ak)) ∧ Below w.heap.size w w' := by
  have HB : Hid (Below w.heap.size w (w.alloc (.cells #[.int .u8 ph, .int .i64 gl, .int .i64 sw, .int .i64 fr, .int .i64 bg, .bool ak] 27))) := (Below.refl _ w).alloc (Nat.le_refl _) _
  by_cases h1 : 3 < ph
  · skip
    go_enter Try.func21, Try.ntmps21
    go_wp2
    go_ret
    exact ⟨ret_bool (by unfold mayB; first | exact (decide_eq_true (by unfold May; simp; omega)).symm | exact (decide_eq_false (by unfold May; simp; omega)).symm | exact (decide_eq_true (by unfold May; omega)).symm | exact (decide_eq_false (by unfold May; omega)).symm), HB.out⟩
  · skip
    cases ak
    · skip
      by_cases h2 : bg < 0
      · skip
        go_enter Try.func21, Try.ntmps21
        go_wp2
        go_ret
        exact ⟨ret_bool (by unfold mayB; first | exact (decide_eq_true (by unfold May; simp; omega)).symm | exact (decide_eq_false (by unfold May; simp; omega)).symm | exact (decide_eq_true (by unfold May; omega)).symm | exact (decide_eq_false (by unfold May; omega)).symm), HB.out⟩
      · skip
        by_cases h3 : bg = 9223372036854775807
        · subst h3
          go_enter Try.func21, Try.ntmps21
          go_wp2
          go_ret
          exact ⟨ret_bool (by unfold mayB; first | exact (decide_eq_true (by unfold May; simp; omega)).symm | exact (decide_eq_false (by unfold May; simp; omega)).symm | exact (decide_eq_true (by unfold May; omega)).symm | exact (decide_eq_false (by unfold May; omega)).symm), HB.out⟩
        · have h31 : (bg == 9223372036854775807) = false := by simpa using h3
          have h32 : (bg != 9223372036854775807) = true := by simpa using h3
          by_cases h4 : gl < 0
          · skip
            go_enter Try.func21, Try.ntmps21
            go_wp2
            go_ret
            exact ⟨ret_bool (by unfold mayB; first | exact (decide_eq_true (by unfold May; simp; omega)).symm | exact (decide_eq_false (by unfold May; simp; omega)).symm | exact (decide_eq_true (by unfold May; omega)).symm | exact (decide_eq_false (by unfold May; omega)).symm), HB.out⟩
          · skip
            by_cases h4a : gl = 0
            · subst h4a
              by_cases h6 : fr < 0
              · skip
                go_enter Try.func21, Try.ntmps21
                go_wp2
                go_ret
                exact ⟨ret_bool (by unfold mayB; first | exact (decide_eq_true (by unfold May; simp; omega)).symm | exact (decide_eq_false (by unfold May; simp; omega)).symm | exact (decide_eq_true (by unfold May; omega)).symm | exact (decide_eq_false (by unfold May; omega)).symm), HB.out⟩
              · skip
                by_cases h7 : sw < fr
                · skip
                  go_enter Try.func21, Try.ntmps21
                  go_wp2
                  go_ret
                  exact ⟨ret_bool (by unfold mayB; first | exact (decide_eq_true (by unfold May; simp; omega)).symm | exact (decide_eq_false (by unfold May; simp; omega)).symm | exact (decide_eq_true (by unfold May; omega)).symm | exact (decide_eq_false (by unfold May; omega)).symm), HB.out⟩
                · skip
                  by_cases h8 : sw = 0
                  · subst h8
                    go_enter Try.func21, Try.ntmps21
                    go_wp2
                    go_ret
                    exact ⟨ret_bool (by unfold mayB; first | exact (decide_eq_true (by unfold May; simp; omega)).symm | exact (decide_eq_false (by unfold May; simp; omega)).symm | exact (decide_eq_true (by unfold May; omega)).symm | exact (decide_eq_false (by unfold May; omega)).symm), HB.out⟩
                  · have h81 : (sw == 0) = false := by simpa using h8
                    have h82 : (sw != 0) = true := by simpa using h8
                    by_cases h9 : ph = 3
                    · subst h9
                      go_enter Try.func21, Try.ntmps21
                      go_wp2
                      go_ret
                      exact ⟨ret_bool (by unfold mayB; first | exact (decide_eq_true (by unfold May; simp; omega)).symm | exact (decide_eq_false (by unfold May; simp; omega)).symm | exact (decide_eq_true (by unfold May; omega)).symm | exact (decide_eq_false (by unfold May; omega)).symm), HB.out⟩
                    · have h91 : (ph == 3) = false := by simpa using h9
                      have h92 : (ph != 3) = true := by simpa using h9
                      go_enter Try.func21, Try.ntmps21
                      go_wp2
                      go_ret
                      exact ⟨ret_bool (by unfold mayB; first | exact (decide_eq_true (by unfold May; simp; omega)).symm | exact (decide_eq_false (by unfold May; simp; omega)).symm | exact (decide_eq_true (by unfold May; omega)).symm | exact (decide_eq_false (by unfold May; omega)).symm), HB.out⟩
            · have h4a1 : (gl == 0) = false := by simpa using h4a
              have h4a2 : (gl != 0) = true := by simpa using h4a
              by_cases h5 : ph = 1
              · subst h5
                by_cases h6 : fr < 0
                · skip
                  go_enter Try.func21, Try.ntmps21
                  go_wp2
                  go_ret
                  exact ⟨ret_bool (by unfold mayB; first | exact (decide_eq_true (by unfold May; simp; omega)).symm | exact (decide_eq_false (by unfold May; simp; omega)).symm | exact (decide_eq_true (by unfold May; omega)).symm | exact (decide_eq_false (by unfold May; omega)).symm), HB.out⟩
                · skip
                  by_cases h7 : sw < fr
                  · skip
                    go_enter Try.func21, Try.ntmps21
                    go_wp2
                    go_ret
                    exact ⟨ret_bool (by unfold mayB; first | exact (decide_eq_true (by unfold May; simp; omega)).symm | exact (decide_eq_false (by unfold May; simp; omega)).symm | exact (decide_eq_true (by unfold May; omega)).symm | exact (decide_eq_false (by unfold May; omega)).symm), HB.out⟩
                  · skip
                    by_cases h8 : sw = 0
                    · subst h8
                      go_enter Try.func21, Try.ntmps21
                      go_wp2
                      go_ret
                      exact ⟨ret_bool (by unfold mayB; first | exact (decide_eq_true (by unfold May; simp; omega)).symm | exact (decide_eq_false (by unfold May; simp; omega)).symm | exact (decide_eq_true (by unfold May; omega)).symm | exact (decide_eq_false (by unfold May; omega)).symm), HB.out⟩
                    · have h81 : (sw == 0) = false := by simpa using h8
                      have h82 : (sw != 0) = true := by simpa using h8
                      go_enter Try.func21, Try.ntmps21
                      go_wp2
                      go_ret
                      exact ⟨ret_bool (by unfold mayB; first | exact (decide_eq_true (by unfold May; simp; omega)).symm | exact (decide_eq_false (by unfold May; simp; omega)).symm | exact (decide_eq_true (by unfold May; omega)).symm | exact (decide_eq_false (by unfold May; omega)).symm), HB.out⟩
              · have h51 : (ph == 1) = false := by simpa using h5
                have h52 : (ph != 1) = true := by simpa using h5
                go_enter Try.func21, Try.ntmps21
                go_wp2
                go_ret
                exact ⟨ret_bool (by unfold mayB; first | exact (decide_eq_true (by unfold May; simp; omega)).symm | exact (decide_eq_false (by unfold May; simp; omega)).symm | exact (decide_eq_true (by unfold May; omega)).symm | exact (decide_eq_false (by unfold May; omega)).symm), HB.out⟩
    · skip
      by_cases h1a : ph = 0
      · subst h1a
        by_cases h2 : bg < 0
        · skip
          go_enter Try.func21, Try.ntmps21
          go_wp2
          go_ret
          exact ⟨ret_bool (by unfold mayB; first | exact (decide_eq_true (by unfold May; simp; omega)).symm | exact (decide_eq_false (by unfold May; simp; omega)).symm | exact (decide_eq_true (by unfold May; omega)).symm | exact (decide_eq_false (by unfold May; omega)).symm), HB.out⟩
        · skip
          by_cases h3 : bg = 9223372036854775807
          · subst h3
            go_enter Try.func21, Try.ntmps21
            go_wp2
            go_ret
            exact ⟨ret_bool (by unfold mayB; first | exact (decide_eq_true (by unfold May; simp; omega)).symm | exact (decide_eq_false (by unfold May; simp; omega)).symm | exact (decide_eq_true (by unfold May; omega)).symm | exact (decide_eq_false (by unfold May; omega)).symm), HB.out⟩
          · have h31 : (bg == 9223372036854775807) = false := by simpa using h3
            have h32 : (bg != 9223372036854775807) = true := by simpa using h3
            by_cases h4 : gl < 0
            · skip
              go_enter Try.func21, Try.ntmps21
              go_wp2
              go_ret
              exact ⟨ret_bool (by unfold mayB; first | exact (decide_eq_true (by unfold May; simp; omega)).symm | exact (decide_eq_false (by unfold May; simp; omega)).symm | exact (decide_eq_true (by unfold May; omega)).symm | exact (decide_eq_false (by unfold May; omega)).symm), HB.out⟩
            · skip
              by_cases h4a : gl = 0
              · subst h4a
                by_cases h6 : fr < 0
                · skip
                  go_enter Try.func21, Try.ntmps21
                  go_wp2
                  go_ret
                  exact ⟨ret_bool (by unfold mayB; first | exact (decide_eq_true (by unfold May; simp; omega)).symm | exact (decide_eq_false (by unfold May; simp; omega)).symm | exact (decide_eq_true (by unfold May; omega)).symm | exact (decide_eq_false (by unfold May; omega)).symm), HB.out⟩
                · skip
                  by_cases h7 : sw < fr
                  · skip
                    go_enter Try.func21, Try.ntmps21
                    go_wp2
                    go_ret
                    exact ⟨ret_bool (by unfold mayB; first | exact (decide_eq_true (by unfold May; simp; omega)).symm | exact (decide_eq_false (by unfold May; simp; omega)).symm | exact (decide_eq_true (by unfold May; omega)).symm | exact (decide_eq_false (by unfold May; omega)).symm), HB.out⟩
                  · skip
                    by_cases h8 : sw = 0
                    · subst h8
                      go_enter Try.func21, Try.ntmps21
                      go_wp2
                      go_ret
                      exact ⟨ret_bool (by unfold mayB; first | exact (decide_eq_true (by unfold May; simp; omega)).symm | exact (decide_eq_false (by unfold May; simp; omega)).symm | exact (decide_eq_true (by unfold May; omega)).symm | exact (decide_eq_false (by unfold May; omega)).symm), HB.out⟩
                    · have h81 : (sw == 0) = false := by simpa using h8
                      have h82 : (sw != 0) = true := by simpa using h8
                      go_enter Try.func21, Try.ntmps21
                      go_wp2
                      go_ret
                      exact ⟨ret_bool (by unfold mayB; first | exact (decide_eq_true (by unfold May; simp; omega)).symm | exact (decide_eq_false (by unfold May; simp; omega)).symm | exact (decide_eq_true (by unfold May; omega)).symm | exact (decide_eq_false (by unfold May; omega)).symm), HB.out⟩
              · have h4a1 : (gl == 0) = false := by simpa using h4a
                have h4a2 : (gl != 0) = true := by simpa using h4a
                go_enter Try.func21, Try.ntmps21
                go_wp2
                go_ret
                exact ⟨ret_bool (by unfold mayB; first | exact (decide_eq_true (by unfold May; simp; omega)).symm | exact (decide_eq_false (by unfold May; simp; omega)).symm | exact (decide_eq_true (by unfold May; omega)).symm | exact (decide_eq_false (by unfold May; omega)).symm), HB.out⟩
      · have h1a1 : (ph == 0) = false := by simpa using h1a
        have h1a2 : (ph != 0) = true := by simpa using h1a
        go_enter Try.func21, Try.ntmps21
        go_wp2
        go_ret
        exact ⟨ret_bool (by unfold mayB; first | exact (decide_eq_true (by unfold May; simp; omega)).symm | exact (decide_eq_false (by unfold May; simp; omega)).symm | exact (decide_eq_true (by unfold May; omega)).symm | exact (decide_eq_false (by unfold May; omega)).symm), HB.out⟩
end Go.Proofs.Ytnohcmfhhoiihaa
