/- fits, nextOfThread; the document's fits. -/
import Derived.Test.YtnohcmfhhoiihaaHCMath
namespace Go.Proofs.Ytnohcmfhhoiihaa
open Go.RowKit

set_option maxRecDepth 100000 in
set_option maxHeartbeats 8000000 in
theorem fits_any (ph gl sw fr bg : Int) (ak : Bool) (ce ag th : Int) (st tl gr : Bool) (w : World) (h1 : 0 ≤ gl) (h2 : 0 ≤ sw) : Calls Try.prog 23 #[.agg #[.int .u8 ph, .int .i64 gl, .int .i64 sw, .int .i64 fr, .int .i64 bg, .bool ak], .agg #[.int .i64 ce, .int .i64 ag, .int .i64 th, .bool st, .bool tl, .bool gr]] w fun e w' => e = .returned (.bool (fitB gl sw ce ag th)) ∧ Below w.heap.size w w' := by
  have HB : Hid (Below w.heap.size w ((w.alloc (.cells #[.int .u8 ph, .int .i64 gl, .int .i64 sw, .int .i64 fr, .int .i64 bg, .bool ak] 27)).alloc (.cells #[.int .i64 ce, .int .i64 ag, .int .i64 th, .bool st, .bool tl, .bool gr] 29))) := ((Below.refl _ w).alloc (Nat.le_refl _) _).alloc (by simp) _
  by_cases k3 : 0 ≤ th
  · skip
    by_cases k2 : gl ≤ ag
    · skip
      by_cases k1 : sw ≤ ce
      · skip
        go_enter Try.func23, Try.ntmps23
        go_wp2
        go_ret
        exact ⟨ret_bool (by unfold fitB; exact (decide_eq_true (by unfold Fit; omega)).symm), HB.out⟩
      · skip
        go_enter Try.func23, Try.ntmps23
        go_wp2
        go_ret
        exact ⟨ret_bool (by unfold fitB; exact (decide_eq_false (by unfold Fit; omega)).symm), HB.out⟩
    · skip
      go_enter Try.func23, Try.ntmps23
      go_wp2
      go_ret
      exact ⟨ret_bool (by unfold fitB; exact (decide_eq_false (by unfold Fit; omega)).symm), HB.out⟩
  · skip
    go_enter Try.func23, Try.ntmps23
    go_wp2
    go_ret
    exact ⟨ret_bool (by unfold fitB; exact (decide_eq_false (by unfold Fit; omega)).symm), HB.out⟩
set_option maxRecDepth 100000 in
set_option maxHeartbeats 8000000 in
theorem refFits_any (ph gl sw fr bg : Int) (ak : Bool) (ce ag th : Int) (st tl gr : Bool) (w : World) : Calls Try.prog 25 #[.agg #[.int .u8 ph, .int .i64 gl, .int .i64 sw, .int .i64 fr, .int .i64 bg, .bool ak], .agg #[.int .i64 ce, .int .i64 ag, .int .i64 th, .bool st, .bool tl, .bool gr]] w fun e w' => e = .returned (.bool (fitB gl sw ce ag th)) ∧ Below w.heap.size w w' := by
  have HB : Hid (Below w.heap.size w ((w.alloc (.cells #[.int .u8 ph, .int .i64 gl, .int .i64 sw, .int .i64 fr, .int .i64 bg, .bool ak] 27)).alloc (.cells #[.int .i64 ce, .int .i64 ag, .int .i64 th, .bool st, .bool tl, .bool gr] 29))) := ((Below.refl _ w).alloc (Nat.le_refl _) _).alloc (by simp) _
  by_cases k5 : 0 ≤ ce
  · skip
    by_cases k4 : 0 ≤ ag
    · skip
      by_cases k3 : 0 ≤ th
      · skip
        by_cases k2 : gl ≤ ag
        · skip
          by_cases k1 : sw ≤ ce
          · skip
            go_enter Try.func25, Try.ntmps25
            go_wp2
            go_ret
            exact ⟨ret_bool (by unfold fitB; exact (decide_eq_true (by unfold Fit; omega)).symm), HB.out⟩
          · skip
            go_enter Try.func25, Try.ntmps25
            go_wp2
            go_ret
            exact ⟨ret_bool (by unfold fitB; exact (decide_eq_false (by unfold Fit; omega)).symm), HB.out⟩
        · skip
          go_enter Try.func25, Try.ntmps25
          go_wp2
          go_ret
          exact ⟨ret_bool (by unfold fitB; exact (decide_eq_false (by unfold Fit; omega)).symm), HB.out⟩
      · skip
        go_enter Try.func25, Try.ntmps25
        go_wp2
        go_ret
        exact ⟨ret_bool (by unfold fitB; exact (decide_eq_false (by unfold Fit; omega)).symm), HB.out⟩
    · skip
      go_enter Try.func25, Try.ntmps25
      go_wp2
      go_ret
      exact ⟨ret_bool (by unfold fitB; exact (decide_eq_false (by unfold Fit; omega)).symm), HB.out⟩
  · skip
    go_enter Try.func25, Try.ntmps25
    go_wp2
    go_ret
    exact ⟨ret_bool (by unfold fitB; exact (decide_eq_false (by unfold Fit; omega)).symm), HB.out⟩
set_option maxRecDepth 100000 in
set_option maxHeartbeats 8000000 in
theorem nextOf_any (ce ag th : Int) (st tl gr : Bool) (w : World) : Calls Try.prog 24 #[.agg #[.int .i64 ce, .int .i64 ag, .int .i64 th, .bool st, .bool tl, .bool gr]] w fun e w' => e = .returned (.agg #[.int .u8 (thM th st tl).wh, .int .i64 (thM th st tl).gl, .int .i64 (thM th st tl).th, .int .i64 (thM th st tl).ce]) ∧ Below w.heap.size w w' := by
  cases st
  · cases tl
    · skip
      go_enter Try.func24, Try.ntmps24
      go_wp2
      have hn := heap_alloc_new (w.alloc (.cells #[.int .i64 ce, .int .i64 ag, .int .i64 th, .bool false, .bool false, .bool gr] 29)) (.cells #[.int .u8 20, .int .i64 0, .int .i64 th, .int .i64 0] 34)
      rw [World.size_alloc] at hn
      exact bodyPost_ret (results_d (d := ⟨20, 0, th, 0⟩) (g := w.heap.size + 1) rfl rfl hn) rfl ⟨rfl, ((Below.refl _ w).alloc (Nat.le_refl _) _).alloc (by simp) _⟩
    · skip
      go_enter Try.func24, Try.ntmps24
      go_wp2
      have hn := heap_alloc_new (w.alloc (.cells #[.int .i64 ce, .int .i64 ag, .int .i64 th, .bool false, .bool true, .bool gr] 29)) (.cells #[.int .u8 0, .int .i64 0, .int .i64 0, .int .i64 0] 34)
      rw [World.size_alloc] at hn
      exact bodyPost_ret (results_d (d := ⟨0, 0, 0, 0⟩) (g := w.heap.size + 1) rfl rfl hn) rfl ⟨rfl, ((Below.refl _ w).alloc (Nat.le_refl _) _).alloc (by simp) _⟩
  · skip
    go_enter Try.func24, Try.ntmps24
    go_wp2
    have hn := heap_alloc_new (w.alloc (.cells #[.int .i64 ce, .int .i64 ag, .int .i64 th, .bool true, .bool tl, .bool gr] 29)) (.cells #[.int .u8 21, .int .i64 0, .int .i64 th, .int .i64 0] 34)
    rw [World.size_alloc] at hn
    exact bodyPost_ret (results_d (d := ⟨21, 0, th, 0⟩) (g := w.heap.size + 1) rfl rfl hn) rfl ⟨rfl, ((Below.refl _ w).alloc (Nat.le_refl _) _).alloc (by simp) _⟩
end Go.Proofs.Ytnohcmfhhoiihaa
