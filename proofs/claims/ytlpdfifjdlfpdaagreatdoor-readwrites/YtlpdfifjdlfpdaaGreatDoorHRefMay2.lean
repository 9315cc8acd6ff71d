/- The document's may. -/
import Derived.Test.YtlpdfifjdlfpdaaGreatDoorHRefMay
namespace Go.Proofs.YtlpdfifjdlfpdaaGreatDoor
open Go.RowKit

set_option maxRecDepth 100000 in
set_option maxHeartbeats 4000000 in
theorem may_lf (k n : Int) (t : List UInt8) (hk : k = 3 ∨ k = 4) (rk : Option Addr) (ck : Nat) (w : World) :
    Calls Tryz.prog 47 #[.agg #[.int .u8 k, .int .i64 n, S t, .slice rk 0 ck, .bool false]] w fun e w' => e = .returned (.bool (isDat k n t .nil false)) ∧ Below w.heap.size w w' := by
  have Hal : Hid (Below w.heap.size w (w.alloc (.cells #[.int .u8 k, .int .i64 n, S t, .slice rk 0 ck, .bool false] 58))) := (Below.refl _ w).alloc (Nat.le_refl _) _
  have e : isDat k n t .nil false = (n == 0 && decide (t = [])) := by
    rcases hk with rfl | rfl <;> simp [isDat, sameB, Fo.same]
  rw [e]
  rcases hk with rfl | rfl <;> cases bn : (n == 0) <;> by_cases ht : t = []
  all_goals have c3 : (n != 0) = !(n == 0) := rfl
  all_goals rw [bn] at c3
  all_goals simp only [Bool.not_true, Bool.not_false] at c3
  all_goals (try subst ht)
  all_goals go_enter Tryz.func47, Tryz.ntmps47
  all_goals go_wp2
  all_goals go_ret
  all_goals exact ⟨by simp_all, Hal.out⟩

set_option maxRecDepth 100000 in
set_option maxHeartbeats 4000000 in
theorem may_none (k n : Int) (t : List UInt8) (h1 : k ≠ 1) (h2 : k ≠ 2) (h3 : k ≠ 3) (h4 : k ≠ 4) (h5 : k ≠ 5) (rk : Option Addr) (ck : Nat) (w : World) :
    Calls Tryz.prog 47 #[.agg #[.int .u8 k, .int .i64 n, S t, .slice rk 0 ck, .bool false]] w fun e w' => e = .returned (.bool false) ∧ Below w.heap.size w w' := by
  have Hal : Hid (Below w.heap.size w (w.alloc (.cells #[.int .u8 k, .int .i64 n, S t, .slice rk 0 ck, .bool false] 58))) := (Below.refl _ w).alloc (Nat.le_refl _) _
  have b1 : (k == 1) = false := beq_eq_false_iff_ne.2 h1
  have b2 : (k == 2) = false := beq_eq_false_iff_ne.2 h2
  have b3 : (k == 3) = false := beq_eq_false_iff_ne.2 h3
  have b4 : (k == 4) = false := beq_eq_false_iff_ne.2 h4
  have b5 : (k == 5) = false := beq_eq_false_iff_ne.2 h5
  have d1 : (k != 1) = true := by simp [bne, b1]
  have d2 : (k != 2) = true := by simp [bne, b2]
  have d5 : (k != 5) = true := by simp [bne, b5]
  clear h1 h2 h3 h4 h5
  cases bn : (n == 0) <;> by_cases ht : t = []
  all_goals have c3 : (n != 0) = !(n == 0) := rfl
  all_goals rw [bn] at c3
  all_goals simp only [Bool.not_true, Bool.not_false] at c3
  all_goals (try subst ht)
  all_goals go_enter Tryz.func47, Tryz.ntmps47
  all_goals go_wp2
  all_goals go_ret
  all_goals exact ⟨rfl, Hal.out⟩

def MayC (N : Nat) : Prop := ∀ (k n : Int) (t : List UInt8) (s : Fo) (d : Bool) (rk : Option Addr) (ck : Nat) (w : World), s.size ≤ N → s.len ≤ maxLen → t.length ≤ 281474976710656 → s.tx → RS w rk s →
  Calls Tryz.prog 47 #[.agg #[.int .u8 k, .int .i64 n, S t, .slice rk s.len ck, .bool d]] w fun e w' => e = .returned (.bool (isDat k n t s d && allD s)) ∧ Below w.heap.size w w'

set_option maxRecDepth 100000 in
set_option maxHeartbeats 4000000 in
theorem may_bad5 (n : Int) (t : List UInt8) (l : Nat) (hl0 : l ≤ maxLen) (d : Bool) (rk : Option Addr) (ck : Nat) (w : World) (h : (n == 0) = false ∨ ((n == 0) = true ∧ t ≠ [])) :
    Calls Tryz.prog 47 #[.agg #[.int .u8 5, .int .i64 n, S t, .slice rk l ck, .bool d]] w fun e w' => e = .returned (.bool false) ∧ Below w.heap.size w w' := by
  have hl := hl0
  unfold maxLen at hl
  have Hal : Hid (Below w.heap.size w (w.alloc (.cells #[.int .u8 5, .int .i64 n, S t, .slice rk l ck, .bool d] 58))) := (Below.refl _ w).alloc (Nat.le_refl _) _
  rcases h with h | ⟨h, ht⟩
  · have h' : (n != 0) = true := by simp [bne, h]
    go_enter Tryz.func47, Tryz.ntmps47
    go_wp2
    go_ret
    exact ⟨rfl, Hal.out⟩
  · have h' : (n != 0) = false := by simp [bne, h]
    go_enter Tryz.func47, Tryz.ntmps47
    go_wp2
    go_ret
    exact ⟨rfl, Hal.out⟩
end Go.Proofs.YtlpdfifjdlfpdaaGreatDoor
