/- The document's may: what is no list. -/
import Derived.Test.YtlpdfifjdlfpdaaGreatDoorHRefSym
import Derived.Test.YtlpdfifjdlfpdaaGreatDoorGK
namespace Go.Proofs.YtlpdfifjdlfpdaaGreatDoor
open Go.RowKit

theorem isDat_more {k n : Int} {t : List UInt8} {k1 n1 : Int} {t1 : List UInt8} {s1 : Fo} {d1 : Bool} {r : Fo} {d : Bool} (hk : k ≠ 5) : isDat k n t (.cons k1 n1 t1 s1 d1 r) d = false := by
  unfold isDat
  split
  · simp [sameB, Fo.same]
  split
  · simp [sameB, Fo.same]
  split
  · simp [sameB, Fo.same]
  · first | rfl | (rw [if_neg hk])

set_option maxRecDepth 100000 in
set_option maxHeartbeats 4000000 in
/-- With kids: no. -/
theorem may_kids (k n : Int) (t : List UInt8) (l : Nat) (hl : l + 1 ≤ maxLen) (d : Bool) (rk : Option Addr) (ck : Nat) (w : World) (hk : k ≠ 5) :
    Calls Tryz.prog 47 #[.agg #[.int .u8 k, .int .i64 n, S t, .slice rk (l + 1) ck, .bool d]] w fun e w' => e = .returned (.bool false) ∧ Below w.heap.size w w' := by
  unfold maxLen at hl
  have Hal : Hid (Below w.heap.size w (w.alloc (.cells #[.int .u8 k, .int .i64 n, S t, .slice rk (l + 1) ck, .bool d] 58))) := (Below.refl _ w).alloc (Nat.le_refl _) _
  have b5 : (k == 5) = false := beq_eq_false_iff_ne.2 hk
  have b5' : (k != 5) = true := by simp [bne, b5]
  have hl0 : (0 : Int) < (l : Int) + 1 := by omega
  clear hk
  cases b1 : (k == 1) <;> cases b2 : (k == 2) <;> cases bn : (n == 0) <;> by_cases ht : t = []
  all_goals have c1 : (k != 1) = !(k == 1) := rfl
  all_goals have c2 : (k != 2) = !(k == 2) := rfl
  all_goals have c3 : (n != 0) = !(n == 0) := rfl
  all_goals rw [b1] at c1
  all_goals rw [b2] at c2
  all_goals rw [bn] at c3
  all_goals simp only [Bool.not_true, Bool.not_false] at c1 c2 c3
  all_goals (try subst ht)
  all_goals go_enter Tryz.func47, Tryz.ntmps47
  all_goals go_wp2
  all_goals go_ret
  all_goals exact ⟨rfl, Hal.out⟩

set_option maxRecDepth 100000 in
set_option maxHeartbeats 4000000 in
theorem may_dot (k n : Int) (t : List UInt8) (rk : Option Addr) (ck : Nat) (w : World) (hk : k ≠ 5) :
    Calls Tryz.prog 47 #[.agg #[.int .u8 k, .int .i64 n, S t, .slice rk 0 ck, .bool true]] w fun e w' => e = .returned (.bool false) ∧ Below w.heap.size w w' := by
  have Hal : Hid (Below w.heap.size w (w.alloc (.cells #[.int .u8 k, .int .i64 n, S t, .slice rk 0 ck, .bool true] 58))) := (Below.refl _ w).alloc (Nat.le_refl _) _
  have b5 : (k == 5) = false := beq_eq_false_iff_ne.2 hk
  have b5' : (k != 5) = true := by simp [bne, b5]
  clear hk
  cases b1 : (k == 1) <;> cases b2 : (k == 2) <;> cases bn : (n == 0) <;> by_cases ht : t = []
  all_goals have c1 : (k != 1) = !(k == 1) := rfl
  all_goals have c2 : (k != 2) = !(k == 2) := rfl
  all_goals have c3 : (n != 0) = !(n == 0) := rfl
  all_goals rw [b1] at c1
  all_goals rw [b2] at c2
  all_goals rw [bn] at c3
  all_goals simp only [Bool.not_true, Bool.not_false] at c1 c2 c3
  all_goals (try subst ht)
  all_goals go_enter Tryz.func47, Tryz.ntmps47
  all_goals go_wp2
  all_goals go_ret
  all_goals exact ⟨rfl, Hal.out⟩

set_option maxRecDepth 100000 in
set_option maxHeartbeats 4000000 in
theorem may_num (n : Int) (t : List UInt8) (rk : Option Addr) (ck : Nat) (w : World) :
    Calls Tryz.prog 47 #[.agg #[.int .u8 1, .int .i64 n, S t, .slice rk 0 ck, .bool false]] w fun e w' => e = .returned (.bool (isDat 1 n t .nil false)) ∧ Below w.heap.size w w' := by
  have Hal : Hid (Below w.heap.size w (w.alloc (.cells #[.int .u8 1, .int .i64 n, S t, .slice rk 0 ck, .bool false] 58))) := (Below.refl _ w).alloc (Nat.le_refl _) _
  by_cases ht : t = []
  · subst ht
    have e : isDat 1 n [] .nil false = (decide (-576460752303423488 ≤ n) && decide (n < 576460752303423488)) := by
      have : decide (n ≤ 576460752303423487) = decide (n < 576460752303423488) := by rw [Bool.eq_iff_iff]; simp only [decide_eq_true_eq]; omega
      simp [isDat, sameB, Fo.same, this]
    rw [e]
    cases h1 : decide (-576460752303423488 ≤ n) <;> cases h2 : decide (n < 576460752303423488)
    all_goals go_enter Tryz.func47, Tryz.ntmps47
    all_goals go_wp2
    all_goals go_ret
    all_goals exact ⟨rfl, Hal.out⟩
  · have e : isDat 1 n t .nil false = false := by simp [isDat, sameB, ht]
    rw [e]
    go_enter Tryz.func47, Tryz.ntmps47
    go_wp2
    go_ret
    exact ⟨rfl, Hal.out⟩

set_option maxRecDepth 100000 in
set_option maxHeartbeats 4000000 in
theorem may_sym (n : Int) (t : List UInt8) (ht : t.length ≤ 281474976710656) (rk : Option Addr) (ck : Nat) (w : World) :
    Calls Tryz.prog 47 #[.agg #[.int .u8 2, .int .i64 n, S t, .slice rk 0 ck, .bool false]] w fun e w' => e = .returned (.bool (isDat 2 n t .nil false)) ∧ Below w.heap.size w w' := by
  have Hal : Hid (Below w.heap.size w (w.alloc (.cells #[.int .u8 2, .int .i64 n, S t, .slice rk 0 ck, .bool false] 58))) := (Below.refl _ w).alloc (Nat.le_refl _) _
  have Ht : Hid (((⟨t.toArray⟩ : ByteArray).size) ≤ 281474976710656) := by show t.toArray.size ≤ _; simpa using ht
  clear ht
  cases bn : (n == 0)
  · have c3 : (n != 0) = true := by simp [bne, bn]
    have e : isDat 2 n t .nil false = false := by simp [isDat, sameB, bn]
    rw [e]
    go_enter Tryz.func47, Tryz.ntmps47
    go_wp2
    go_ret
    exact ⟨rfl, Hal.out⟩
  · have c3 : (n != 0) = false := by simp [bne, bn]
    have e : isDat 2 n t .nil false = symB t := by simp [isDat, sameB, Fo.same, bn]
    have Hs : Hid (refSym t = symB t) := by show _ = _; rw [← sym_ref]; rfl
    rw [e]
    go_enter Tryz.func47, Tryz.ntmps47
    go_wp2_with fail
    refine (refIsSymbol_any ⟨t.toArray⟩ _ Ht.out).mono ?_
    rw [show (ByteArray.mk t.toArray).data.toList = t by simp, Hs.out]
    rintro x w1 ⟨rfl, hb1⟩
    have H1 : Hid (Below w.heap.size w w1) := Hal.out.trans (hb1.mono Hal.out.size)
    clear hb1
    go_wp2
    go_ret
    exact ⟨rfl, H1.out⟩
end Go.Proofs.YtlpdfifjdlfpdaaGreatDoor
