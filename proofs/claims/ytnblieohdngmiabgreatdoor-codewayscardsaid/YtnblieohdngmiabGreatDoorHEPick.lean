/- pick. -/
import Derived.Test.YtnblieohdngmiabGreatDoorGD
namespace Go.Proofs.YtnblieohdngmiabGreatDoor
open Go.RowKit

theorem mod_pick {a n : Int} (ha : 0 ≤ a) (hn : 0 < n) : ∃ k : Nat, (k : Int) < n ∧ a.tmod n = k :=
  ⟨(a % n).toNat, by have := Int.emod_lt_of_pos a hn; have := Int.emod_nonneg a (by omega : n ≠ 0); omega, by
    rw [Int.tmod_eq_emod_of_nonneg ha]; have := Int.emod_nonneg a (by omega : n ≠ 0); omega⟩
set_option maxRecDepth 100000 in
set_option maxHeartbeats 4000000 in
theorem pick_fix (a : Int) (n : Nat) (ha : -9223372036854775808 ≤ a ∧ a ≤ 9223372036854775807) (hn : 0 < n) (hn' : n ≤ 281474976710656) :
    ∃ k : Nat, k < n ∧ ∀ w : World, Calls Tryz.prog 9 #[.int .i64 a, .int .i64 n] w fun e w' => e = .returned (.int .i64 k) ∧ w' = w := by
  have i2 : ((n : Int) == 0) = false := by simp; omega
  have hn1 : (0 : Int) < (n : Int) := by omega
  obtain ⟨a1, a2⟩ := ha
  by_cases h : a < 0
  · obtain ⟨k, hk, he⟩ := mod_pick (a := -(a + 1)) (n := (n : Int)) (by omega) hn1
    refine ⟨k, by omega, fun w => ?_⟩
    have i3 : a + 1 ≤ 9223372036854775807 := by omega
    have i4 : -9223372036854775808 ≤ a + 1 := by omega
    clear hk
    go_enter Tryz.func9, Tryz.ntmps9
    go_wp2
    go_ret
    exact ⟨by rw [← he]; rfl, rfl⟩
  · obtain ⟨k, hk, he⟩ := mod_pick (a := a) (n := (n : Int)) (by omega) hn1
    refine ⟨k, by omega, fun w => ?_⟩
    clear hk
    go_enter Tryz.func9, Tryz.ntmps9
    go_wp2
    go_ret
    exact ⟨by rw [← he]; rfl, rfl⟩
end Go.Proofs.YtnblieohdngmiabGreatDoor
