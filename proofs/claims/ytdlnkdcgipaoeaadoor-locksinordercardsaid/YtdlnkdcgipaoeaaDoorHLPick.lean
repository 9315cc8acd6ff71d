/- pick. -/
import Derived.Test.YtdlnkdcgipaoeaaDoorHLEnded
namespace Go.Proofs.YtdlnkdcgipaoeaaDoor
open Go.RowKit

/-- Which of n things the number c speaks of. -/
def pickN (c : Int) (n : Nat) : Nat := ((if c < 0 then -(c + 1) else c) % (n : Int)).toNat
theorem pick_lt {c : Int} {n : Nat} (h : 0 < n) : pickN c n < n := by
  unfold pickN
  have h1 := Int.emod_nonneg (if c < 0 then -(c + 1) else c) (show (n : Int) ≠ 0 by omega)
  have h2 := Int.emod_lt_of_pos (if c < 0 then -(c + 1) else c) (show (0 : Int) < n by omega)
  omega
set_option maxRecDepth 100000 in
set_option maxHeartbeats 4000000 in
theorem pick_any (c : Int) (n : Nat) (w : World) (hc : -9223372036854775808 ≤ c ∧ c ≤ 9223372036854775807) (hn : 0 < n) (hm : n ≤ 9223372036854775807) :
    Calls Tryd.prog 14 #[.int .i64 c, .int .i64 n] w fun e w' => e = .returned (.int .i64 (pickN c n)) ∧ w' = w := by
  have hp : ((pickN c n : Nat) : Int) = (if c < 0 then -(c + 1) else c) % (n : Int) := by
    unfold pickN
    have h1 := Int.emod_nonneg (if c < 0 then -(c + 1) else c) (show (n : Int) ≠ 0 by omega)
    omega
  rw [hp]
  have n0 : ¬ (n : Int) = 0 := by omega
  by_cases h : c < 0
  · rw [if_pos h]
    have hd : -((c + 1).tmod (n : Int)) = -(c + 1) % (n : Int) := by rw [← Int.neg_tmod]; exact Int.tmod_eq_emod_of_nonneg (by omega)
    have HD : Hid _ := hd
    clear hd hp
    go_enter Tryd.func14, Tryd.ntmps14
    go_wp2
    go_ret
    exact ⟨by rw [← HD.out]; rfl, rfl⟩
  · rw [if_neg h]
    have hd : c.tmod (n : Int) = c % (n : Int) := Int.tmod_eq_emod_of_nonneg (by omega)
    have HD : Hid _ := hd
    clear hd hp
    go_enter Tryd.func14, Tryd.ntmps14
    go_wp2
    go_ret
    exact ⟨by rw [← HD.out]; rfl, rfl⟩
end Go.Proofs.YtdlnkdcgipaoeaaDoor
