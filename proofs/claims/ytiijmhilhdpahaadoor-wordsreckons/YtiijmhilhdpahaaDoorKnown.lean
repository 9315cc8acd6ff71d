/- The contract of the chapter's examples: known returns true wherever the table lies as its initialiser lays it, and leaves the world as it was. -/
import Derived.Test.YtiijmhilhdpahaaDoorNums
namespace Go.Proofs.YtiijmhilhdpahaaDoor
open Go.RowKit

theorem k1 : mkW 5 5 = 85 ∧ mkE 5 5 = 0 := by decide +kernel
theorem k2 : mkW 5 (-1) = 18446744073709551605 ∧ mkE 5 (-1) = 0 := by decide +kernel
theorem k3 : mkW 1 1 = 0 ∧ mkE 1 1 = 11 := by decide +kernel
theorem k4 : mkW 9 0 = 0 ∧ mkE 9 0 = 10 := by decide +kernel
theorem k5 : ofT 102 = 6 ∧ ofN 102 = 6 ∧ wd 102 = true := by decide +kernel
theorem k6 : mkW 8 3 = 56 := by decide +kernel
theorem k7 : cellN 56 = 3 ∧ isRefB 56 = true := by decide +kernel
theorem k8 : quoW 18446744073709551605 85 = 5 ∧ quoE 18446744073709551605 85 = 0 := by decide +kernel
theorem k9 : addW 85 18446744073709551605 = 69 ∧ addE 85 18446744073709551605 = 0 := by decide +kernel
theorem rng_of (x : Int) (h : 0 ≤ x) (h' : x ≤ 18446744073709551615) : Rng x := ⟨h, h'⟩

set_option maxHeartbeats 1000000 in
theorem known_any (w : World) (hT : Tab w) :
    Calls Tryd.prog 8 #[] w fun e w' => e = .returned (.bool true) ∧ w' = w := by
  have HT : Hid (Tab w) := hT
  clear hT
  go_enter Tryd.func8, Tryd.ntmps8
  go_wp2_with fail
  refine (make_any _ _ _ (by decide) (by decide) HT.out).mono ?_
  rintro e w' ⟨rfl, rfl⟩
  rw [k1.1, k1.2]
  go_wp2_with fail
  refine (make_any _ _ _ (by decide) (by decide) HT.out).mono ?_
  rintro e w' ⟨rfl, rfl⟩
  rw [k2.1, k2.2]
  go_wp2_with fail
  refine (make_any _ _ _ (by decide) (by decide) HT.out).mono ?_
  rintro e w' ⟨rfl, rfl⟩
  rw [k3.1, k3.2]
  go_wp2_with fail
  refine (make_any _ _ _ (by decide) (by decide) HT.out).mono ?_
  rintro e w' ⟨rfl, rfl⟩
  rw [k4.1, k4.2]
  go_wp2_with fail
  refine (of_any _ _ (rng_of _ (by decide) (by decide)) HT.out).mono ?_
  rintro e w' ⟨rfl, rfl⟩
  rw [k5.1, k5.2.1, k5.2.2]
  go_wp2_with fail
  refine (ref_any _ _ HT.out).mono ?_
  rintro e w' ⟨rfl, rfl⟩
  rw [k6]
  go_wp2_with fail
  refine (cell_any _ _ (rng_of _ (by decide) (by decide)) HT.out).mono ?_
  rintro e w' ⟨rfl, rfl⟩
  rw [k7.1, k7.2]
  go_wp2_with fail
  refine (quo_any _ _ _ (rng_of _ (by omega) (by omega)) (rng_of _ (by omega) (by omega)) HT.out).mono ?_
  rintro e w' ⟨rfl, rfl⟩
  rw [k8.1, k8.2]
  go_wp2_with fail
  refine (add_any _ _ _ (rng_of _ (by omega) (by omega)) (rng_of _ (by omega) (by omega)) HT.out).mono ?_
  rintro e w' ⟨rfl, rfl⟩
  rw [k9.1, k9.2]
  go_wp2_with fail
  go_ret
  exact ⟨rfl, rfl⟩
end Go.Proofs.YtiijmhilhdpahaaDoor
