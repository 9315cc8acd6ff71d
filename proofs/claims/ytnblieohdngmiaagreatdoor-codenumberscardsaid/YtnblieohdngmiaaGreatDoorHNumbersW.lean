/- The walk of CodeNumbers. -/
import Derived.Test.YtnblieohdngmiaaGreatDoorGN
namespace Go.Proofs.YtnblieohdngmiaaGreatDoor
open Go.RowKit

def opsV : List Value := [.int .u8 1, .int .u8 2, .int .u8 3, .int .u8 4, .int .u8 5, .int .u8 6, .int .u8 7, .int .u8 8, .int .u8 9, .int .u8 10, .int .u8 11, .int .u8 12, .int .u8 13, .int .u8 14, .int .u8 15, .int .u8 16, .int .u8 17, .int .u8 18]
theorem opsV_at : ∀ j : Nat, j < 18 → opsV[j]? = some (.int .u8 ((j : Int) + 1)) := by
  intro j hj
  have hd : j = 0 ∨ j = 1 ∨ j = 2 ∨ j = 3 ∨ j = 4 ∨ j = 5 ∨ j = 6 ∨ j = 7 ∨ j = 8 ∨ j = 9 ∨ j = 10 ∨ j = 11 ∨ j = 12 ∨ j = 13 ∨ j = 14 ∨ j = 15 ∨ j = 16 ∨ j = 17 := by omega
  rcases hd with rfl | rfl | rfl | rfl | rfl | rfl | rfl | rfl | rfl | rfl | rfl | rfl | rfl | rfl | rfl | rfl | rfl | rfl <;> rfl
set_option maxRecDepth 100000 in
set_option maxHeartbeats 4000000 in
theorem codeNumbers_walk (w : World) (hE : Env w) : Calls Tryz.prog 3 #[] w fun e w' => e = .returned (.bool true) ∧ Below w.heap.size w w' := by
  have HW : Hid (Calls Tryz.prog 9 #[] w fun e w' => e = .returned (.bool true) ∧ Below w.heap.size w w') := works_any w hE
  clear hE
  go_enter Tryz.func3, Tryz.ntmps3
  go_wp2_with fail
  refine Calls.mono HW.out ?_
  rintro e w1 ⟨rfl, hb1⟩
  have HB : Hid (Below w.heap.size w (w1.alloc (.cells opsV.toArray 23))) := hb1.trans (((Below.refl _ w1).alloc (Nat.le_refl _) _).mono hb1.size)
  have hn := heap_alloc_new w1 (.cells opsV.toArray 23)
  have HC : Hid (∀ j : Nat, j < 18 → (w1.alloc (.cells opsV.toArray 23)).cell? ⟨w1.heap.size, j, none⟩ = some (.int .u8 ((j : Int) + 1))) := fun j hj => heap_cell hn (by simpa using opsV_at j hj)
  clear hn hb1 HW
  go_wp2
  go_loopw [3] (fun i wr => ∃ j : Nat, i = .int .i64 j ∧ j ≤ 18 ∧ wr = w1.alloc (.cells opsV.toArray 23)) (fun i _ => 18 - (intOf i).toNat)
  case atStart => exact ⟨0, rfl, by omega, rfl⟩
  case round =>
    obtain ⟨j, rfl, hj, hwr⟩ := hrel
    rw [← hwr] at HC HB
    have HWr : Hid (wr = w1.alloc (.cells opsV.toArray 23)) := hwr
    clear hwr
    by_cases hlt : j < 18
    · have i1 : (j : Int) < 18 := by omega
      have c1 := HC.out j hlt
      have i2 : (j : Int) + 1 ≤ 255 := by omega
      have i3 : (1 : Int) + (j : Int) = (j : Int) + 1 := by omega
      go_wp2
      go_roundw
      case rel => exact ⟨j + 1, by go_num, by omega, HWr.out⟩
      case measure => simp [intOf]; omega
    · have i1 : ¬ (j : Int) < 18 := by omega
      go_wp2
      go_ret
      exact ⟨rfl, HB.out⟩
end Go.Proofs.YtnblieohdngmiaaGreatDoor
