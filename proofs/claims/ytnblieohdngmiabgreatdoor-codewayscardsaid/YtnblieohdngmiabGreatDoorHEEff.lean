/- What an instruction takes and puts, as the statement has it; pick. -/
import Derived.Test.YtnblieohdngmiabGreatDoorGD
import Derived.Deep.QuietTactic
import Derived.BigQuiet
namespace Go.Proofs.YtnblieohdngmiabGreatDoor
open Go.RowKit

def effV (x : Ins) : Value := .tuple #[.int .i64 (takesN x), .int .i64 (putsN x)]
set_option maxRecDepth 100000 in
set_option maxHeartbeats 8000000 in
theorem effect_small (op a : Int) (w : World) (h1 : 1 ≤ op) (h2 : op ≤ 18) (hp : op ≠ 13) (hc : op = 10 ∨ op = 11 → 0 ≤ a ∧ a ≤ 256) :
    Calls Tryz.prog 10 #[.agg #[.int .u8 op, .int .i64 a]] w fun e w' => e = .returned (effV ⟨op, a⟩) ∧ Below w.heap.size w w' := by
  have HA : Hid (Below w.heap.size w (w.alloc (.cells #[.int .u8 op, .int .i64 a] 46))) := (Below.refl _ w).alloc (Nat.le_refl _) _
  have hd : op = 1 ∨ op = 2 ∨ op = 3 ∨ op = 4 ∨ op = 5 ∨ op = 6 ∨ op = 7 ∨ op = 8 ∨ op = 9 ∨ op = 10 ∨ op = 11 ∨ op = 12 ∨ op = 14 ∨ op = 15 ∨ op = 16 ∨ op = 17 ∨ op = 18 := by omega
  clear h1 h2 hp
  rcases hd with rfl | rfl | rfl | rfl | rfl | rfl | rfl | rfl | rfl | rfl | rfl | rfl | rfl | rfl | rfl | rfl | rfl
  all_goals
    have HC : Hid _ := hc
    clear hc
    go_enter Tryz.func10, Tryz.ntmps10
    go_wp2
    go_ret2
    first
      | exact ⟨rfl, HA.out⟩
      | (have hw : wrap64 (a + 1) = a + 1 := by (have := HC.out (by first | trivial | omega | decide); exact wrap_id (by omega) (by omega))
         refine ⟨?_, HA.out⟩
         rw [hw]
         rfl)
set_option maxRecDepth 100000 in
set_option maxHeartbeats 8000000 in
theorem effect_prim (a : Int) (w : World) (h1 : 1 ≤ a) (h2 : a ≤ 22) :
    Calls Tryz.prog 10 #[.agg #[.int .u8 13, .int .i64 a]] w fun e w' => e = .returned (effV ⟨13, a⟩) ∧ Below w.heap.size w w' := by
  have HA : Hid (Below w.heap.size w (w.alloc (.cells #[.int .u8 13, .int .i64 a] 46))) := (Below.refl _ w).alloc (Nat.le_refl _) _
  have hd : a = 1 ∨ a = 2 ∨ a = 3 ∨ a = 4 ∨ a = 5 ∨ a = 6 ∨ a = 7 ∨ a = 8 ∨ a = 9 ∨ a = 10 ∨ a = 11 ∨ a = 12 ∨ a = 13 ∨ a = 14 ∨ a = 15 ∨ a = 16 ∨ a = 17 ∨ a = 18 ∨ a = 19 ∨ a = 20 ∨ a = 21 ∨ a = 22 := by omega
  clear h1 h2
  rcases hd with rfl | rfl | rfl | rfl | rfl | rfl | rfl | rfl | rfl | rfl | rfl | rfl | rfl | rfl | rfl | rfl | rfl | rfl | rfl | rfl | rfl | rfl
  all_goals
    go_enter Tryz.func10, Tryz.ntmps10
    go_wp2
    go_ret2
    exact ⟨rfl, HA.out⟩
theorem effect_any (x : Ins) (w : World) (h1 : 1 ≤ x.op) (h2 : x.op ≤ 18) (hp : x.op = 13 → 1 ≤ x.a ∧ x.a ≤ 22) (hc : x.op = 10 ∨ x.op = 11 → 0 ≤ x.a ∧ x.a ≤ 256) :
    Calls Tryz.prog 10 #[.agg #[.int .u8 x.op, .int .i64 x.a]] w fun e w' => e = .returned (effV x) ∧ Below w.heap.size w w' := by
  obtain ⟨op, a⟩ := x
  by_cases h : op = 13
  · subst h; obtain ⟨p1, p2⟩ := hp rfl; exact effect_prim a w p1 p2
  · exact effect_small op a w h1 h2 h hc
end Go.Proofs.YtnblieohdngmiabGreatDoor
