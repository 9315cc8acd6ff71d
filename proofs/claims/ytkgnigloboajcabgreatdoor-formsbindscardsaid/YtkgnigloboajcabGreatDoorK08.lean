/- The reader's three, for any tokens.; The reader's data: all that a source has.; What a call is given up with: caught. -/
import Derived.Test.YtkgnigloboajcabGreatDoorK05
import Derived.Test.YtkgnigloboajcabGreatDoorK07
/- The reader's three, for any tokens. -/
namespace Go.Proofs.YtkgnigloboajcabGreatDoor
open Go.RowKit

end Go.Proofs.YtkgnigloboajcabGreatDoor

/- The reader's data: all that a source has. -/
namespace Go.Proofs.YtkgnigloboajcabGreatDoor
open Go.RowKit

/-- What reading all ends in. -/
def PostS (rb : Nat) (w : World) : Res → Ending → World → Prop
  | .ok f _ _ _, e, w' => ButB w.heap.size rb w w' ∧ ∃ v, e = .returned v ∧ Tree w' w.heap.size v f
  | .bad er p, e, w' => ButB w.heap.size rb w w' ∧ e = .panicked (fault er p)

end Go.Proofs.YtkgnigloboajcabGreatDoor

/- What a call is given up with: caught. -/
namespace Go.Proofs.YtkgnigloboajcabGreatDoor
open Go.RowKit

theorem assert_fault (e p : Int) (W : World) : (Instr.typeAssert (.iface 94 (.agg #[.int .i64 e, .int .i64 p])) 20 94 true).run Tryz.prog W = .ok (.tuple #[.agg #[.int .i64 e, .int .i64 p], .bool true]) W := by kernel_rfl
theorem assert_nil (W : World) : (Instr.typeAssert .nilIface 20 94 true).run Tryz.prog W = .ok (.tuple #[.agg #[.int .i64 0, .int .i64 0], .bool false]) W := by kernel_rfl

set_option maxRecDepth 100000 in
set_option maxHeartbeats 1000000 in
theorem caught_fault (e p : Int) (w : World) : Calls Tryz.prog 53 #[.iface 94 (.agg #[.int .i64 e, .int .i64 p])] w fun r w' => r = .returned (.tuple #[.agg #[.int .i64 e, .int .i64 p], .bool true]) ∧ Below w.heap.size w w' := by
  have h1 := assert_fault e p
  go_enter Tryz.func53, Tryz.ntmps53
  go_wp2
  refine bodyPost_ret (v := .tuple #[.agg #[.int .i64 e, .int .i64 p], .bool true]) (by simp [results, Tryz.results53, go_sem]) rfl ⟨rfl, ?_⟩
  exact ((Below.refl _ _).alloc (Nat.le_refl _) _).alloc (by simp) _

set_option maxRecDepth 100000 in
set_option maxHeartbeats 1000000 in
theorem caught_nil (w : World) : Calls Tryz.prog 53 #[.nilIface] w fun r w' => r = .returned (.tuple #[.agg #[.int .i64 0, .int .i64 0], .bool false]) ∧ Below w.heap.size w w' := by
  have h1 := assert_nil
  have h2 : ∀ W : World, (binOp .neq 20 .nilIface .nilIface).run Tryz.prog W = .ok (.bool false) W := fun W => by kernel_rfl
  go_enter Tryz.func53, Tryz.ntmps53
  go_wp2
  refine bodyPost_ret (v := .tuple #[.agg #[.int .i64 0, .int .i64 0], .bool false]) (by simp [results, Tryz.results53, go_sem]) rfl ⟨rfl, ?_⟩
  exact ((Below.refl _ _).alloc (Nat.le_refl _) _).alloc (by simp) _
end Go.Proofs.YtkgnigloboajcabGreatDoor
