/- The reader's three, for any tokens.; The reader's data: all that a source has.; What a call is given up with: caught. -/
import Derived.Test.YtkgnigloboajcaaGreatDoorK05
import Derived.Test.YtkgnigloboajcaaGreatDoorK07
set_option maxRecDepth 100000
set_option maxHeartbeats 1000000
namespace Go.Proofs.YtkgnigloboajcaaGreatDoor
open Go.RowKit
theorem assert_fault (e p:Int) (W:World):(Instr.typeAssert (.iface 141 (.agg #[.int .i64 e, .int .i64 p])) 20 141 true).run Tryz.prog W = .ok (.tuple #[.agg #[.int .i64 e, .int .i64 p], .bool true]) W:=by kernel_rfl
theorem assert_nil (W:World):(Instr.typeAssert .nilIface 20 141 true).run Tryz.prog W = .ok (.tuple #[.agg #[.int .i64 0, .int .i64 0], .bool false]) W:=by kernel_rfl
theorem caught_fault (e p:Int) (w:World):Calls Tryz.prog 92 #[.iface 141 (.agg #[.int .i64 e, .int .i64 p])] w fun r w' => r = .returned (.tuple #[.agg #[.int .i64 e, .int .i64 p], .bool true])∧Below w.heap.size w w' := by
 have h1:=assert_fault e p
 go_enter Tryz.func92,Tryz.ntmps92
 go_wp2
 refine bodyPost_ret (v := .tuple #[.agg #[.int .i64 e, .int .i64 p], .bool true]) (by simp [results,Tryz.results92,go_sem]) rfl ⟨rfl,?_⟩
 exact ((Below.refl _ _).alloc (Nat.le_refl _) _).alloc (by simp) _
theorem caught_nil (w:World):Calls Tryz.prog 92 #[.nilIface] w fun r w' => r = .returned (.tuple #[.agg #[.int .i64 0, .int .i64 0], .bool false])∧Below w.heap.size w w' := by
 have h1:=assert_nil
 have h2:∀W:World,(binOp .neq 20 .nilIface .nilIface).run Tryz.prog W = .ok (.bool false) W:=fun W=>by kernel_rfl
 go_enter Tryz.func92,Tryz.ntmps92
 go_wp2
 refine bodyPost_ret (v := .tuple #[.agg #[.int .i64 0, .int .i64 0], .bool false]) (by simp [results,Tryz.results92,go_sem]) rfl ⟨rfl,?_⟩
 exact ((Below.refl _ _).alloc (Nat.le_refl _) _).alloc (by simp) _
end Go.Proofs.YtkgnigloboajcaaGreatDoor
