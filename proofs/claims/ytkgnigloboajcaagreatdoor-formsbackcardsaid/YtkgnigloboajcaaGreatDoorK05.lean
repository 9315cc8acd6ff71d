/- The reader's symbol and list.; The reader's datum: what is no list, and what can't stand there.; The reader's datum, whatever it is. -/
import Derived.Test.YtkgnigloboajcaaGreatDoorK04
set_option maxHeartbeats 1000000
namespace Go.Proofs.YtkgnigloboajcaaGreatDoor
open Go.RowKit
theorem symbol_any (text:ByteArray) (w:World):Calls Tryz.prog 179 #[.string text] w fun e w' => e = .returned (.agg #[.int .u8 2, .int .i64 0, .string text, .slice none 0 0, .bool false])∧Below w.heap.size w w' := by
 go_enter Tryz.func179,Tryz.ntmps179
 go_wp2
 refine bodyPost_ret (v := .agg #[.int .u8 2, .int .i64 0, .string text, .slice none 0 0, .bool false]) (by simp [results,Tryz.results179,go_sem]) rfl ⟨rfl,?_⟩
 exact (Below.refl _ _).alloc (Nat.le_refl _) _
end Go.Proofs.YtkgnigloboajcaaGreatDoor
