/- A field of a datum that is a value. -/
import Derived.Test.YtlpdfifjdlfpdaaGreatDoorHDocQuote
namespace Go.Proofs.YtlpdfifjdlfpdaaGreatDoor
open Go.RowKit

theorem field_n (k n : Int) (t s d : Value) (w : World) : (Instr.field 58 (.agg #[.int .u8 k, .int .i64 n, t, s, d]) 1).run Tryz.prog w = .ok (.int .i64 n) w := by
  have u1 := Tryz.underlying58
  unfold Instr.field
  go_simp
  simp [asAgg, Sem.run_pure]
end Go.Proofs.YtlpdfifjdlfpdaaGreatDoor
