/- The walk of ReadNumbers. -/
import Derived.Test.YtinpjpcokjfinaaDoorGN
namespace Go.Proofs.YtinpjpcokjfinaaDoor
open Go.RowKit

set_option maxHeartbeats 1000000 in
theorem readNumbers_walk (w : World) (hE : EV w) (hT : TB w) : Calls Tryd.prog 3 #[] w fun e w' => e = .returned (.bool true) ∧ Below w.heap.size w w' := by
  go_enter Tryd.func3, Tryd.ntmps3
  go_wp2_with fail
  refine (works_any _ hE hT).mono ?_
  rintro e w1 ⟨rfl, hb1⟩
  go_wp2
  go_ret
  exact ⟨rfl, hb1⟩
end Go.Proofs.YtinpjpcokjfinaaDoor
