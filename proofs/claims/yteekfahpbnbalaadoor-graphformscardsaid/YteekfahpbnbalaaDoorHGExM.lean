/- The example, reckoned. -/
import Derived.Test.YteekfahpbnbalaaDoorHGEx
namespace Go.Proofs.YteekfahpbnbalaaDoor
open Go.RowKit

theorem ex_walk : walkM exH false [8] = [(0, -1), (2, 0), (3, 2)] := by kernel_rfl
theorem ex_walkT : walkM exH true [8] = [(0, -1), (2, 0), (3, 2)] := by kernel_rfl
theorem ex_heap : heapB exH [8] = true := by kernel_rfl
theorem ex_bad : chkV 2 (exH.take 2) 0 = .tuple #[.int .i64 100, .int .i64 0] := by kernel_rfl
theorem ex_form : clCells (formH exH [(0, -1), (2, 0), (3, 2)]) = clCells [⟨1, 0, 24, 1⟩, ⟨1, 0, 8, 40⟩, ⟨1, 0, 21, 1⟩] := by kernel_rfl
theorem ex_root : movedM ([(0, -1), (2, 0), (3, 2)].map (fun p : Nat × Int => p.1)) 8 = 8 := by kernel_rfl
theorem ex_chain : chain [(0, -1), (2, 0), (3, 2)] 4 3 = [3, 2, 0] := by kernel_rfl
theorem ex_not : aheadM [(0, -1), (2, 0), (3, 2)] 1 = -2 := by kernel_rfl
theorem ex_is : aheadM [(0, -1), (2, 0), (3, 2)] 3 = 2 := by kernel_rfl
theorem ex_met : (List.range 4).map (metB [(0, -1), (2, 0), (3, 2)]) = [true, false, true, true] := by kernel_rfl
end Go.Proofs.YteekfahpbnbalaaDoor
