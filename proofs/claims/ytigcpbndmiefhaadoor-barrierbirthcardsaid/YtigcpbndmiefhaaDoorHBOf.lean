/- What comes in gives a walk: numbers. -/
import Derived.Test.YtigcpbndmiefhaaDoorHLaw
import Derived.ChangeArms
import Derived.SizedLaws
namespace Go.Proofs.YtigcpbndmiefhaaDoor
open Go.ChangeShapes Go.WideShapes Go.ChangeAt Go.RowKit

set_option maxRecDepth 100000 in
theorem u8_in {W : World} {base : Nat} {v : Value} (hv : Value.okWide Tryd.prog W .any base 5 v) : ∃ n : Int, v = .int .u8 n := okWide_int Tryd.underlying5 hv
set_option maxRecDepth 100000 in
theorem i64_in {W : World} {base : Nat} {v : Value} (hv : Value.okWide Tryd.prog W .any base 3 v) : ∃ n : Int, v = .int .i64 n := okWide_int Tryd.underlying3 hv
end Go.Proofs.YtigcpbndmiefhaaDoor
