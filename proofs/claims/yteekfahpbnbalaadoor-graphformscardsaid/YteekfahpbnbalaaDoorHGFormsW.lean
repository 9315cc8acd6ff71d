/- GraphForms, whatever it is given. -/
import Derived.Test.YteekfahpbnbalaaDoorHGForms1
import Derived.Test.YteekfahpbnbalaaDoorHGForms2
namespace Go.Proofs.YteekfahpbnbalaaDoor
open Go.RowKit

theorem graphForms_walk (h : List Cl) (l od : List Int) (at' : Int) (ra rb rc : Option Addr) (ca cb cc : Nat) (w : World) (hH : HR w ra h) (hR : WR w rb l) (hO : RX (Value.int .i64) w rc od) (hT : Tab w) (hod : ∀ x ∈ od, -9223372036854775808 ≤ x ∧ x ≤ 9223372036854775807) (hat : -9223372036854775808 ≤ at' ∧ at' ≤ 9223372036854775807) :
    Calls Tryd.prog 5 #[.agg #[.slice ra h.length ca, .slice rb l.length cb, .slice rc od.length cc, .int .i64 at']] w fun e w' => e = .returned (.bool true) ∧ Below w.heap.size w w' := by
  by_cases hbig : 2000 < h.length ∨ 1000 < l.length ∨ 4000 < od.length
  · exact graphForms_big h l od at' ra rb rc ca cb cc w hH hR hO hT hod hbig
  · cases hok : heapB h l
    · exact graphForms_bad h l od at' ra rb rc ca cb cc w hH hR hO hT hod (by omega) (by omega) (by omega) hok
    · exact graphForms_good h l od at' ra rb rc ca cb cc w hH hR hO hT hod hat (by omega) (by omega) (by omega) hok
end Go.Proofs.YteekfahpbnbalaaDoor
