/- The reader's dotted, whatever comes.; The reader's list.; The reader's quoted. -/
import Derived.Test.YtkgnigloboajcaaGreatDoorK06
/- The reader's dotted, whatever comes. -/
namespace Go.Proofs.YtkgnigloboajcaaGreatDoor
open Go.RowKit

end Go.Proofs.YtkgnigloboajcaaGreatDoor

/- The reader's list. -/
namespace Go.Proofs.YtkgnigloboajcaaGreatDoor
open Go.RowKit

end Go.Proofs.YtkgnigloboajcaaGreatDoor

/- The reader's quoted. -/
namespace Go.Proofs.YtkgnigloboajcaaGreatDoor
open Go.RowKit

end Go.Proofs.YtkgnigloboajcaaGreatDoor
