/- The reader's dotted, whatever comes.; The reader's list.; The reader's quoted. -/
import Derived.Test.YtkgnigloboajcaaGreatDoorK06
namespace Go.Proofs.YtkgnigloboajcaaGreatDoor
open Go.RowKit
end Go.Proofs.YtkgnigloboajcaaGreatDoor
