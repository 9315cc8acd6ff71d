/- The contract of Tokens: the tokens in a list of its own, or the first error and its place.; Tokens, as a plain contract.; Rows of tokens in memory: read token by token. -/
import Derived.Test.YtkgnigloboajcaaGreatDoorK01
import Derived.Maps.AppendAt
/- The contract of Tokens: the tokens in a list of its own, or the first error and its place. -/
namespace Go.Proofs.YtkgnigloboajcaaGreatDoor
open Go.RowKit Go.Shelf

attribute [local go_sem] Oper.semAt_some

end Go.Proofs.YtkgnigloboajcaaGreatDoor

/- Tokens, as a plain contract. -/
namespace Go.Proofs.YtkgnigloboajcaaGreatDoor
open Go.RowKit

end Go.Proofs.YtkgnigloboajcaaGreatDoor

/- Rows of tokens in memory: read token by token. -/
namespace Go.Proofs.YtkgnigloboajcaaGreatDoor
open Go.RowKit

end Go.Proofs.YtkgnigloboajcaaGreatDoor
