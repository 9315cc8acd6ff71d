/- How many forms. -/
import Derived.Test.YtkgnigloboajcabGreatDoorK41
namespace Go.Proofs.YtkgnigloboajcabGreatDoor

def Fm.sz : Fm → Nat
  | .nil => 0
  | .cons _ _ _ ks _ _ _ _ _ r => ks.sz + r.sz + 1
end Go.Proofs.YtkgnigloboajcabGreatDoor
