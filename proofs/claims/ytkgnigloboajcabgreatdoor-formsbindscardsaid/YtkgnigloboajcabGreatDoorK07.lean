/- The reader's dotted, whatever comes.; The reader's list.; The reader's quoted. -/
import Derived.Test.YtkgnigloboajcabGreatDoorK06
/- The reader's dotted, whatever comes. -/
namespace Go.Proofs.YtkgnigloboajcabGreatDoor
open Go.RowKit

def md (f : Fo) : Nat := if f.len = 0 then 1 else 2

end Go.Proofs.YtkgnigloboajcabGreatDoor

/- The reader's list. -/
namespace Go.Proofs.YtkgnigloboajcabGreatDoor
open Go.RowKit

theorem Res.behind_nil (x : Res) : x.behind .nil = x := by cases x <;> rfl
theorem Res.behind_behind (f g : Fo) (x : Res) : (x.behind g).behind f = x.behind (f.app g) := by cases x <;> simp [Res.behind, Fo.app_assoc]
/-- How many tokens are left, by the reader's own count. -/
def leftAt (rb T : Nat) (w : World) : Nat := match w.cell? ⟨rb, 1, none⟩ with | some (.int _ i) => T - i.toNat | _ => 0
end Go.Proofs.YtkgnigloboajcabGreatDoor

/- The reader's quoted. -/
namespace Go.Proofs.YtkgnigloboajcabGreatDoor
open Go.RowKit

end Go.Proofs.YtkgnigloboajcabGreatDoor
