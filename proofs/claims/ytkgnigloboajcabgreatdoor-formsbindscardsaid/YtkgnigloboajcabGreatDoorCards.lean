/-
  DERIVED. GIVEN WITH THE SEED: THE CARDS: each row of YtkgnigloboajcabGreatDoorRows.lean that lists a variable, with what it lists TIED to the program's text (the seventh form; the later family's looks); each row that meets fmt, with fmt's text TOLD by the authors' own Lean function (tested against real Go, not proved from fmt's source: count such statements apart). THE CARD IS WHAT COUNTS. Prove the row's statement (the work); the ties are given (YtkgnigloboajcabGreatDoorTie.lean); close each card by the builder's one call (the guide's Derived/Test/ToyasCard.lean, 'card_holds'). Laid BY PROGRAM, IN A SANDBOX (cutbox-door.mjs). By AI agents, Wed Nov 11 2026. No macro, syntax, notation, axiom, sorry.
-/
import Derived.Test.YtkgnigloboajcabGreatDoorRows
import GoSem.ClaimSeven
namespace Go.Proofs.YtkgnigloboajcabGreatDoor
namespace Rows

/-- THE TIED CARD OF 'dapplelaw07.FormsBinds'. -/
def formsBindsCard : Claim7 := { stood := { row := formsBindsRow, standIns := [], harness := (true, "9361867c6124c43402e00de9d9bbbb0ad3bfabfc93ef314b1861fced92713cfc"), looks := true }, kinds := [], alts := [], laidByText := true, laidKinds := [.data, .data, .data, .sentinel, .sentinel, .wider, .data], laidTests := true, laidLooks := .later }
def FormsBindsCardSaid : Prop := Claim7.holds Tryz.pinned (.plain (OpenSpec.ofChange formsBindsSpec)) formsBindsCard

/-- THE SECOND FORM's CARD OF 'dapplelaw07.FormsBinds'. -/
def formsBindsUptoCard : Claim7 := { stood := { row := formsBindsUptoRow, standIns := [], harness := (true, "9361867c6124c43402e00de9d9bbbb0ad3bfabfc93ef314b1861fced92713cfc"), looks := true }, kinds := [], alts := [], laidByText := true, laidKinds := [.data, .data, .data, .sentinel, .sentinel, .wider, .data], laidTests := true, laidLooks := .later }
def FormsBindsUptoCardSaid : Prop := Claim7.holds Tryz.pinned (.plain (OpenSpec.upto formsBindsSpec)) formsBindsUptoCard
end Rows
end Go.Proofs.YtkgnigloboajcabGreatDoor
