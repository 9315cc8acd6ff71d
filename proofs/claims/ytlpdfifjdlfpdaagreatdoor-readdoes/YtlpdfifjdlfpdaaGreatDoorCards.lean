/-
  DERIVED. GIVEN WITH THE SEED: THE CARDS: each row of YtlpdfifjdlfpdaaGreatDoorRows.lean that lists a variable, with what it lists TIED to the program's text (the seventh form; the later family's looks); each row that meets fmt, with fmt's text TOLD by the authors' own Lean function (tested against real Go, not proved from fmt's source: count such statements apart). THE CARD IS WHAT COUNTS. Prove the row's statement (the work); the ties are given (YtlpdfifjdlfpdaaGreatDoorTie.lean); close each card by the builder's one call (the guide's Derived/Test/ToyasCard.lean, 'card_holds'). Laid BY PROGRAM, IN A SANDBOX (cutbox-door.mjs). By AI agents, Wed Nov 11 2026. No macro, syntax, notation, axiom, sorry.
-/
import Derived.Test.YtlpdfifjdlfpdaaGreatDoorRows
import GoSem.ClaimSeven
namespace Go.Proofs.YtlpdfifjdlfpdaaGreatDoor
namespace Rows

/-- THE TIED CARD OF 'dapplelaw06.ReadDoes'. -/
def readDoesCard : Claim7 := { stood := { row := readDoesRow, standIns := [], harness := (true, "42d56af7ef44310e17cb1a7e571bf87eb11dcdadd4e627d9471980e29417f365"), looks := true }, kinds := [], alts := [], laidByText := true, laidKinds := [.data, .data, .data, .sentinel, .sentinel], laidTests := true, laidLooks := .later }
def ReadDoesCardSaid : Prop := Claim7.holds Tryz.pinned (.plain (OpenSpec.ofChange readDoesSpec)) readDoesCard

/-- THE TIED CARD OF 'dapplelaw06.ReadWrites'. -/
def readWritesCard : Claim7 := { stood := { row := readWritesRow, standIns := [], harness := (true, "42d56af7ef44310e17cb1a7e571bf87eb11dcdadd4e627d9471980e29417f365"), looks := true }, kinds := [], alts := [], laidByText := true, laidKinds := [.data, .data, .data, .sentinel, .sentinel], laidTests := true, laidLooks := .later }
def ReadWritesCardSaid : Prop := Claim7.holds Tryz.pinned (.plain (OpenSpec.ofChange readWritesSpec)) readWritesCard

/-- THE SECOND FORM's CARD OF 'dapplelaw06.ReadDoes'. -/
def readDoesUptoCard : Claim7 := { stood := { row := readDoesUptoRow, standIns := [], harness := (true, "42d56af7ef44310e17cb1a7e571bf87eb11dcdadd4e627d9471980e29417f365"), looks := true }, kinds := [], alts := [], laidByText := true, laidKinds := [.data, .data, .data, .sentinel, .sentinel], laidTests := true, laidLooks := .later }
def ReadDoesUptoCardSaid : Prop := Claim7.holds Tryz.pinned (.plain (OpenSpec.upto readDoesSpec)) readDoesUptoCard

/-- THE SECOND FORM's CARD OF 'dapplelaw06.ReadWrites'. -/
def readWritesUptoCard : Claim7 := { stood := { row := readWritesUptoRow, standIns := [], harness := (true, "42d56af7ef44310e17cb1a7e571bf87eb11dcdadd4e627d9471980e29417f365"), looks := true }, kinds := [], alts := [], laidByText := true, laidKinds := [.data, .data, .data, .sentinel, .sentinel], laidTests := true, laidLooks := .later }
def ReadWritesUptoCardSaid : Prop := Claim7.holds Tryz.pinned (.plain (OpenSpec.upto readWritesSpec)) readWritesUptoCard
end Rows
end Go.Proofs.YtlpdfifjdlfpdaaGreatDoor
