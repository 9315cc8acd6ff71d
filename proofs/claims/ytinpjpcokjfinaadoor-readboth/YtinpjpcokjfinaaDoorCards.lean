/-
  DERIVED. GIVEN WITH THE SEED: THE CARDS: each row of YtinpjpcokjfinaaDoorRows.lean that lists a variable, with what it lists TIED to the program's text (the seventh form; the later family's looks); each row that meets fmt, with fmt's text TOLD by the authors' own Lean function (tested against real Go, not proved from fmt's source: count such statements apart). THE CARD IS WHAT COUNTS. Prove the row's statement (the work); the ties are given (YtinpjpcokjfinaaDoorTie.lean); close each card by the builder's one call (the guide's Derived/Test/ToyasCard.lean, 'card_holds'). Laid BY PROGRAM, IN A SANDBOX (cutbox-door.mjs). By AI agents, Wed Nov 11 2026. No macro, syntax, notation, axiom, sorry.
-/
import Derived.Test.YtinpjpcokjfinaaDoorRows
import GoSem.ClaimSeven
namespace Go.Proofs.YtinpjpcokjfinaaDoor
namespace Rows

/-- THE TIED CARD OF 'dapplelaw06.ReadNumbers'. -/
def readNumbersCard : Claim7 := { stood := { row := readNumbersRow, standIns := [], harness := (true, "7bd184ec29ea7781a57167b6ee5413f1c9030d94dd68ae64881cddf44f656a6b"), looks := true }, kinds := [], alts := [], laidByText := true, laidKinds := [.data, .data, .data, .sentinel, .sentinel], laidTests := true, laidLooks := .later }
def ReadNumbersCardSaid : Prop := Claim7.holds Tryd.pinned (.plain (OpenSpec.ofChange readNumbersSpec)) readNumbersCard

/-- THE TIED CARD OF 'dapplelaw06.ReadBack'. -/
def readBackCard : Claim7 := { stood := { row := readBackRow, standIns := [], harness := (true, "7bd184ec29ea7781a57167b6ee5413f1c9030d94dd68ae64881cddf44f656a6b"), looks := true }, kinds := [], alts := [], laidByText := true, laidKinds := [.data, .data, .data, .sentinel, .sentinel], laidTests := true, laidLooks := .later }
def ReadBackCardSaid : Prop := Claim7.holds Tryd.pinned (.plain (OpenSpec.ofChange readBackSpec)) readBackCard

/-- THE TIED CARD OF 'dapplelaw06.ReadBoth'. -/
def readBothCard : Claim7 := { stood := { row := readBothRow, standIns := [], harness := (true, "7bd184ec29ea7781a57167b6ee5413f1c9030d94dd68ae64881cddf44f656a6b"), looks := true }, kinds := [], alts := [], laidByText := true, laidKinds := [.data, .data, .data, .sentinel, .sentinel], laidTests := true, laidLooks := .later }
def ReadBothCardSaid : Prop := Claim7.holds Tryd.pinned (.plain (OpenSpec.ofChange readBothSpec)) readBothCard

/-- THE TIED CARD OF 'dapplelaw06.ReadTails'. -/
def readTailsCard : Claim7 := { stood := { row := readTailsRow, standIns := [], harness := (true, "7bd184ec29ea7781a57167b6ee5413f1c9030d94dd68ae64881cddf44f656a6b"), looks := true }, kinds := [], alts := [], laidByText := true, laidKinds := [.data, .data, .data, .sentinel, .sentinel], laidTests := true, laidLooks := .later }
def ReadTailsCardSaid : Prop := Claim7.holds Tryd.pinned (.plain (OpenSpec.ofChange readTailsSpec)) readTailsCard

/-- THE SECOND FORM's CARD OF 'dapplelaw06.ReadNumbers'. -/
def readNumbersUptoCard : Claim7 := { stood := { row := readNumbersUptoRow, standIns := [], harness := (true, "7bd184ec29ea7781a57167b6ee5413f1c9030d94dd68ae64881cddf44f656a6b"), looks := true }, kinds := [], alts := [], laidByText := true, laidKinds := [.data, .data, .data, .sentinel, .sentinel], laidTests := true, laidLooks := .later }
def ReadNumbersUptoCardSaid : Prop := Claim7.holds Tryd.pinned (.plain (OpenSpec.upto readNumbersSpec)) readNumbersUptoCard

/-- THE SECOND FORM's CARD OF 'dapplelaw06.ReadBack'. -/
def readBackUptoCard : Claim7 := { stood := { row := readBackUptoRow, standIns := [], harness := (true, "7bd184ec29ea7781a57167b6ee5413f1c9030d94dd68ae64881cddf44f656a6b"), looks := true }, kinds := [], alts := [], laidByText := true, laidKinds := [.data, .data, .data, .sentinel, .sentinel], laidTests := true, laidLooks := .later }
def ReadBackUptoCardSaid : Prop := Claim7.holds Tryd.pinned (.plain (OpenSpec.upto readBackSpec)) readBackUptoCard

/-- THE SECOND FORM's CARD OF 'dapplelaw06.ReadBoth'. -/
def readBothUptoCard : Claim7 := { stood := { row := readBothUptoRow, standIns := [], harness := (true, "7bd184ec29ea7781a57167b6ee5413f1c9030d94dd68ae64881cddf44f656a6b"), looks := true }, kinds := [], alts := [], laidByText := true, laidKinds := [.data, .data, .data, .sentinel, .sentinel], laidTests := true, laidLooks := .later }
def ReadBothUptoCardSaid : Prop := Claim7.holds Tryd.pinned (.plain (OpenSpec.upto readBothSpec)) readBothUptoCard

/-- THE SECOND FORM's CARD OF 'dapplelaw06.ReadTails'. -/
def readTailsUptoCard : Claim7 := { stood := { row := readTailsUptoRow, standIns := [], harness := (true, "7bd184ec29ea7781a57167b6ee5413f1c9030d94dd68ae64881cddf44f656a6b"), looks := true }, kinds := [], alts := [], laidByText := true, laidKinds := [.data, .data, .data, .sentinel, .sentinel], laidTests := true, laidLooks := .later }
def ReadTailsUptoCardSaid : Prop := Claim7.holds Tryd.pinned (.plain (OpenSpec.upto readTailsSpec)) readTailsUptoCard
end Rows
end Go.Proofs.YtinpjpcokjfinaaDoor
