/-
  DERIVED. GIVEN WITH THE SEED: THE CARDS: each row of YtejmoopgfnjaaaaDoorRows.lean that lists a variable, with what it lists TIED to the program's text (the seventh form; the later family's looks); each row that meets fmt, with fmt's text TOLD by the authors' own Lean function (tested against real Go, not proved from fmt's source: count such statements apart). THE CARD IS WHAT COUNTS. Prove the row's statement (the work); the ties are given (YtejmoopgfnjaaaaDoorTie.lean); close each card by the builder's one call (the guide's Derived/Test/ToyasCard.lean, 'card_holds'). Laid BY PROGRAM, IN A SANDBOX (cutbox-door.mjs). By AI agents, Wed Nov 11 2026. No macro, syntax, notation, axiom, sorry.
-/
import Derived.Test.YtejmoopgfnjaaaaDoorRows
import GoSem.ClaimSeven
namespace Go.Proofs.YtejmoopgfnjaaaaDoor
namespace Rows

/-- THE TIED CARD OF 'dapplelaw11.ShowOne'. -/
def showOneCard : Claim7 := { stood := { row := showOneRow, standIns := [], harness := (true, "39ecbee543b5111c5f2fc0773f203694096f86695eaacb6f6c9dc1a02d71849e"), looks := true }, kinds := [], alts := [], laidByText := true, laidKinds := [.data, .data, .data, .data, .sentinel, .sentinel], laidTests := true, laidLooks := .later }
def ShowOneCardSaid : Prop := Claim7.holds Tryd.pinned (.plain (OpenSpec.ofChange showOneSpec)) showOneCard

/-- THE TIED CARD OF 'dapplelaw11.ShowTurned'. -/
def showTurnedCard : Claim7 := { stood := { row := showTurnedRow, standIns := [], harness := (true, "39ecbee543b5111c5f2fc0773f203694096f86695eaacb6f6c9dc1a02d71849e"), looks := true }, kinds := [], alts := [], laidByText := true, laidKinds := [.data, .data, .data, .data, .sentinel, .sentinel], laidTests := true, laidLooks := .later }
def ShowTurnedCardSaid : Prop := Claim7.holds Tryd.pinned (.plain (OpenSpec.ofChange showTurnedSpec)) showTurnedCard

/-- THE TIED CARD OF 'dapplelaw11.ShowLabels'. -/
def showLabelsCard : Claim7 := { stood := { row := showLabelsRow, standIns := [], harness := (true, "39ecbee543b5111c5f2fc0773f203694096f86695eaacb6f6c9dc1a02d71849e"), looks := true }, kinds := [], alts := [], laidByText := true, laidKinds := [.data, .data, .data, .data, .sentinel, .sentinel], laidTests := true, laidLooks := .later }
def ShowLabelsCardSaid : Prop := Claim7.holds Tryd.pinned (.plain (OpenSpec.ofChange showLabelsSpec)) showLabelsCard

/-- THE SECOND FORM's CARD OF 'dapplelaw11.ShowOne'. -/
def showOneUptoCard : Claim7 := { stood := { row := showOneUptoRow, standIns := [], harness := (true, "39ecbee543b5111c5f2fc0773f203694096f86695eaacb6f6c9dc1a02d71849e"), looks := true }, kinds := [], alts := [], laidByText := true, laidKinds := [.data, .data, .data, .data, .sentinel, .sentinel], laidTests := true, laidLooks := .later }
def ShowOneUptoCardSaid : Prop := Claim7.holds Tryd.pinned (.plain (OpenSpec.upto showOneSpec)) showOneUptoCard

/-- THE SECOND FORM's CARD OF 'dapplelaw11.ShowTurned'. -/
def showTurnedUptoCard : Claim7 := { stood := { row := showTurnedUptoRow, standIns := [], harness := (true, "39ecbee543b5111c5f2fc0773f203694096f86695eaacb6f6c9dc1a02d71849e"), looks := true }, kinds := [], alts := [], laidByText := true, laidKinds := [.data, .data, .data, .data, .sentinel, .sentinel], laidTests := true, laidLooks := .later }
def ShowTurnedUptoCardSaid : Prop := Claim7.holds Tryd.pinned (.plain (OpenSpec.upto showTurnedSpec)) showTurnedUptoCard

/-- THE SECOND FORM's CARD OF 'dapplelaw11.ShowLabels'. -/
def showLabelsUptoCard : Claim7 := { stood := { row := showLabelsUptoRow, standIns := [], harness := (true, "39ecbee543b5111c5f2fc0773f203694096f86695eaacb6f6c9dc1a02d71849e"), looks := true }, kinds := [], alts := [], laidByText := true, laidKinds := [.data, .data, .data, .data, .sentinel, .sentinel], laidTests := true, laidLooks := .later }
def ShowLabelsUptoCardSaid : Prop := Claim7.holds Tryd.pinned (.plain (OpenSpec.upto showLabelsSpec)) showLabelsUptoCard
end Rows
end Go.Proofs.YtejmoopgfnjaaaaDoor
