/-
  DERIVED. GIVEN WITH THE SEED: THE CARDS: each row of YtinijcmnojlphaaDoorRows.lean that lists a variable, with what it lists TIED to the program's text (the seventh form; the later family's looks); each row that meets fmt, with fmt's text TOLD by the authors' own Lean function (tested against real Go, not proved from fmt's source: count such statements apart). THE CARD IS WHAT COUNTS. Prove the row's statement (the work); the ties are given (YtinijcmnojlphaaDoorTie.lean); close each card by the builder's one call (the guide's Derived/Test/ToyasCard.lean, 'card_holds'). Laid BY PROGRAM, IN A SANDBOX (cutbox-door.mjs). By AI agents, Wed Nov 11 2026. No macro, syntax, notation, axiom, sorry.
-/
import Derived.Test.YtinijcmnojlphaaDoorRows
import GoSem.ClaimSeven
namespace Go.Proofs.YtinijcmnojlphaaDoor
namespace Rows

/-- THE TIED CARD OF 'dapplelaw11.ShowNumbers'. -/
def showNumbersCard : Claim7 := { stood := { row := showNumbersRow, standIns := [], harness := (true, "f10c654845a85fcfdf781cbb7a4b617c758f394d6690616b1616b587b03b3b79"), looks := true }, kinds := [], alts := [], laidByText := true, laidKinds := [.data, .data, .data, .data, .sentinel, .sentinel], laidTests := true, laidLooks := .later }
def ShowNumbersCardSaid : Prop := Claim7.holds Tryd.pinned (.plain (OpenSpec.ofChange showNumbersSpec)) showNumbersCard

/-- THE SECOND FORM's CARD OF 'dapplelaw11.ShowNumbers'. -/
def showNumbersUptoCard : Claim7 := { stood := { row := showNumbersUptoRow, standIns := [], harness := (true, "f10c654845a85fcfdf781cbb7a4b617c758f394d6690616b1616b587b03b3b79"), looks := true }, kinds := [], alts := [], laidByText := true, laidKinds := [.data, .data, .data, .data, .sentinel, .sentinel], laidTests := true, laidLooks := .later }
def ShowNumbersUptoCardSaid : Prop := Claim7.holds Tryd.pinned (.plain (OpenSpec.upto showNumbersSpec)) showNumbersUptoCard
end Rows
end Go.Proofs.YtinijcmnojlphaaDoor
