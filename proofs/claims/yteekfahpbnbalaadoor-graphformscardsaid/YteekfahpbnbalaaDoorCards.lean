/-
  DERIVED. GIVEN WITH THE SEED: THE CARDS: each row of YteekfahpbnbalaaDoorRows.lean that lists a variable, with what it lists TIED to the program's text (the seventh form; the later family's looks); each row that meets fmt, with fmt's text TOLD by the authors' own Lean function (tested against real Go, not proved from fmt's source: count such statements apart). THE CARD IS WHAT COUNTS. Prove the row's statement (the work); the ties are given (YteekfahpbnbalaaDoorTie.lean); close each card by the builder's one call (the guide's Derived/Test/ToyasCard.lean, 'card_holds'). Laid BY PROGRAM, IN A SANDBOX (cutbox-door.mjs). By AI agents, Wed Nov 11 2026. No macro, syntax, notation, axiom, sorry.
-/
import Derived.Test.YteekfahpbnbalaaDoorRows
import GoSem.ClaimSeven
namespace Go.Proofs.YteekfahpbnbalaaDoor
namespace Rows

/-- THE TIED CARD OF 'dapplelaw10.GraphNumbers'. -/
def graphNumbersCard : Claim7 := { stood := { row := graphNumbersRow, standIns := [], harness := (true, "96e68a6a799cdca71cb67cbc9b84ebaf92813feee8b65411626019ae830662d0"), looks := false }, kinds := [], alts := [], laidByText := true, laidKinds := [.data], laidTests := true, laidLooks := .later }
def GraphNumbersCardSaid : Prop := Claim7.holds Tryd.pinned (.plain (OpenSpec.ofChange graphNumbersSpec)) graphNumbersCard

/-- THE TIED CARD OF 'dapplelaw10.GraphCloses'. -/
def graphClosesCard : Claim7 := { stood := { row := graphClosesRow, standIns := [], harness := (true, "96e68a6a799cdca71cb67cbc9b84ebaf92813feee8b65411626019ae830662d0"), looks := false }, kinds := [], alts := [], laidByText := true, laidKinds := [.data], laidTests := true, laidLooks := .later }
def GraphClosesCardSaid : Prop := Claim7.holds Tryd.pinned (.plain (OpenSpec.ofChange graphClosesSpec)) graphClosesCard

/-- THE TIED CARD OF 'dapplelaw10.GraphForms'. -/
def graphFormsCard : Claim7 := { stood := { row := graphFormsRow, standIns := [], harness := (true, "96e68a6a799cdca71cb67cbc9b84ebaf92813feee8b65411626019ae830662d0"), looks := false }, kinds := [], alts := [], laidByText := true, laidKinds := [.data], laidTests := true, laidLooks := .later }
def GraphFormsCardSaid : Prop := Claim7.holds Tryd.pinned (.plain (OpenSpec.ofChange graphFormsSpec)) graphFormsCard

/-- THE SECOND FORM's CARD OF 'dapplelaw10.GraphNumbers'. -/
def graphNumbersUptoCard : Claim7 := { stood := { row := graphNumbersUptoRow, standIns := [], harness := (true, "96e68a6a799cdca71cb67cbc9b84ebaf92813feee8b65411626019ae830662d0"), looks := false }, kinds := [], alts := [], laidByText := true, laidKinds := [.data], laidTests := true, laidLooks := .later }
def GraphNumbersUptoCardSaid : Prop := Claim7.holds Tryd.pinned (.plain (OpenSpec.upto graphNumbersSpec)) graphNumbersUptoCard

/-- THE SECOND FORM's CARD OF 'dapplelaw10.GraphCloses'. -/
def graphClosesUptoCard : Claim7 := { stood := { row := graphClosesUptoRow, standIns := [], harness := (true, "96e68a6a799cdca71cb67cbc9b84ebaf92813feee8b65411626019ae830662d0"), looks := false }, kinds := [], alts := [], laidByText := true, laidKinds := [.data], laidTests := true, laidLooks := .later }
def GraphClosesUptoCardSaid : Prop := Claim7.holds Tryd.pinned (.plain (OpenSpec.upto graphClosesSpec)) graphClosesUptoCard

/-- THE SECOND FORM's CARD OF 'dapplelaw10.GraphForms'. -/
def graphFormsUptoCard : Claim7 := { stood := { row := graphFormsUptoRow, standIns := [], harness := (true, "96e68a6a799cdca71cb67cbc9b84ebaf92813feee8b65411626019ae830662d0"), looks := false }, kinds := [], alts := [], laidByText := true, laidKinds := [.data], laidTests := true, laidLooks := .later }
def GraphFormsUptoCardSaid : Prop := Claim7.holds Tryd.pinned (.plain (OpenSpec.upto graphFormsSpec)) graphFormsUptoCard
end Rows
end Go.Proofs.YteekfahpbnbalaaDoor
