/-
  DERIVED. GIVEN WITH THE SEED: THE CARDS: each row of YtkgnigloboajcaaGreatDoorRows.lean that lists a variable, with what it lists TIED to the program's text (the seventh form; the later family's looks); each row that meets fmt, with fmt's text TOLD by the authors' own Lean function (tested against real Go, not proved from fmt's source: count such statements apart). THE CARD IS WHAT COUNTS. Prove the row's statement (the work); the ties are given (YtkgnigloboajcaaGreatDoorTie.lean); close each card by the builder's one call (the guide's Derived/Test/ToyasCard.lean, 'card_holds'). Laid BY PROGRAM, IN A SANDBOX (cutbox-door.mjs). By AI agents, Wed Nov 11 2026. No macro, syntax, notation, axiom, sorry.
-/
import Derived.Test.YtkgnigloboajcaaGreatDoorRows
import GoSem.ClaimSeven
namespace Go.Proofs.YtkgnigloboajcaaGreatDoor
namespace Rows

/-- THE TIED CARD OF 'dapplelaw07.FormsNumbers'. -/
def formsNumbersCard : Claim7 := { stood := { row := formsNumbersRow, standIns := [], harness := (true, "08cee87203eefaab47b440fa4259ff4f62e0df8607bba7694cf47667ac11ccaf"), looks := true }, kinds := [], alts := [], laidByText := true, laidKinds := [.data, .data, .data, .sentinel, .sentinel, .wider, .data], laidTests := true, laidLooks := .later }
def FormsNumbersCardSaid : Prop := Claim7.holds Tryz.pinned (.plain (OpenSpec.ofChange formsNumbersSpec)) formsNumbersCard

/-- THE TIED CARD OF 'dapplelaw07.FormsOf'. -/
def formsOfCard : Claim7 := { stood := { row := formsOfRow, standIns := [], harness := (true, "08cee87203eefaab47b440fa4259ff4f62e0df8607bba7694cf47667ac11ccaf"), looks := true }, kinds := [], alts := [], laidByText := true, laidKinds := [.data, .data, .data, .sentinel, .sentinel, .wider, .data], laidTests := true, laidLooks := .later }
def FormsOfCardSaid : Prop := Claim7.holds Tryz.pinned (.plain (OpenSpec.ofChange formsOfSpec)) formsOfCard

/-- THE TIED CARD OF 'dapplelaw07.FormsBack'. -/
def formsBackCard : Claim7 := { stood := { row := formsBackRow, standIns := [], harness := (true, "08cee87203eefaab47b440fa4259ff4f62e0df8607bba7694cf47667ac11ccaf"), looks := true }, kinds := [], alts := [], laidByText := true, laidKinds := [.data, .data, .data, .sentinel, .sentinel, .wider, .data], laidTests := true, laidLooks := .later }
def FormsBackCardSaid : Prop := Claim7.holds Tryz.pinned (.plain (OpenSpec.ofChange formsBackSpec)) formsBackCard

/-- THE TIED CARD OF 'dapplelaw07.FormsRound'. -/
def formsRoundCard : Claim7 := { stood := { row := formsRoundRow, standIns := [], harness := (true, "08cee87203eefaab47b440fa4259ff4f62e0df8607bba7694cf47667ac11ccaf"), looks := true }, kinds := [], alts := [], laidByText := true, laidKinds := [.data, .data, .data, .sentinel, .sentinel, .wider, .data], laidTests := true, laidLooks := .later }
def FormsRoundCardSaid : Prop := Claim7.holds Tryz.pinned (.plain (OpenSpec.ofChange formsRoundSpec)) formsRoundCard

/-- THE TIED CARD OF 'dapplelaw07.FormsPath'. -/
def formsPathCard : Claim7 := { stood := { row := formsPathRow, standIns := [], harness := (true, "08cee87203eefaab47b440fa4259ff4f62e0df8607bba7694cf47667ac11ccaf"), looks := true }, kinds := [], alts := [], laidByText := true, laidKinds := [.data, .data, .data, .sentinel, .sentinel, .wider, .data], laidTests := true, laidLooks := .later }
def FormsPathCardSaid : Prop := Claim7.holds Tryz.pinned (.plain (OpenSpec.ofChange formsPathSpec)) formsPathCard

/-- THE TIED CARD OF 'dapplelaw07.FormsWithin'. -/
def formsWithinCard : Claim7 := { stood := { row := formsWithinRow, standIns := [], harness := (true, "08cee87203eefaab47b440fa4259ff4f62e0df8607bba7694cf47667ac11ccaf"), looks := true }, kinds := [], alts := [], laidByText := true, laidKinds := [.data, .data, .data, .sentinel, .sentinel, .wider, .data], laidTests := true, laidLooks := .later }
def FormsWithinCardSaid : Prop := Claim7.holds Tryz.pinned (.plain (OpenSpec.ofChange formsWithinSpec)) formsWithinCard

/-- THE SECOND FORM's CARD OF 'dapplelaw07.FormsNumbers'. -/
def formsNumbersUptoCard : Claim7 := { stood := { row := formsNumbersUptoRow, standIns := [], harness := (true, "08cee87203eefaab47b440fa4259ff4f62e0df8607bba7694cf47667ac11ccaf"), looks := true }, kinds := [], alts := [], laidByText := true, laidKinds := [.data, .data, .data, .sentinel, .sentinel, .wider, .data], laidTests := true, laidLooks := .later }
def FormsNumbersUptoCardSaid : Prop := Claim7.holds Tryz.pinned (.plain (OpenSpec.upto formsNumbersSpec)) formsNumbersUptoCard

/-- THE SECOND FORM's CARD OF 'dapplelaw07.FormsOf'. -/
def formsOfUptoCard : Claim7 := { stood := { row := formsOfUptoRow, standIns := [], harness := (true, "08cee87203eefaab47b440fa4259ff4f62e0df8607bba7694cf47667ac11ccaf"), looks := true }, kinds := [], alts := [], laidByText := true, laidKinds := [.data, .data, .data, .sentinel, .sentinel, .wider, .data], laidTests := true, laidLooks := .later }
def FormsOfUptoCardSaid : Prop := Claim7.holds Tryz.pinned (.plain (OpenSpec.upto formsOfSpec)) formsOfUptoCard

/-- THE SECOND FORM's CARD OF 'dapplelaw07.FormsBack'. -/
def formsBackUptoCard : Claim7 := { stood := { row := formsBackUptoRow, standIns := [], harness := (true, "08cee87203eefaab47b440fa4259ff4f62e0df8607bba7694cf47667ac11ccaf"), looks := true }, kinds := [], alts := [], laidByText := true, laidKinds := [.data, .data, .data, .sentinel, .sentinel, .wider, .data], laidTests := true, laidLooks := .later }
def FormsBackUptoCardSaid : Prop := Claim7.holds Tryz.pinned (.plain (OpenSpec.upto formsBackSpec)) formsBackUptoCard

/-- THE SECOND FORM's CARD OF 'dapplelaw07.FormsRound'. -/
def formsRoundUptoCard : Claim7 := { stood := { row := formsRoundUptoRow, standIns := [], harness := (true, "08cee87203eefaab47b440fa4259ff4f62e0df8607bba7694cf47667ac11ccaf"), looks := true }, kinds := [], alts := [], laidByText := true, laidKinds := [.data, .data, .data, .sentinel, .sentinel, .wider, .data], laidTests := true, laidLooks := .later }
def FormsRoundUptoCardSaid : Prop := Claim7.holds Tryz.pinned (.plain (OpenSpec.upto formsRoundSpec)) formsRoundUptoCard

/-- THE SECOND FORM's CARD OF 'dapplelaw07.FormsPath'. -/
def formsPathUptoCard : Claim7 := { stood := { row := formsPathUptoRow, standIns := [], harness := (true, "08cee87203eefaab47b440fa4259ff4f62e0df8607bba7694cf47667ac11ccaf"), looks := true }, kinds := [], alts := [], laidByText := true, laidKinds := [.data, .data, .data, .sentinel, .sentinel, .wider, .data], laidTests := true, laidLooks := .later }
def FormsPathUptoCardSaid : Prop := Claim7.holds Tryz.pinned (.plain (OpenSpec.upto formsPathSpec)) formsPathUptoCard

/-- THE SECOND FORM's CARD OF 'dapplelaw07.FormsWithin'. -/
def formsWithinUptoCard : Claim7 := { stood := { row := formsWithinUptoRow, standIns := [], harness := (true, "08cee87203eefaab47b440fa4259ff4f62e0df8607bba7694cf47667ac11ccaf"), looks := true }, kinds := [], alts := [], laidByText := true, laidKinds := [.data, .data, .data, .sentinel, .sentinel, .wider, .data], laidTests := true, laidLooks := .later }
def FormsWithinUptoCardSaid : Prop := Claim7.holds Tryz.pinned (.plain (OpenSpec.upto formsWithinSpec)) formsWithinUptoCard
end Rows
end Go.Proofs.YtkgnigloboajcaaGreatDoor
