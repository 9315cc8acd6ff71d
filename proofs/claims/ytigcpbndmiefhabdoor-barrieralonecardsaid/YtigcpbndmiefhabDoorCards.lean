/-
  DERIVED. GIVEN WITH THE SEED: THE CARDS: each row of YtigcpbndmiefhabDoorRows.lean that lists a variable, with what it lists TIED to the program's text (the seventh form; the later family's looks); each row that meets fmt, with fmt's text TOLD by the authors' own Lean function (tested against real Go, not proved from fmt's source: count such statements apart). THE CARD IS WHAT COUNTS. Prove the row's statement (the work); the ties are given (YtigcpbndmiefhabDoorTie.lean); close each card by the builder's one call (the guide's Derived/Test/ToyasCard.lean, 'card_holds'). Laid BY PROGRAM, IN A SANDBOX (cutbox-door.mjs). By AI agents, Wed Nov 11 2026. No macro, syntax, notation, axiom, sorry.
-/
import Derived.Test.YtigcpbndmiefhabDoorRows
import GoSem.ClaimSeven
namespace Go.Proofs.YtigcpbndmiefhabDoor
namespace Rows

/-- THE TIED CARD OF 'dapplelaw13.BarrierDead'. -/
def barrierDeadCard : Claim7 := { stood := { row := barrierDeadRow, standIns := [], harness := (true, "510ac9ce6e612665f605fe8091343b981054964c0bfe71716cdaf895eb41d322"), looks := false }, kinds := [], alts := [], laidByText := true, laidKinds := [.data], laidTests := true, laidLooks := .later }
def BarrierDeadCardSaid : Prop := Claim7.holds Tryd.pinned (.plain (OpenSpec.ofChange barrierDeadSpec)) barrierDeadCard

/-- THE TIED CARD OF 'dapplelaw13.BarrierAlone'. -/
def barrierAloneCard : Claim7 := { stood := { row := barrierAloneRow, standIns := [], harness := (true, "510ac9ce6e612665f605fe8091343b981054964c0bfe71716cdaf895eb41d322"), looks := false }, kinds := [], alts := [], laidByText := true, laidKinds := [.data], laidTests := true, laidLooks := .later }
def BarrierAloneCardSaid : Prop := Claim7.holds Tryd.pinned (.plain (OpenSpec.ofChange barrierAloneSpec)) barrierAloneCard

/-- THE SECOND FORM's CARD OF 'dapplelaw13.BarrierDead'. -/
def barrierDeadUptoCard : Claim7 := { stood := { row := barrierDeadUptoRow, standIns := [], harness := (true, "510ac9ce6e612665f605fe8091343b981054964c0bfe71716cdaf895eb41d322"), looks := false }, kinds := [], alts := [], laidByText := true, laidKinds := [.data], laidTests := true, laidLooks := .later }
def BarrierDeadUptoCardSaid : Prop := Claim7.holds Tryd.pinned (.plain (OpenSpec.upto barrierDeadSpec)) barrierDeadUptoCard

/-- THE SECOND FORM's CARD OF 'dapplelaw13.BarrierAlone'. -/
def barrierAloneUptoCard : Claim7 := { stood := { row := barrierAloneUptoRow, standIns := [], harness := (true, "510ac9ce6e612665f605fe8091343b981054964c0bfe71716cdaf895eb41d322"), looks := false }, kinds := [], alts := [], laidByText := true, laidKinds := [.data], laidTests := true, laidLooks := .later }
def BarrierAloneUptoCardSaid : Prop := Claim7.holds Tryd.pinned (.plain (OpenSpec.upto barrierAloneSpec)) barrierAloneUptoCard
end Rows
end Go.Proofs.YtigcpbndmiefhabDoor
