/-
  DERIVED. GIVEN WITH THE SEED: THE CARDS: each row of YtomdbcddokaagaaDoorRows.lean that lists a variable, with what it lists TIED to the program's text (the seventh form; the later family's looks); each row that meets fmt, with fmt's text TOLD by the authors' own Lean function (tested against real Go, not proved from fmt's source: count such statements apart). THE CARD IS WHAT COUNTS. Prove the row's statement (the work); the ties are given (YtomdbcddokaagaaDoorTie.lean); close each card by the builder's one call (the guide's Derived/Test/ToyasCard.lean, 'card_holds'). Laid BY PROGRAM, IN A SANDBOX (cutbox-door.mjs). By AI agents, Wed Nov 11 2026. No macro, syntax, notation, axiom, sorry.
-/
import Derived.Test.YtomdbcddokaagaaDoorRows
import GoSem.ClaimSeven
namespace Go.Proofs.YtomdbcddokaagaaDoor
namespace Rows

/-- THE TIED CARD OF 'dapplelaw13.BarrierViews'. -/
def barrierViewsCard : Claim7 := { stood := { row := barrierViewsRow, standIns := [], harness := (true, "a036a12258a9bef29d4dafb9d04a65adb374f131d5bce3ee0e908dcb7bc314b5"), looks := false }, kinds := [], alts := [], laidByText := true, laidKinds := [.data], laidTests := true, laidLooks := .later }
def BarrierViewsCardSaid : Prop := Claim7.holds Tryd.pinned (.plain (OpenSpec.ofChange barrierViewsSpec)) barrierViewsCard

/-- THE TIED CARD OF 'dapplelaw13.BarrierKeeps'. -/
def barrierKeepsCard : Claim7 := { stood := { row := barrierKeepsRow, standIns := [], harness := (true, "a036a12258a9bef29d4dafb9d04a65adb374f131d5bce3ee0e908dcb7bc314b5"), looks := false }, kinds := [], alts := [], laidByText := true, laidKinds := [.data], laidTests := true, laidLooks := .later }
def BarrierKeepsCardSaid : Prop := Claim7.holds Tryd.pinned (.plain (OpenSpec.ofChange barrierKeepsSpec)) barrierKeepsCard

/-- THE TIED CARD OF 'dapplelaw13.BarrierDead'. -/
def barrierDeadCard : Claim7 := { stood := { row := barrierDeadRow, standIns := [], harness := (true, "a036a12258a9bef29d4dafb9d04a65adb374f131d5bce3ee0e908dcb7bc314b5"), looks := false }, kinds := [], alts := [], laidByText := true, laidKinds := [.data], laidTests := true, laidLooks := .later }
def BarrierDeadCardSaid : Prop := Claim7.holds Tryd.pinned (.plain (OpenSpec.ofChange barrierDeadSpec)) barrierDeadCard

/-- THE SECOND FORM's CARD OF 'dapplelaw13.BarrierViews'. -/
def barrierViewsUptoCard : Claim7 := { stood := { row := barrierViewsUptoRow, standIns := [], harness := (true, "a036a12258a9bef29d4dafb9d04a65adb374f131d5bce3ee0e908dcb7bc314b5"), looks := false }, kinds := [], alts := [], laidByText := true, laidKinds := [.data], laidTests := true, laidLooks := .later }
def BarrierViewsUptoCardSaid : Prop := Claim7.holds Tryd.pinned (.plain (OpenSpec.upto barrierViewsSpec)) barrierViewsUptoCard

/-- THE SECOND FORM's CARD OF 'dapplelaw13.BarrierKeeps'. -/
def barrierKeepsUptoCard : Claim7 := { stood := { row := barrierKeepsUptoRow, standIns := [], harness := (true, "a036a12258a9bef29d4dafb9d04a65adb374f131d5bce3ee0e908dcb7bc314b5"), looks := false }, kinds := [], alts := [], laidByText := true, laidKinds := [.data], laidTests := true, laidLooks := .later }
def BarrierKeepsUptoCardSaid : Prop := Claim7.holds Tryd.pinned (.plain (OpenSpec.upto barrierKeepsSpec)) barrierKeepsUptoCard

/-- THE SECOND FORM's CARD OF 'dapplelaw13.BarrierDead'. -/
def barrierDeadUptoCard : Claim7 := { stood := { row := barrierDeadUptoRow, standIns := [], harness := (true, "a036a12258a9bef29d4dafb9d04a65adb374f131d5bce3ee0e908dcb7bc314b5"), looks := false }, kinds := [], alts := [], laidByText := true, laidKinds := [.data], laidTests := true, laidLooks := .later }
def BarrierDeadUptoCardSaid : Prop := Claim7.holds Tryd.pinned (.plain (OpenSpec.upto barrierDeadSpec)) barrierDeadUptoCard
end Rows
end Go.Proofs.YtomdbcddokaagaaDoor
