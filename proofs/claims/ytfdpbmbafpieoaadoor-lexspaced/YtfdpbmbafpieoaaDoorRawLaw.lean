/- What a list of numbers that comes in gives a walk: its elements, each in its cell. -/
import Derived.Test.YtfdpbmbafpieoaaDoorLaw
namespace Go.Proofs.YtfdpbmbafpieoaaDoor
open Go.ChangeShapes Go.WideShapes Go.ChangeAt Go.RowKit
open Go.WideMaps Go.WideElems

theorem cells3 : Tryd.prog.cellsOf 3 = 1 := by kernel_rfl

theorem raw_of {H : Type} {enc : TypeId × Value → H} {W : World} {fuel : Nat} {ra : Option Addr} {len cap : Nat} {x : DataW H × List MemPlace}
    (hf : DataW.trod enc Tryd.prog W 0 (fun _ => true) true fuel 62 (Value.slice ra len cap).cells.toList = some x) :
    ∃ zs : List Int, zs.length = len ∧ len ≤ maxLen ∧ ∀ i, i < len → ∃ b off, ra = some ⟨b, off, none⟩ ∧ b < W.heap.size ∧ W.cell? ⟨b, off + i, none⟩ = some (.int .i64 (zs.getD i 0)) := by
  rcases open_ints Tryd.underlying62 Tryd.underlying3 cells3 hf with ⟨hcs, _⟩ | ⟨a, len', cap', zs, hcs, _, hl, hm, hz, _, hcell, _⟩
  · simp [Value.cells] at hcs
    obtain ⟨rfl, rfl, rfl⟩ := hcs
    exact ⟨[], rfl, Nat.zero_le _, fun i h => absurd h (Nat.not_lt_zero _)⟩
  · simp [Value.cells] at hcs
    obtain ⟨rfl, rfl, rfl⟩ := hcs
    simp only [if_true] at hz
    refine ⟨zs.take len, by rw [List.length_take]; omega, by omega, fun i hi => ?_⟩
    obtain ⟨b, off, rfl, hc⟩ := ints_at hcell (by omega)
    have hci := hc i (by omega)
    refine ⟨b, off, rfl, ?_, ?_⟩
    · rcases Nat.lt_or_ge b W.heap.size with h | h
      · exact h
      · simp [World.cell?, Array.getElem?_eq_none h] at hci
    · rw [hci]; simp [List.getD_eq_getElem?_getD, List.getElem?_take_of_lt hi]
end Go.Proofs.YtfdpbmbafpieoaaDoor
