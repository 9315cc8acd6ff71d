/- What comes in for MarkReach. -/
import Derived.Test.YtiglmffnhbegiaaDoorHBLaidOf
import Derived.Test.YtiglmffnhbegiaaDoorHXMain
namespace Go.Proofs.YtiglmffnhbegiaaDoor
open Go.RowKit

variable {H : Type} {enc : TypeId × Value → H} {W : World}
theorem cells_of2 {sp : Nat → Bool} {v : Value} {d : DataW H} {p : List MemPlace} (h : DataW.Trod enc Tryd.prog W 0 sp true 23 v d p) (hv : ∃ ra n c, v = .slice ra n c) (hL : Lt 23 d) : ∃ (ra : Option Addr) (l : List Cl) (cap : Nat), v = .slice ra l.length cap ∧ l.length ≤ 281474976710656 ∧ HR W ra l := by
  obtain ⟨ra, n, c, rfl⟩ := hv
  obtain ⟨fuel, hf⟩ := h
  exact cells_in hf hL
theorem words_of2 {sp : Nat → Bool} {v : Value} {d : DataW H} {p : List MemPlace} (h : DataW.Trod enc Tryd.prog W 0 sp true 25 v d p) (hv : ∃ ra n c, v = .slice ra n c) (hL : Lt 25 d) : ∃ (ra : Option Addr) (l : List Int) (cap : Nat), v = .slice ra l.length cap ∧ l.length ≤ 281474976710656 ∧ WR W ra l := by
  obtain ⟨ra, n, c, rfl⟩ := hv
  obtain ⟨fuel, hf⟩ := h
  exact words_of hf hL
theorem int_of2 {sp : Nat → Bool} {v : Value} {d : DataW H} {p : List MemPlace} (h : DataW.Trod enc Tryd.prog W 0 sp true 3 v d p) (hv : ∃ n : Int, v = .int .i64 n) : ∃ n : Int, v = .int .i64 n ∧ -9223372036854775808 ≤ n ∧ n ≤ 9223372036854775807 := by
  obtain ⟨n, rfl⟩ := hv
  obtain ⟨fuel, hf⟩ := h
  have hf' : DataW.trod enc Tryd.prog W 0 sp true fuel 3 [.int .i64 n] = some (d, p) := hf
  obtain ⟨m, hm, _, hwf⟩ := DataW.trod_int Tryd.underlying3 hf'
  cases hm
  exact ⟨n, rfl, wf64 hwf⟩
end Go.Proofs.YtiglmffnhbegiaaDoor
