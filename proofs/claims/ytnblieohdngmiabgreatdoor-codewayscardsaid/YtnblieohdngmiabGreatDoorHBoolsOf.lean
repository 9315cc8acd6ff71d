/- A list of bools that comes in. -/
import Derived.Test.YtnblieohdngmiabGreatDoorHCodeOf3
import Derived.Test.YtnblieohdngmiabGreatDoorHWMath2
namespace Go.Proofs.YtnblieohdngmiabGreatDoor
open Go.ChangeShapes Go.WideShapes Go.ChangeAt Go.RowKit

variable {H : Type} {enc : TypeId × Value → H} {W : World}
theorem cellsB : Tryz.prog.cellsOf 4 = 1 := by kernel_rfl
theorem bytesB : Tryz.prog.bytesOf 4 = 1 := by kernel_rfl
theorem cellsBs : Tryz.prog.cellsOf 41 = 1 := by kernel_rfl
theorem bools_of {sp : Nat → Bool} {v : Value} {d : DataW H} {p : List MemPlace} (hv : ∃ ra n c, v = .slice ra n c) (h : DataW.Trod enc Tryz.prog W 0 sp true 41 v d p) (hL : Lt 41 d) :
    ∃ (ra : Option Addr) (l : List Bool) (cap : Nat), v = .slice ra l.length cap ∧ l.length ≤ 281474976710656 ∧ AR W ra l := by
  obtain ⟨fuel, hf⟩ := h
  obtain ⟨ra0, n0, c0, rfl⟩ := hv
  obtain ⟨ra, l, cap, hv, _, _, hw, b, o, ha, hp⟩ := elems_of (α := Bool) (x := (d, p)) Tryz.underlying41 cellsB (by decide) (fun b o x => W.cell? ⟨b, o, none⟩ = some (.bool x)) (fun m cs y b off hcs hy _ => by
    obtain ⟨n, rfl, _⟩ := DataW.trod_bool Tryz.underlying4 hy
    have c0 := cells?_cell hcs (i := 0) (by omega)
    exact ⟨n, by simpa using c0⟩) hf hL
  rw [bytesB] at hw
  unfold reachBytes at hw
  refine ⟨ra, l, cap, hv, by omega, b, o, ha, fun j x hx => ?_⟩
  have h1 := hp j x hx
  rw [Nat.mul_one] at h1
  exact ⟨lt_of_cell h1, h1⟩
end Go.Proofs.YtnblieohdngmiabGreatDoor
