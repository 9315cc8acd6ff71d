/- What comes in for CycleEnds: lives, truths. -/
import Derived.Test.YtnohcmfhhoiihaaHCOf
import Derived.Test.YtnohcmfhhoiihaaHEEnds
namespace Go.Proofs.Ytnohcmfhhoiihaa
open Go.ChangeShapes Go.WideShapes Go.ChangeAt Go.RowKit

variable {H : Type} {enc : TypeId × Value → H} {W : World}
theorem cellsLf : Try.prog.cellsOf 47 = 4 := by kernel_rfl
set_option maxRecDepth 100000 in
/-- A list of lives. -/
theorem lives_in {sp : Nat → Bool} {base : Nat} {v : Value} {d : DataW H} {p : List MemPlace} (hv : Value.okWide Try.prog W .any base 39 v) (h : DataW.Trod enc Try.prog W 0 sp true 39 v d p) (hL : Lt 39 d) :
    ∃ (ra : Option Addr) (l : List Lf) (cap : Nat), v = .slice ra l.length cap ∧ LX W ra l := by
  obtain ⟨a0, l0, c0, rfl⟩ := okWide_slice Try.underlying39 hv
  obtain ⟨fuel, hf⟩ := h
  have hf' : DataW.trod enc Try.prog W 0 sp true fuel 39 [.slice a0 l0 c0] = some (d, p) := hf
  obtain ⟨ra, l, cap, hv, _, _, _, b, o, ha, hp⟩ := elems_of (α := Lf) Try.underlying39 cellsLf (by decide) (fun b o x => W.cell? ⟨b, o, none⟩ = some (.bool x.st) ∧ W.cell? ⟨b, o + 1, none⟩ = some (.int .i64 x.lt) ∧ W.cell? ⟨b, o + 2, none⟩ = some (.bool x.bo) ∧ W.cell? ⟨b, o + 3, none⟩ = some (.int .i64 x.sh) ∧ (-9223372036854775808 ≤ x.lt ∧ x.lt ≤ 9223372036854775807) ∧ (-9223372036854775808 ≤ x.sh ∧ x.sh ≤ 9223372036854775807)) (fun m cs y b off hcs hy _ => by
    obtain ⟨xs, n, _, _, hl, hlen, hf⟩ := DataW.trod_struct Try.underlying47 hy
    have hl4 : xs.length = 4 := hlen
    obtain ⟨x0, x1, x2, x3, rfl⟩ : ∃ x0 x1 x2 x3, xs = [x0, x1, x2, x3] := by
      rcases xs with _ | ⟨x0, _ | ⟨x1, _ | ⟨x2, _ | ⟨x3, _ | ⟨x4, r⟩⟩⟩⟩⟩
      · cases hl4
      · cases hl4
      · cases hl4
      · cases hl4
      · exact ⟨x0, x1, x2, x3, rfl⟩
      · simp at hl4
    have h0 : DataW.trod enc Try.prog W 0 sp true n 4 ((cs.drop 0).take (Try.prog.cellsOf 4)) = some x0 := hf 0 _ rfl
    have h1 : DataW.trod enc Try.prog W 0 sp true n 3 ((cs.drop 1).take (Try.prog.cellsOf 3)) = some x1 := hf 1 _ rfl
    have h2 : DataW.trod enc Try.prog W 0 sp true n 4 ((cs.drop 2).take (Try.prog.cellsOf 4)) = some x2 := hf 2 _ rfl
    have h3 : DataW.trod enc Try.prog W 0 sp true n 3 ((cs.drop 3).take (Try.prog.cellsOf 3)) = some x3 := hf 3 _ rfl
    obtain ⟨p0, hp0, _⟩ := DataW.trod_bool Try.underlying4 h0
    obtain ⟨p1, hp1, _, w1⟩ := DataW.trod_int Try.underlying3 h1
    obtain ⟨p2, hp2, _⟩ := DataW.trod_bool Try.underlying4 h2
    obtain ⟨p3, hp3, _, w3⟩ := DataW.trod_int Try.underlying3 h3
    rw [cellsB] at hp0 hp2
    rw [cellsI] at hp1 hp3
    have c0 := cells?_cell hcs (i := 0) (by omega)
    have c1 := cells?_cell hcs (i := 1) (by omega)
    have c2 := cells?_cell hcs (i := 2) (by omega)
    have c3 := cells?_cell hcs (i := 3) (by omega)
    rw [take_drop_one hp0] at c0
    rw [take_drop_one hp1] at c1
    rw [take_drop_one hp2] at c2
    rw [take_drop_one hp3] at c3
    exact ⟨⟨p0, p1, p2, p3⟩, c0, c1, c2, c3, wf64 w1, wf64 w3⟩) hf' hL
  refine ⟨ra, l, cap, hv, b, o, ha, fun j x hx => ?_⟩
  obtain ⟨h1, h2⟩ := hp j x hx
  exact ⟨lt_of_cell h1, h1, h2⟩
set_option maxRecDepth 100000 in
/-- A list of truths. -/
theorem bools_in {sp : Nat → Bool} {base : Nat} {v : Value} {d : DataW H} {p : List MemPlace} (hv : Value.okWide Try.prog W .any base 40 v) (h : DataW.Trod enc Try.prog W 0 sp true 40 v d p) (hL : Lt 40 d) :
    ∃ (ra : Option Addr) (l : List Bool) (cap : Nat), v = .slice ra l.length cap ∧ BX W ra l := by
  obtain ⟨a0, l0, c0, rfl⟩ := okWide_slice Try.underlying40 hv
  obtain ⟨fuel, hf⟩ := h
  have hf' : DataW.trod enc Try.prog W 0 sp true fuel 40 [.slice a0 l0 c0] = some (d, p) := hf
  obtain ⟨ra, l, cap, hv, _, _, _, b, o, ha, hp⟩ := elems_of (α := Bool) Try.underlying40 cellsB (by decide) (fun b o x => W.cell? ⟨b, o, none⟩ = some (.bool x)) (fun m cs y b off hcs hy _ => by
    obtain ⟨n, rfl, _⟩ := DataW.trod_bool Try.underlying4 hy
    have c0 := cells?_cell hcs (i := 0) (by omega)
    exact ⟨n, by simpa using c0⟩) hf' hL
  refine ⟨ra, l, cap, hv, b, o, ha, fun j x hx => ?_⟩
  have h1 := hp j x hx
  rw [Nat.mul_one] at h1
  exact ⟨lt_of_cell h1, h1⟩
end Go.Proofs.Ytnohcmfhhoiihaa
