/- The script that comes in. -/
import Derived.Test.YtjbfpklbgefacaaHWOf
import Derived.Test.YtjbfpklbgefacaaHWChg
namespace Go.Proofs.Ytjbfpklbgefacaa
open Go.RowKit

variable {H : Type} {enc : TypeId × Value → H} {W : World}
theorem cellsOp : Try.prog.cellsOf 41 = 7 := by kernel_rfl
theorem bytesOp : Try.prog.bytesOf 41 = 48 := by kernel_rfl
theorem cellsU8 : Try.prog.cellsOf 5 = 1 := by kernel_rfl
theorem take_drop_at {cs : List Value} {i n j : Nat} (hj : j < n) : ((cs.drop i).take n)[j]? = cs[i + j]? := by
  rw [List.getElem?_take, if_pos hj, List.getElem?_drop]
theorem cell_at {c2 : List Value} {j : Nat} {u : Value} (hp : (c2.drop j).take 1 = [u]) : c2[j]? = some u := take_drop_one hp
set_option maxRecDepth 100000 in
/-- A list of steps. -/
theorem ops_in {sp : Nat → Bool} {fuel : Nat} {v : Value} {x : DataW H × List MemPlace} (h : DataW.trod enc Try.prog W 0 sp true fuel 24 [v] = some x) (hL : Lt 24 x.1) :
    ∃ (ra : Option Addr) (l : List OpS) (cap : Nat), v = .slice ra l.length cap ∧ l.length ≤ 281474976710656 ∧ OR W ra l := by
  obtain ⟨ra, l, cap, hv, _, _, hw, b, o, ha, hp⟩ := elems_of (α := OpS) Try.underlying24 cellsOp (by decide) (fun b o x => (W.cell? ⟨b, o, none⟩ = some (.int .i64 x.k) ∧ W.cell? ⟨b, o + 1, none⟩ = some (.int .i64 x.n) ∧ W.cell? ⟨b, o + 1 + 1, none⟩ = some (.int .u8 x.y.k) ∧ W.cell? ⟨b, o + 1 + 1 + 1, none⟩ = some (.int .u8 x.y.c) ∧ W.cell? ⟨b, o + 1 + 1 + 1 + 1, none⟩ = some (.int .u64 x.y.a) ∧ W.cell? ⟨b, o + 1 + 1 + 1 + 1 + 1, none⟩ = some (.int .u64 x.y.b) ∧ W.cell? ⟨b, o + 1 + 1 + 1 + 1 + 1 + 1, none⟩ = some (.int .u8 x.b)) ∧ OpI x) (fun m cs y b off hcs hy hLy => by
    obtain ⟨xs, n, _, hx, hl, hlen, hf⟩ := DataW.trod_struct Try.underlying41 hy
    have hl4 : xs.length = 4 := hlen
    obtain ⟨x0, x1, x2, x3, rfl⟩ : ∃ x0 x1 x2 x3, xs = [x0, x1, x2, x3] := by
      rcases xs with _ | ⟨x0, _ | ⟨x1, _ | ⟨x2, _ | ⟨x3, _ | ⟨x4, r⟩⟩⟩⟩⟩
      · cases hl4
      · cases hl4
      · cases hl4
      · cases hl4
      · exact ⟨x0, x1, x2, x3, rfl⟩
      · simp at hl4
    have h0 : DataW.trod enc Try.prog W 0 sp true n 3 ((cs.drop 0).take (Try.prog.cellsOf 3)) = some x0 := hf 0 _ rfl
    have h1 : DataW.trod enc Try.prog W 0 sp true n 3 ((cs.drop 1).take (Try.prog.cellsOf 3)) = some x1 := hf 1 _ rfl
    have h2 : DataW.trod enc Try.prog W 0 sp true n 39 ((cs.drop 2).take (Try.prog.cellsOf 39)) = some x2 := hf 2 _ rfl
    have h3 : DataW.trod enc Try.prog W 0 sp true n 5 ((cs.drop 6).take (Try.prog.cellsOf 5)) = some x3 := hf 3 _ rfl
    obtain ⟨ys, n2, _, _, hl2, hlen2, hf2⟩ := DataW.trod_struct Try.underlying39 h2
    have hl5 : ys.length = 4 := hlen2
    obtain ⟨y0, y1, y2, y3, rfl⟩ : ∃ y0 y1 y2 y3, ys = [y0, y1, y2, y3] := by
      rcases ys with _ | ⟨x0, _ | ⟨x1, _ | ⟨x2, _ | ⟨x3, _ | ⟨x4, r⟩⟩⟩⟩⟩
      · cases hl5
      · cases hl5
      · cases hl5
      · cases hl5
      · exact ⟨x0, x1, x2, x3, rfl⟩
      · simp at hl5
    rw [cellsCl] at hf2
    have g0 : DataW.trod enc Try.prog W 0 sp true n2 34 ((((cs.drop 2).take 4).drop 0).take (Try.prog.cellsOf 34)) = some y0 := hf2 0 _ rfl
    have g1 : DataW.trod enc Try.prog W 0 sp true n2 35 ((((cs.drop 2).take 4).drop 1).take (Try.prog.cellsOf 35)) = some y1 := hf2 1 _ rfl
    have g2 : DataW.trod enc Try.prog W 0 sp true n2 37 ((((cs.drop 2).take 4).drop 2).take (Try.prog.cellsOf 37)) = some y2 := hf2 2 _ rfl
    have g3 : DataW.trod enc Try.prog W 0 sp true n2 37 ((((cs.drop 2).take 4).drop 3).take (Try.prog.cellsOf 37)) = some y3 := hf2 3 _ rfl
    obtain ⟨p0, hp0, _, hw0⟩ := DataW.trod_int Try.underlying3 h0
    obtain ⟨p1, hp1, _, hw1⟩ := DataW.trod_int Try.underlying3 h1
    obtain ⟨p6, hp6, _, hw6⟩ := DataW.trod_int Try.underlying5 h3
    obtain ⟨p2, hp2, _, hw2⟩ := DataW.trod_int Try.underlying34 g0
    obtain ⟨p3, hp3, _, hw3⟩ := DataW.trod_int Try.underlying35 g1
    obtain ⟨p4, hp4, _, hw4⟩ := DataW.trod_int Try.underlying37 g2
    obtain ⟨p5, hp5, _, hw5⟩ := DataW.trod_int Try.underlying37 g3
    rw [cellsI] at hp0 hp1
    rw [cellsU8] at hp6
    rw [cellsKi] at hp2
    rw [cellsCo] at hp3
    rw [cellsWd] at hp4 hp5
    have e0 := take_drop_one hp0
    have e1 := take_drop_one hp1
    have e6 := take_drop_one hp6
    have e2 := take_drop_one hp2
    have e3 := take_drop_one hp3
    have e4 := take_drop_one hp4
    have e5 := take_drop_one hp5
    rw [take_drop_at (by omega)] at e2 e3 e4 e5
    have c0 := cells?_cell hcs (i := 0) (by omega)
    have c1 := cells?_cell hcs (i := 1) (by omega)
    have c2 := cells?_cell hcs (i := 2) (by omega)
    have c3 := cells?_cell hcs (i := 3) (by omega)
    have c4 := cells?_cell hcs (i := 4) (by omega)
    have c5 := cells?_cell hcs (i := 5) (by omega)
    have c6 := cells?_cell hcs (i := 6) (by omega)
    rw [e0] at c0
    rw [e1] at c1
    rw [e2] at c2
    rw [e3] at c3
    rw [e4] at c4
    rw [e5] at c5
    rw [e6] at c6
    exact ⟨⟨p0, p1, ⟨p2, p3, p4, p5⟩, p6⟩, ⟨c0, c1, c2, c3, c4, c5, c6⟩, ⟨wf64 hw1, ⟨wf8 hw2, wf8 hw3, wfW hw4, wfW hw5⟩, wf8 hw6⟩⟩) h hL
  rw [bytesOp] at hw
  unfold reachBytes at hw
  refine ⟨ra, l, cap, hv, by omega, b, o, ha, fun j x hx => ?_⟩
  obtain ⟨h1, h2⟩ := hp j x hx
  exact ⟨lt_of_cell h1.1, h1, h2⟩
theorem script_of {sp : Nat → Bool} {v : Value} {d : DataW H} {p : List MemPlace} (h : DataW.Trod enc Try.prog W 0 sp true 24 v d p) (hv : ∃ ra n c, v = .slice ra n c) (hL : Lt 24 d) : ∃ (ra : Option Addr) (l : List OpS) (cap : Nat), v = .slice ra l.length cap ∧ l.length ≤ 281474976710656 ∧ OR W ra l := by
  obtain ⟨ra, n, c, rfl⟩ := hv
  obtain ⟨fuel, hf⟩ := h
  exact ops_in hf hL
end Go.Proofs.Ytjbfpklbgefacaa
