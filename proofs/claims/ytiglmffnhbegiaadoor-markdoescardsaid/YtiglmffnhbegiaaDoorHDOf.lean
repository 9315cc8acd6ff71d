/- The script that comes in. -/
import Derived.Test.YtiglmffnhbegiaaDoorHBLaidOf
import Derived.Test.YtiglmffnhbegiaaDoorHDDoes
namespace Go.Proofs.YtiglmffnhbegiaaDoor
open Go.RowKit

variable {H : Type} {enc : TypeId × Value → H} {W : World}
theorem cellsOp : Tryd.prog.cellsOf 31 = 7 := by kernel_rfl
theorem bytesOp : Tryd.prog.bytesOf 31 = 80 := by kernel_rfl
theorem cut_one {cs : List Value} {i : Nat} (h : i < cs.length) : ∃ v, (cs.drop i).take 1 = [v] := by
  refine ⟨cs[i], ?_⟩
  rw [List.drop_eq_getElem_cons h]
  rfl
set_option maxRecDepth 100000 in
/-- A list of steps. -/
theorem ops_in {sp : Nat → Bool} {fuel : Nat} {v : Value} {x : DataW H × List MemPlace} (h : DataW.trod enc Tryd.prog W 0 sp true fuel 24 [v] = some x) (hL : Lt 24 x.1) :
    ∃ (ra : Option Addr) (l : List OpM) (cap : Nat), v = .slice ra l.length cap ∧ l.length ≤ 281474976710656 ∧ OR W ra l := by
  obtain ⟨ra, l, cap, hv, _, _, hw, b, o, ha, hp⟩ := elems_of (α := OpM) Tryd.underlying24 cellsOp (by decide) (fun b o x => x.ws.length ≤ 281474976710656 ∧ x.cs.length ≤ 281474976710656 ∧ ∃ wr wc cr cc, OpI W x wr wc cr cc ∧ W.cell? ⟨b, o, none⟩ = some (.int .i64 x.k) ∧ W.cell? ⟨b, o + 1, none⟩ = some (.slice wr x.ws.length wc) ∧ W.cell? ⟨b, o + 1 + 1, none⟩ = some (.slice cr x.cs.length cc) ∧ W.cell? ⟨b, o + 1 + 1 + 1, none⟩ = some (.int .i64 x.i) ∧ W.cell? ⟨b, o + 1 + 1 + 1 + 1, none⟩ = some (.int .u8 x.c) ∧ W.cell? ⟨b, o + 1 + 1 + 1 + 1 + 1, none⟩ = some (.int .u8 x.d) ∧ W.cell? ⟨b, o + 1 + 1 + 1 + 1 + 1 + 1, none⟩ = some (.int .u64 x.x)) (fun m cs y b off hcs hy hLy => by
    obtain ⟨xs, n, _, hx, hl, hlen, hf⟩ := DataW.trod_struct Tryd.underlying31 hy
    have hl4 : xs.length = 7 := hlen
    obtain ⟨x0, x1, x2, x3, x4, x5, x6, rfl⟩ : ∃ x0 x1 x2 x3 x4 x5 x6, xs = [x0, x1, x2, x3, x4, x5, x6] := by
      rcases xs with _ | ⟨x0, _ | ⟨x1, _ | ⟨x2, _ | ⟨x3, _ | ⟨x4, _ | ⟨x5, _ | ⟨x6, _ | ⟨x7, r⟩⟩⟩⟩⟩⟩⟩⟩
      · cases hl4
      · cases hl4
      · cases hl4
      · cases hl4
      · cases hl4
      · cases hl4
      · cases hl4
      · exact ⟨x0, x1, x2, x3, x4, x5, x6, rfl⟩
      · simp at hl4
    have h0 : DataW.trod enc Tryd.prog W 0 sp true n 3 ((cs.drop 0).take (Tryd.prog.cellsOf 3)) = some x0 := hf 0 _ rfl
    have h1 : DataW.trod enc Tryd.prog W 0 sp true n 25 ((cs.drop 1).take (Tryd.prog.cellsOf 25)) = some x1 := hf 1 _ rfl
    have h2 : DataW.trod enc Tryd.prog W 0 sp true n 26 ((cs.drop 2).take (Tryd.prog.cellsOf 26)) = some x2 := hf 2 _ rfl
    have h3 : DataW.trod enc Tryd.prog W 0 sp true n 3 ((cs.drop 3).take (Tryd.prog.cellsOf 3)) = some x3 := hf 3 _ rfl
    have h4 : DataW.trod enc Tryd.prog W 0 sp true n 27 ((cs.drop 4).take (Tryd.prog.cellsOf 27)) = some x4 := hf 4 _ rfl
    have h5 : DataW.trod enc Tryd.prog W 0 sp true n 27 ((cs.drop 5).take (Tryd.prog.cellsOf 27)) = some x5 := hf 5 _ rfl
    have h6 : DataW.trod enc Tryd.prog W 0 sp true n 29 ((cs.drop 6).take (Tryd.prog.cellsOf 29)) = some x6 := hf 6 _ rfl
    have hd : y.1 = .agg [x0.1, x1.1, x2.1, x3.1, x4.1, x5.1, x6.1] := by rw [hx]; rfl
    have hw1 : Lt 25 x1.1 := fun n hn => hLy n (by
      rw [hd]
      simp only [DataW.weights, Tryd.underlying31]
      simp only [List.map_cons, List.map_nil, DataW.weightsEach, List.mem_append]
      exact .inr (.inl hn))
    have hw2 : Lt 26 x2.1 := fun n hn => hLy n (by
      rw [hd]
      simp only [DataW.weights, Tryd.underlying31]
      simp only [List.map_cons, List.map_nil, DataW.weightsEach, List.mem_append]
      exact .inr (.inr (.inl hn)))
    rw [cellsI] at h0 h3
    rw [cellsSW] at h1
    rw [cellsSI] at h2
    rw [cellsCo] at h4 h5
    rw [cellsWd] at h6
    have hc7 : cs.length = 7 := by rw [hl, cellsOp]
    obtain ⟨v1, hv1⟩ := cut_one (cs := cs) (i := 1) (by omega)
    obtain ⟨v2, hv2⟩ := cut_one (cs := cs) (i := 2) (by omega)
    rw [hv1] at h1
    rw [hv2] at h2
    obtain ⟨p0, hp0, _, _⟩ := DataW.trod_int Tryd.underlying3 h0
    obtain ⟨p3, hp3, _, _⟩ := DataW.trod_int Tryd.underlying3 h3
    obtain ⟨p4, hp4, _, _⟩ := DataW.trod_int Tryd.underlying27 h4
    obtain ⟨p5, hp5, _, hf5⟩ := DataW.trod_int Tryd.underlying27 h5
    obtain ⟨p6, hp6, _, hf6⟩ := DataW.trod_int Tryd.underlying29 h6
    obtain ⟨r1, l1, c1', rfl, hl1, w1⟩ := words_of h1 hw1
    obtain ⟨r2, l2, c2', rfl, hl2, w2, _⟩ := ints_in h2 hw2
    have c0 := cells?_cell hcs (i := 0) (by omega)
    have c1 := cells?_cell hcs (i := 1) (by omega)
    have c2 := cells?_cell hcs (i := 2) (by omega)
    have c3 := cells?_cell hcs (i := 3) (by omega)
    have c4 := cells?_cell hcs (i := 4) (by omega)
    have c5 := cells?_cell hcs (i := 5) (by omega)
    have c6 := cells?_cell hcs (i := 6) (by omega)
    rw [take_drop_one hp0] at c0
    rw [take_drop_one hv1] at c1
    rw [take_drop_one hv2] at c2
    rw [take_drop_one hp3] at c3
    rw [take_drop_one hp4] at c4
    rw [take_drop_one hp5] at c5
    rw [take_drop_one hp6] at c6
    exact ⟨⟨p0, l1, l2, p3, p4, p5, p6⟩, hl1, hl2, r1, c1', r2, c2', ⟨w1, w2, wf8 hf5, wfW hf6⟩, c0, c1, c2, c3, c4, c5, c6⟩) h hL
  rw [bytesOp] at hw
  unfold reachBytes at hw
  refine ⟨ra, l, cap, hv, by omega, b, o, ha, fun j x hx => ?_⟩
  obtain ⟨h1, h2, wr, wc, cr, cc, h3, h4⟩ := hp j x hx
  exact ⟨lt_of_cell h4.1, h1, h2, wr, wc, cr, cc, h3, h4⟩
theorem cells_of {sp : Nat → Bool} {v : Value} {d : DataW H} {p : List MemPlace} (h : DataW.Trod enc Tryd.prog W 0 sp true 23 v d p) (hv : ∃ ra n c, v = .slice ra n c) (hL : Lt 23 d) : ∃ (ra : Option Addr) (l : List Cl) (cap : Nat), v = .slice ra l.length cap ∧ l.length ≤ 281474976710656 ∧ HR W ra l := by
  obtain ⟨ra, n, c, rfl⟩ := hv
  obtain ⟨fuel, hf⟩ := h
  exact cells_in hf hL
theorem script_of {sp : Nat → Bool} {v : Value} {d : DataW H} {p : List MemPlace} (h : DataW.Trod enc Tryd.prog W 0 sp true 24 v d p) (hv : ∃ ra n c, v = .slice ra n c) (hL : Lt 24 d) : ∃ (ra : Option Addr) (l : List OpM) (cap : Nat), v = .slice ra l.length cap ∧ l.length ≤ 281474976710656 ∧ OR W ra l := by
  obtain ⟨ra, n, c, rfl⟩ := hv
  obtain ⟨fuel, hf⟩ := h
  exact ops_in hf hL
end Go.Proofs.YtiglmffnhbegiaaDoor
