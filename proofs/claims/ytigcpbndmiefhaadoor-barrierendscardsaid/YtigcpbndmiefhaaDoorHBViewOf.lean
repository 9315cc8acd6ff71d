/- The view that comes in. -/
import Derived.Test.YtigcpbndmiefhaaDoorHBLaidOf
namespace Go.Proofs.YtigcpbndmiefhaaDoor
open Go.RowKit

variable {H : Type} {enc : TypeId × Value → H} {W : World}
theorem cellsLn : Tryd.prog.cellsOf 71 = 3 := by kernel_rfl
theorem bytesLn : Tryd.prog.bytesOf 71 = 32 := by kernel_rfl
theorem cellsVw : Tryd.prog.cellsOf 65 = 7 := by kernel_rfl
theorem cellsPh : Tryd.prog.cellsOf 28 = 1 := by kernel_rfl
theorem cellsSL : Tryd.prog.cellsOf 63 = 1 := by kernel_rfl
/-- A list of lanes. -/
theorem lanes_in {sp : Nat → Bool} {fuel : Nat} {v : Value} {x : DataW H × List MemPlace} (h : DataW.trod enc Tryd.prog W 0 sp true fuel 63 [v] = some x) (hL : Lt 63 x.1) :
    ∃ (ra : Option Addr) (l : List Ln) (cap : Nat), v = .slice ra l.length cap ∧ l.length ≤ 281474976710656 ∧ LR W ra l := by
  obtain ⟨ra, l, cap, hv, _, _, hw, b, o, ha, hp⟩ := elems_of (α := Ln) Tryd.underlying63 cellsLn (by decide) (fun b o x => (∃ rr cc, W.cell? ⟨b, o, none⟩ = some (.slice rr x.roots.length cc) ∧ WR W rr x.roots ∧ x.roots.length ≤ 281474976710656) ∧ W.cell? ⟨b, o + 1, none⟩ = some (.bool x.sc) ∧ W.cell? ⟨b, o + 1 + 1, none⟩ = some (.bool x.en)) (fun m cs y b off hcs hy hLy => by
    obtain ⟨xs, n, _, hx, hl, hlen, hf⟩ := DataW.trod_struct Tryd.underlying71 hy
    have hl4 : xs.length = 3 := hlen
    obtain ⟨x0, x1, x2, rfl⟩ : ∃ x0 x1 x2, xs = [x0, x1, x2] := by
      rcases xs with _ | ⟨x0, _ | ⟨x1, _ | ⟨x2, _ | ⟨x3, r⟩⟩⟩⟩
      · cases hl4
      · cases hl4
      · cases hl4
      · exact ⟨x0, x1, x2, rfl⟩
      · simp at hl4
    have h0 : DataW.trod enc Tryd.prog W 0 sp true n 62 ((cs.drop 0).take (Tryd.prog.cellsOf 62)) = some x0 := hf 0 _ rfl
    have h1 : DataW.trod enc Tryd.prog W 0 sp true n 4 ((cs.drop 1).take (Tryd.prog.cellsOf 4)) = some x1 := hf 1 _ rfl
    have h2 : DataW.trod enc Tryd.prog W 0 sp true n 4 ((cs.drop 2).take (Tryd.prog.cellsOf 4)) = some x2 := hf 2 _ rfl
    have hd : y.1 = .agg [x0.1, x1.1, x2.1] := by rw [hx]; rfl
    have hw0 : Lt 62 x0.1 := fun n hn => hLy n (by
      rw [hd]
      simp only [DataW.weights, Tryd.underlying71]
      simp only [List.map_cons, List.map_nil, DataW.weightsEach, List.mem_append]
      exact .inl hn)
    rw [cellsSW] at h0
    rw [cellsBo] at h1 h2
    obtain ⟨v0, hv0⟩ : ∃ v0, (cs.drop 0).take 1 = [v0] := by
      have hc0 : cs.length = 3 := by rw [hl, cellsLn]
      rcases cs with _ | ⟨v0, r⟩
      · cases hc0
      · exact ⟨v0, rfl⟩
    rw [hv0] at h0
    obtain ⟨p1, hp1, _⟩ := DataW.trod_bool Tryd.underlying4 h1
    obtain ⟨p2, hp2, _⟩ := DataW.trod_bool Tryd.underlying4 h2
    obtain ⟨rr, l0, c0', rfl, hl0, w0⟩ := words_of h0 hw0
    have c0 := cells?_cell hcs (i := 0) (by omega)
    have c1 := cells?_cell hcs (i := 1) (by omega)
    have c2 := cells?_cell hcs (i := 2) (by omega)
    rw [take_drop_one hv0] at c0
    rw [take_drop_one hp1] at c1
    rw [take_drop_one hp2] at c2
    exact ⟨⟨l0, p1, p2⟩, ⟨rr, c0', c0, w0, hl0⟩, c1, c2⟩) h hL
  rw [bytesLn] at hw
  unfold reachBytes at hw
  refine ⟨ra, l, cap, hv, by omega, b, o, ha, fun j x hx => ?_⟩
  obtain ⟨⟨rr, cc, h1, h2, h3⟩, h4, h5⟩ := hp j x hx
  exact ⟨lt_of_cell h1, ⟨rr, cc, h1, h2, h3⟩, h4, h5⟩
set_option maxRecDepth 100000 in
/-- A view. -/
theorem view_of {sp : Nat → Bool} {v : Value} {d : DataW H} {p : List MemPlace} (hv : ∃ cs, v = .agg cs ∧ cs.size = Tryd.prog.cellsOf 65) (h : DataW.Trod enc Tryd.prog W 0 sp true 65 v d p) (hL : Lt 65 d) :
    ∃ (q : Vp) (x : Vw), v = .agg (q.cells x) ∧ VL W q x ∧ (0 ≤ x.ph ∧ x.ph ≤ 255) ∧ (-9223372036854775808 ≤ x.sw ∧ x.sw ≤ 9223372036854775807) ∧ (-9223372036854775808 ≤ x.laid ∧ x.laid ≤ 9223372036854775807) ∧ ∀ y ∈ x.grey, -9223372036854775808 ≤ y ∧ y ≤ 9223372036854775807 := by
  obtain ⟨cs, rfl, hcs⟩ := hv
  rw [cellsVw] at hcs
  obtain ⟨v0, v1, v2, v3, v4, v5, v6, rfl⟩ : ∃ v0 v1 v2 v3 v4 v5 v6, cs = #[v0, v1, v2, v3, v4, v5, v6] := by
    rcases cs with ⟨_ | ⟨v0, _ | ⟨v1, _ | ⟨v2, _ | ⟨v3, _ | ⟨v4, _ | ⟨v5, _ | ⟨v6, _ | ⟨v7, r⟩⟩⟩⟩⟩⟩⟩⟩⟩
    · cases hcs
    · cases hcs
    · cases hcs
    · cases hcs
    · cases hcs
    · cases hcs
    · cases hcs
    · exact ⟨v0, v1, v2, v3, v4, v5, v6, rfl⟩
    · simp at hcs
  obtain ⟨fuel, hf⟩ := h
  have hf' : DataW.trod enc Tryd.prog W 0 sp true fuel 65 [v0, v1, v2, v3, v4, v5, v6] = some (d, p) := hf
  obtain ⟨xs, m, _, hx, _, hlen, hel⟩ := DataW.trod_struct Tryd.underlying65 hf'
  have hl4 : xs.length = 7 := hlen
  obtain ⟨x0, x1, x2, x3, x4, x5, x6, rfl⟩ : ∃ x0 x1 x2 x3 x4 x5 x6, xs = [x0, x1, x2, x3, x4, x5, x6] := by
    rcases xs with _ | ⟨x0, _ | ⟨x1, _ | ⟨x2, _ | ⟨x3, _ | ⟨x4, _ | ⟨x5, _ | ⟨x6, _ | ⟨x7, r⟩⟩⟩⟩⟩⟩⟩⟩
    · cases hl4
    · cases hl4
    · cases hl4
    · cases hl4
    · cases hl4
    · cases hl4
    · cases hl4
    · exact ⟨x0, x1, x2, x3, x4, x5, x6, rfl⟩
    · simp at hl4
  have f0 : DataW.trod enc Tryd.prog W 0 sp true m 25 (([v0, v1, v2, v3, v4, v5, v6].drop 0).take (Tryd.prog.cellsOf 25)) = some x0 := hel 0 _ rfl
  have f1 : DataW.trod enc Tryd.prog W 0 sp true m 28 (([v0, v1, v2, v3, v4, v5, v6].drop 1).take (Tryd.prog.cellsOf 28)) = some x1 := hel 1 _ rfl
  have f2 : DataW.trod enc Tryd.prog W 0 sp true m 3 (([v0, v1, v2, v3, v4, v5, v6].drop 2).take (Tryd.prog.cellsOf 3)) = some x2 := hel 2 _ rfl
  have f3 : DataW.trod enc Tryd.prog W 0 sp true m 50 (([v0, v1, v2, v3, v4, v5, v6].drop 3).take (Tryd.prog.cellsOf 50)) = some x3 := hel 3 _ rfl
  have f4 : DataW.trod enc Tryd.prog W 0 sp true m 62 (([v0, v1, v2, v3, v4, v5, v6].drop 4).take (Tryd.prog.cellsOf 62)) = some x4 := hel 4 _ rfl
  have f5 : DataW.trod enc Tryd.prog W 0 sp true m 3 (([v0, v1, v2, v3, v4, v5, v6].drop 5).take (Tryd.prog.cellsOf 3)) = some x5 := hel 5 _ rfl
  have f6 : DataW.trod enc Tryd.prog W 0 sp true m 63 (([v0, v1, v2, v3, v4, v5, v6].drop 6).take (Tryd.prog.cellsOf 63)) = some x6 := hel 6 _ rfl
  rw [cellsSC] at f0
  rw [cellsPh] at f1
  rw [cellsI] at f2 f5
  rw [cellsSI] at f3
  rw [cellsSW] at f4
  rw [cellsSL] at f6
  have hd : d = .agg [x0.1, x1.1, x2.1, x3.1, x4.1, x5.1, x6.1] := by cases hx; rfl
  have hw : ∀ n, n ∈ x0.1.weights Tryd.prog 25 ∨ n ∈ x3.1.weights Tryd.prog 50 ∨ n ∈ x4.1.weights Tryd.prog 62 ∨ n ∈ x6.1.weights Tryd.prog 63 → n ≤ reachBytes := fun n hn => hL n (by
    rw [hd]
    simp only [DataW.weights, Tryd.underlying65]
    simp only [List.map_cons, List.map_nil, DataW.weightsEach, List.mem_append]
    rcases hn with hn | hn | hn | hn
    · exact .inl hn
    · exact .inr (.inr (.inr (.inl hn)))
    · exact .inr (.inr (.inr (.inr (.inl hn))))
    · exact .inr (.inr (.inr (.inr (.inr (.inr (.inl hn)))))))
  obtain ⟨n1, hn1, _, hf1⟩ := DataW.trod_int Tryd.underlying28 f1
  obtain ⟨n2, hn2, _, hf2⟩ := DataW.trod_int Tryd.underlying3 f2
  obtain ⟨n5, hn5, _, hf5⟩ := DataW.trod_int Tryd.underlying3 f5
  obtain ⟨r0, l0, c0, rfl, hl0, w0⟩ := cells_in f0 (fun n hn => hw n (.inl hn))
  obtain ⟨r3, l3, c3, rfl, hl3, w3, b3⟩ := ints_in f3 (fun n hn => hw n (.inr (.inl hn)))
  obtain ⟨r4, l4, c4, rfl, hl4', w4⟩ := words_of f4 (fun n hn => hw n (.inr (.inr (.inl hn))))
  obtain ⟨r6, l6, c6, rfl, hl6, w6⟩ := lanes_in f6 (fun n hn => hw n (.inr (.inr (.inr hn))))
  have e1 : v1 = .int .u8 n1 := by simpa using hn1
  have e2 : v2 = .int .i64 n2 := by simpa using hn2
  have e5 : v5 = .int .i64 n5 := by simpa using hn5
  subst e1 e2 e5
  exact ⟨⟨r0, c0, r3, c3, r4, c4, r6, c6⟩, ⟨l0, n1, n2, l3, l4, n5, l6⟩, rfl, ⟨w0, hl0, w3, hl3, w4, hl4', w6, hl6⟩, wf8 hf1, wf64 hf2, wf64 hf5, b3⟩
end Go.Proofs.YtigcpbndmiefhaaDoor
