/- What code that comes in gives a walk. -/
import Derived.Test.YtnblieohdngmiabGreatDoorHCodeOf2
namespace Go.Proofs.YtnblieohdngmiabGreatDoor
open Go.ChangeShapes Go.WideShapes Go.ChangeAt Go.RowKit

variable {H : Type} {enc : TypeId × Value → H} {W : World}
theorem lt_sized {ts : List TypeId} {ds : List (DataW H)} (h : (DataW.weightsEach Tryz.prog ts ds).all (· ≤ reachBytes) = true) {j : Nat} {t : TypeId} {d : DataW H} (ht : ts[j]? = some t) (hd : ds[j]? = some d) : Lt t d :=
  fun n hn => of_decide_eq_true (List.all_eq_true.1 h n (DataW.weights_mem_each ht hd n hn))
/-- What stands of code that comes in. -/
structure InC (c : Cd) : Prop where
  gs : ∀ t ∈ c.globals, t.length ≤ 281474976710656
  sz : c.consts.length ≤ 281474976710656 ∧ c.procs.length ≤ 281474976710656 ∧ c.globals.length ≤ 281474976710656
  ps : ∀ p ∈ c.procs, p.code.length ≤ 281474976710656
  ft : ∀ p ∈ c.procs, Fit64 p.params ∧ ∀ x ∈ p.code, Fit64 x.a
  rg : ∀ x ∈ c.consts, Rng x
/-- THE CODE that comes in. -/
theorem code_of {sp : Nat → Bool} {v : Value} {d : DataW H} {p : List MemPlace} (hv : ∃ cs, v = .agg cs ∧ cs.size = Tryz.prog.cellsOf 26) (h : DataW.Trod enc Tryz.prog W 0 sp true 26 v d p) (hL : Lt 26 d) : ∃ c, CV W v c ∧ InC c := by
  obtain ⟨cs, rfl, hcs⟩ := hv
  rw [cellsCd] at hcs
  obtain ⟨v0, v1, v2, rfl⟩ : ∃ v0 v1 v2, cs = #[v0, v1, v2] := by
    rcases cs with ⟨_ | ⟨v0, _ | ⟨v1, _ | ⟨v2, _ | ⟨v3, r⟩⟩⟩⟩⟩
    · cases hcs
    · cases hcs
    · cases hcs
    · exact ⟨v0, v1, v2, rfl⟩
    · simp at hcs
  obtain ⟨fuel, hf⟩ := h
  have hf' : DataW.trod enc Tryz.prog W 0 sp true fuel 26 [v0, v1, v2] = some (d, p) := hf
  obtain ⟨xs, m, _, hx, _, hlen, hel⟩ := DataW.trod_struct Tryz.underlying26 hf'
  have hl3 : xs.length = 3 := hlen
  obtain ⟨x0, x1, x2, rfl⟩ : ∃ x0 x1 x2, xs = [x0, x1, x2] := by
    rcases xs with _ | ⟨x0, _ | ⟨x1, _ | ⟨x2, _ | ⟨x3, r⟩⟩⟩⟩
    · cases hl3
    · cases hl3
    · cases hl3
    · exact ⟨x0, x1, x2, rfl⟩
    · simp at hl3
  have f0 : DataW.trod enc Tryz.prog W 0 sp true m 22 (([v0, v1, v2].drop 0).take (Tryz.prog.cellsOf 22)) = some x0 := hel 0 _ rfl
  have f1 : DataW.trod enc Tryz.prog W 0 sp true m 23 (([v0, v1, v2].drop 1).take (Tryz.prog.cellsOf 23)) = some x1 := hel 1 _ rfl
  have f2 : DataW.trod enc Tryz.prog W 0 sp true m 24 (([v0, v1, v2].drop 2).take (Tryz.prog.cellsOf 24)) = some x2 := hel 2 _ rfl
  rw [cellsWs] at f0
  rw [cellsPs] at f1
  rw [cellsXs] at f2
  have hd : d = .agg [x0.1, x1.1, x2.1] := by cases hx; rfl
  have hw : ∀ n, n ∈ x0.1.weights Tryz.prog 22 ∨ n ∈ x1.1.weights Tryz.prog 23 ∨ n ∈ x2.1.weights Tryz.prog 24 → n ≤ reachBytes := fun n hn => hL n (by
    rw [hd]
    simp only [DataW.weights, Tryz.underlying26]
    simp only [List.map_cons, List.map_nil, DataW.weightsEach, List.mem_append]
    rcases hn with h | h | h
    · exact .inl h
    · exact .inr (.inl h)
    · exact .inr (.inr (.inl h)))
  obtain ⟨r1, l1, c1, rfl, s1, w1⟩ := words_of f0 (fun n hn => hw n (.inl hn))
  obtain ⟨r2, l2, c2, rfl, s2, w2, k2, t2⟩ := procs_of f1 (fun n hn => hw n (.inr (.inl hn)))
  obtain ⟨r3, l3, c3, rfl, s3, z3, w3, k3⟩ := texts_of f2 (fun n hn => hw n (.inr (.inr hn)))
  have hm : (281474976710656 : Nat) ≤ maxLen := by unfold maxLen; decide
  refine ⟨⟨l1, l2, l3⟩, ⟨⟨r1, c1, r2, c2, r3, c3, rfl, w1, w2, w3, s3⟩, ⟨Nat.le_trans s1 hm, Nat.le_trans s2 hm, Nat.le_trans z3 hm⟩⟩, ⟨k3, ⟨s1, s2, z3⟩, k2, t2, fun x hx => ?_⟩⟩
  obtain ⟨b, o, _, hp⟩ := w1
  obtain ⟨j, hj⟩ := List.getElem?_of_mem hx
  exact (hp j x hj).2.2
end Go.Proofs.YtnblieohdngmiabGreatDoor
