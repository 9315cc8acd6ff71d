/- A procedure, a word that come in. -/
import Derived.Test.YtnblieohdngmiabGreatDoorHCodeOf3
namespace Go.Proofs.YtnblieohdngmiabGreatDoor
open Go.ChangeShapes Go.WideShapes Go.ChangeAt Go.RowKit

variable {H : Type} {enc : TypeId × Value → H} {W : World}
theorem wfW {n : Int} (h : (Lit.int .u64 n).wf = true) : Rng n := by
  simp [Lit.wf, IntKind.min, IntKind.max, IntKind.signed, IntKind.bits] at h
  unfold Rng; omega
theorem proc_of {sp : Nat → Bool} {v : Value} {d : DataW H} {p : List MemPlace} (hv : ∃ cs, v = .agg cs ∧ cs.size = Tryz.prog.cellsOf 29) (h : DataW.Trod enc Tryz.prog W 0 sp true 29 v d p) (hL : Lt 29 d) :
    ∃ (P : Prc) (rp : Option Addr) (cp : Nat), v = .agg #[.int .i64 P.params, .slice rp P.code.length cp] ∧ NR W rp P.code ∧ P.code.length ≤ 281474976710656 := by
  obtain ⟨cs, rfl, hcs⟩ := hv
  rw [cellsPr] at hcs
  obtain ⟨v0, v1, rfl⟩ : ∃ v0 v1, cs = #[v0, v1] := by
    rcases cs with ⟨_ | ⟨v0, _ | ⟨v1, _ | ⟨v2, r⟩⟩⟩⟩
    · cases hcs
    · cases hcs
    · exact ⟨v0, v1, rfl⟩
    · simp at hcs
  obtain ⟨fuel, hf⟩ := h
  have hy : DataW.trod enc Tryz.prog W 0 sp true fuel 29 [v0, v1] = some (d, p) := hf
  obtain ⟨y0, y1, n, hye, hl, h0, h1⟩ := trod_struct2 Tryz.underlying29 hy
  obtain ⟨q, hp, _, hw0⟩ := DataW.trod_int Tryz.underlying3 h0
  rw [show Tryz.prog.cellsOf _ = 1 from cellsI] at hp
  have h1' : DataW.trod enc Tryz.prog W 0 sp true n 27 [v1] = some y1 := by
    have := h1
    rw [show Tryz.prog.cellsOf _ = 1 from cellsIs] at this
    exact this
  have hd : d = .agg [y0.1, y1.1] := by
    have := congrArg Prod.fst hye
    exact this
  have hL1 : Lt 27 y1.1 := fun k hk => hL k (by
    rw [hd]
    simp only [DataW.weights, Tryz.underlying29]
    simp only [List.map_cons, List.map_nil, DataW.weightsEach, List.mem_append]
    exact .inr (.inl hk))
  obtain ⟨rc, code, cc, rfl, hcl, hN, _⟩ := instrs_of h1' hL1
  have e0 : v0 = .int .i64 q := by simpa using hp
  subst e0
  exact ⟨⟨q, code⟩, rc, cc, rfl, hN, hcl⟩
end Go.Proofs.YtnblieohdngmiabGreatDoor
