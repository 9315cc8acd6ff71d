/- What code that comes in gives a walk: instructions, procedures, code. -/
import Derived.Test.YtnblieohdngmiabGreatDoorHCodeOf
import Derived.ChangeSame
namespace Go.Proofs.YtnblieohdngmiabGreatDoor
open Go.ChangeShapes Go.WideShapes Go.ChangeAt Go.RowKit

variable {H : Type} {enc : TypeId × Value → H} {W : World}
theorem cellsI : Tryz.prog.cellsOf 3 = 1 := by kernel_rfl
theorem cellsIs : Tryz.prog.cellsOf 27 = 1 := by kernel_rfl
theorem cellsWs : Tryz.prog.cellsOf 22 = 1 := by kernel_rfl
theorem cellsPs : Tryz.prog.cellsOf 23 = 1 := by kernel_rfl
theorem cellsXs : Tryz.prog.cellsOf 24 = 1 := by kernel_rfl
theorem cellsCd : Tryz.prog.cellsOf 26 = 3 := by kernel_rfl
theorem take_drop_one {cs : List Value} {i : Nat} {v : Value} (h : (cs.drop i).take 1 = [v]) : cs[i]? = some v := by
  have := congrArg (·[0]?) h
  simpa [List.getElem?_take, List.getElem?_drop] using this
theorem wf64 {n : Int} (h : (Lit.int .i64 n).wf = true) : Fit64 n := by
  simp [Lit.wf, IntKind.min, IntKind.max, IntKind.signed, IntKind.bits] at h
  unfold Fit64; omega
theorem wf8 {n : Int} (h : (Lit.int .u8 n).wf = true) : 0 ≤ n ∧ n ≤ 255 := by
  simp [Lit.wf, IntKind.min, IntKind.max, IntKind.signed, IntKind.bits] at h
  omega
/-- A list of instructions. -/
theorem instrs_of {sp : Nat → Bool} {fuel : Nat} {v : Value} {x : DataW H × List MemPlace} (h : DataW.trod enc Tryz.prog W 0 sp true fuel 27 [v] = some x) (hL : Lt 27 x.1) :
    ∃ (ra : Option Addr) (l : List Ins) (cap : Nat), v = .slice ra l.length cap ∧ l.length ≤ 281474976710656 ∧ NR W ra l ∧ ∀ y ∈ l, Fit64 y.a := by
  obtain ⟨ra, l, cap, hv, _, _, hw, b, o, ha, hp⟩ := elems_of (α := Ins) Tryz.underlying27 cellsIn (by decide) (fun b o x => W.cell? ⟨b, o, none⟩ = some (.int .u8 x.op) ∧ W.cell? ⟨b, o + 1, none⟩ = some (.int .i64 x.a) ∧ (0 ≤ x.op ∧ x.op ≤ 255) ∧ Fit64 x.a) (fun m cs y b off hcs hy _ => by
    obtain ⟨y0, y1, n, _, hl, h0, h1⟩ := trod_struct2 Tryz.underlying46 hy
    obtain ⟨p, hp, _, hw0⟩ := DataW.trod_int Tryz.underlying44 h0
    obtain ⟨q, hq, _, hw1⟩ := DataW.trod_int Tryz.underlying3 h1
    rw [show Tryz.prog.cellsOf _ = 1 from cellsOp] at hp
    rw [show Tryz.prog.cellsOf _ = 1 from cellsI] at hq
    have c0 := cells?_cell hcs (i := 0) (by omega)
    have c1 := cells?_cell hcs (i := 1) (by omega)
    rw [take_drop_one hp] at c0
    rw [take_drop_one hq] at c1
    exact ⟨⟨p, q⟩, c0, c1, wf8 hw0, wf64 hw1⟩) h hL
  rw [bytesIn] at hw
  unfold reachBytes at hw
  refine ⟨ra, l, cap, hv, by omega, ⟨b, o, ha, fun j x hx => ?_⟩, fun y hy => ?_⟩
  · obtain ⟨h1, h2, h3, h4⟩ := hp j x hx
    exact ⟨lt_of_cell h1, h1, h2, h3, h4⟩
  · obtain ⟨j, hj⟩ := List.getElem?_of_mem hy
    exact (hp j y hj).2.2.2
/-- A list of procedures. -/
theorem procs_of {sp : Nat → Bool} {fuel : Nat} {v : Value} {x : DataW H × List MemPlace} (h : DataW.trod enc Tryz.prog W 0 sp true fuel 23 [v] = some x) (hL : Lt 23 x.1) :
    ∃ (ra : Option Addr) (l : List Prc) (cap : Nat), v = .slice ra l.length cap ∧ l.length ≤ 281474976710656 ∧ PR W ra l ∧ (∀ p ∈ l, p.code.length ≤ 281474976710656) ∧ ∀ p ∈ l, Fit64 p.params ∧ ∀ y ∈ p.code, Fit64 y.a := by
  obtain ⟨ra, l, cap, hv, _, _, hw, b, o, ha, hp⟩ := elems_of (α := Prc) Tryz.underlying23 cellsPr (by decide) (fun b o p => W.cell? ⟨b, o, none⟩ = some (.int .i64 p.params) ∧ (∃ rc cc, W.cell? ⟨b, o + 1, none⟩ = some (.slice rc p.code.length cc) ∧ NR W rc p.code) ∧ p.code.length ≤ 281474976710656 ∧ Fit64 p.params ∧ ∀ y ∈ p.code, Fit64 y.a) (fun m cs y b off hcs hy hLy => by
    obtain ⟨y0, y1, n, hye, hl, h0, h1⟩ := trod_struct2 Tryz.underlying29 hy
    obtain ⟨p, hp, _, hw0⟩ := DataW.trod_int Tryz.underlying3 h0
    rw [show Tryz.prog.cellsOf _ = 1 from cellsI] at hp
    rw [cellsPr] at hl
    obtain ⟨v0, v1, rfl⟩ : ∃ v0 v1, cs = [v0, v1] := by
      rcases cs with _ | ⟨v0, _ | ⟨v1, _ | ⟨v2, r⟩⟩⟩
      · cases hl
      · cases hl
      · exact ⟨v0, v1, rfl⟩
      · simp at hl
    have h1' : DataW.trod enc Tryz.prog W 0 sp true n 27 [v1] = some y1 := by
      have := h1
      rw [show Tryz.prog.cellsOf _ = 1 from cellsIs] at this
      exact this
    have hL1 : Lt 27 y1.1 := fun k hk => hLy k (by
      rw [hye]
      simp only [DataW.weights, Tryz.underlying29]
      simp only [List.map_cons, List.map_nil, DataW.weightsEach, List.mem_append]
      exact .inr (.inl hk))
    obtain ⟨rc, code, cc, rfl, hcl, hN, hfa⟩ := instrs_of h1' hL1
    have c0 := cells?_cell hcs (i := 0) (by omega)
    have c1 := cells?_cell hcs (i := 1) (by omega)
    rw [take_drop_one hp] at c0
    exact ⟨⟨p, code⟩, c0, ⟨rc, cc, c1, hN⟩, hcl, wf64 hw0, hfa⟩) h hL
  rw [bytesPr] at hw
  unfold reachBytes at hw
  refine ⟨ra, l, cap, hv, by omega, ⟨b, o, ha, fun j x hx => ?_⟩, fun p hpm => ?_, fun p hpm => ?_⟩
  · obtain ⟨h1, h2, h3, h4⟩ := hp j x hx
    exact ⟨lt_of_cell h1, h1, h2, Nat.le_trans h3 (by unfold maxLen; decide)⟩
  · obtain ⟨j, hj⟩ := List.getElem?_of_mem hpm
    exact (hp j p hj).2.2.1
  · obtain ⟨j, hj⟩ := List.getElem?_of_mem hpm
    exact (hp j p hj).2.2.2
end Go.Proofs.YtnblieohdngmiabGreatDoor
