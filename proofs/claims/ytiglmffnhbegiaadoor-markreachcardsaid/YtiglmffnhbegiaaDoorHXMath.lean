/- Marking as mathematics. -/
import Derived.Test.YtiglmffnhbegiaaDoorHXWalk
import Derived.Test.YtiglmffnhbegiaaDoorHRMade
namespace Go.Proofs.YtiglmffnhbegiaaDoor
open Go.RowKit

/-- Cells that stand still, all of them white. -/
def Pl (p : List Cl) : Prop := ∀ (i : Nat) (x : Cl), p[i]? = some x → (x = c0) ∨ (1 ≤ x.k ∧ x.k ≤ 3 ∧ x.c = 0 ∧ fitsW p.length x.a = true ∧ fitsW p.length x.b = true)
def col (R : List Int) (n i : Nat) : Int := if (i : Int) ∈ R.take n then 2 else if (i : Int) ∈ R then 1 else 0
def colH (p : List Cl) (R : List Int) (n : Nat) : List Cl := p.mapIdx (fun i x => ⟨x.k, col R n i, x.a, x.b⟩)
theorem colH_len (p : List Cl) (R : List Int) (n : Nat) : (colH p R n).length = p.length := by simp [colH]
theorem colH_at (p : List Cl) (R : List Int) (n i : Nat) : (colH p R n)[i]? = (p[i]?).map (fun x => ⟨x.k, col R n i, x.a, x.b⟩) := by simp [colH]
theorem getC_col (p : List Cl) (R : List Int) (n : Nat) (i : Int) : getC (colH p R n) i = (getC p i).map (fun x => ⟨x.k, col R n i.toNat, x.a, x.b⟩) := by
  unfold getC
  split
  · exact colH_at p R n i.toNat
  · rfl
/-- A cell that is there and not free. -/
def Ud (p : List Cl) (i : Int) : Prop := ∃ (k : Nat) (x : Cl), i = k ∧ p[k]? = some x ∧ x.k ≠ 0
theorem ud_get {p : List Cl} {i : Int} : Ud p i ↔ ∃ x, getC p i = some x ∧ x.k ≠ 0 ∧ 0 ≤ i := by
  unfold getC
  constructor
  · rintro ⟨k, x, rfl, hx, h0⟩
    exact ⟨x, by rw [if_pos (by omega)]; simpa using hx, h0, by omega⟩
  · rintro ⟨x, hx, h0, hi⟩
    rw [if_pos hi] at hx
    exact ⟨i.toNat, x, by omega, hx, h0⟩
structure MI (p : List Cl) (R : List Int) (n : Nat) : Prop where
  nd : R.Nodup
  ud : ∀ c ∈ R, Ud p c
  le : n ≤ R.length
theorem col_zero {R : List Int} {n i : Nat} : col R n i = 0 ↔ (i : Int) ∉ R := by
  unfold col
  constructor
  · intro h hm
    split at h
    · cases h
    · first
      | (rw [if_pos hm] at h; cases h)
      | cases h
  · intro h
    rw [if_neg (fun e => h (List.mem_of_mem_take e)), if_neg h]
theorem turnB_col {p : List Cl} {R : List Int} {n : Nat} {i : Int} : turnB (colH p R n) i 0 1 = true ↔ Ud p i ∧ i ∉ R := by
  unfold turnB
  rw [getC_col]
  cases hg : getC p i with
  | none =>
    simp
    intro h
    obtain ⟨x, hx, _⟩ := ud_get.1 h
    rw [hg] at hx; cases hx
  | some x =>
    have hi : 0 ≤ i := by
      unfold getC at hg
      split at hg
      · assumption
      · cases hg
    have e : ((i.toNat : Nat) : Int) = i := by omega
    have cz := col_zero (R := R) (n := n) (i := i.toNat)
    rw [e] at cz
    simp only [Option.map_some, decide_true, Bool.true_and, Bool.and_eq_true, Bool.not_eq_true', decide_eq_false_iff_not, decide_eq_true_eq, show ((1 : Int) ≤ 2) = True by simp]
    constructor
    · rintro ⟨h0, h1⟩
      exact ⟨ud_get.2 ⟨x, hg, h0, hi⟩, cz.1 h1⟩
    · rintro ⟨h0, h1⟩
      obtain ⟨y, hy, hy0, _⟩ := ud_get.1 h0
      rw [hg] at hy
      cases hy
      exact ⟨hy0, cz.2 h1⟩
theorem col_snoc {R : List Int} {n i k : Nat} (hn : n ≤ R.length) (hk : (k : Int) ∉ R) : col (R ++ [(k : Int)]) n i = if i = k then 1 else col R n i := by
  unfold col
  rw [List.take_append_of_le_length hn]
  by_cases e : i = k
  · subst e
    rw [if_pos rfl, if_neg (fun h => hk (List.mem_of_mem_take h)), if_pos (by simp)]
  · rw [if_neg e]
    have : ((i : Int) ∈ R ++ [(k : Int)]) ↔ (i : Int) ∈ R := by
      simp
      intro h
      omega
    simp only [this]
theorem turnH_col {p : List Cl} {R : List Int} {n : Nat} {i : Int} (hn : n ≤ R.length) : turnH (colH p R n) i 0 1 = colH p (R ++ if turnB (colH p R n) i 0 1 = true then [i] else []) n := by
  by_cases hb : turnB (colH p R n) i 0 1 = true
  · rw [if_pos hb]
    obtain ⟨hu, hR⟩ := turnB_col.1 hb
    obtain ⟨k, x, rfl, hx, h0⟩ := hu
    have hg : getC (colH p R n) k = some ⟨x.k, col R n k, x.a, x.b⟩ := by
      rw [getC_col]
      have : getC p k = some x := by unfold getC; rw [if_pos (by omega)]; simpa using hx
      rw [this]; simp
    unfold turnH
    rw [hg]
    dsimp only
    rw [if_pos hb]
    apply List.ext_getElem?
    intro j
    rw [colH_at]
    have hkl : k < p.length := (List.getElem?_eq_some_iff.1 hx).1
    by_cases e : k = j
    · subst e
      rw [show ((k : Int)).toNat = k by omega, List.getElem?_set_self (by rw [colH_len]; exact hkl), hx]
      simp only [Option.map_some]
      rw [col_snoc hn hR, if_pos rfl]
    · rw [show ((k : Int)).toNat = k by omega, List.getElem?_set_ne e, colH_at]
      cases p[j]? with
      | none => rfl
      | some y =>
        simp only [Option.map_some]
        rw [col_snoc hn hR, if_neg (fun e' => e e'.symm)]
  · rw [if_neg hb, List.append_nil]
    unfold turnH
    split
    · rw [if_neg hb]
    · rfl
/-- What shading a list leaves. -/
theorem lay_col {p : List Cl} : ∀ (l : List Int) {R : List Int} {n : Nat}, MI p R n → layH (colH p R n) l = colH p (R ++ layL (colH p R n) l) n ∧ MI p (R ++ layL (colH p R n) l) n ∧ (∀ i ∈ l, Ud p i → i ∈ R ++ layL (colH p R n) l) ∧ ∀ i ∈ layL (colH p R n) l, i ∈ l
  | [], R, n, h => by
    show colH p R n = colH p (R ++ []) n ∧ MI p (R ++ []) n ∧ _ ∧ _
    rw [List.append_nil]
    exact ⟨rfl, h, fun i hi => (by cases hi), fun i hi => (by cases hi)⟩
  | i :: l, R, n, h => by
    have e1 : layH (colH p R n) (i :: l) = layH (turnH (colH p R n) i 0 1) l := rfl
    have e2 : layL (colH p R n) (i :: l) = (if turnB (colH p R n) i 0 1 = true then [i] else []) ++ layL (turnH (colH p R n) i 0 1) l := rfl
    rw [e1, e2, turnH_col h.le, ← List.append_assoc]
    have h1 : MI p (R ++ if turnB (colH p R n) i 0 1 = true then [i] else []) n := by
      by_cases hb : turnB (colH p R n) i 0 1 = true
      · rw [if_pos hb]
        obtain ⟨hu, hR⟩ := turnB_col.1 hb
        refine ⟨?_, fun c hc => ?_, by have := h.le; simp; omega⟩
        · rw [List.nodup_append]
          exact ⟨h.nd, by simp, fun a ha b hb' e => by simp at hb'; subst hb'; subst e; exact hR ha⟩
        · rcases List.mem_append.1 hc with hc | hc
          · exact h.ud c hc
          · simp at hc; subst hc; exact hu
      · rw [if_neg hb, List.append_nil]; exact h
    obtain ⟨q1, q2, q3, q4⟩ := lay_col l h1
    refine ⟨q1, q2, fun j hj hu => ?_, fun j hj => ?_⟩
    · rcases List.mem_cons.1 hj with rfl | hj
      · refine List.mem_append_left _ ?_
        by_cases hR : j ∈ R
        · exact List.mem_append_left _ hR
        · rw [if_pos (turnB_col.2 ⟨hu, hR⟩)]; simp
      · exact q3 j hj hu
    · rcases List.mem_append.1 hj with hj | hj
      · split at hj
        · simp at hj; subst hj; simp
        · cases hj
      · exact List.mem_cons_of_mem _ (q4 j hj)
/-- The first grey one becomes black. -/
theorem black_col {p : List Cl} {R : List Int} {n : Nat} {c : Int} (h : MI p R n) (hc : R[n]? = some c) : turnH (colH p R n) c 1 2 = colH p R (n + 1) := by
  have hm : c ∈ R := List.mem_of_getElem? hc
  obtain ⟨k, x, rfl, hx, h0⟩ := h.ud c hm
  have hnl := (List.getElem?_eq_some_iff.1 hc).1
  have hnt : (k : Int) ∉ R.take n := fun e => by
    obtain ⟨j, hj⟩ := List.getElem?_of_mem e
    rw [List.getElem?_take] at hj
    split at hj
    · rename_i hjn
      have hjl : j < R.length := (List.getElem?_eq_some_iff.1 hj).1
      have := (List.getElem?_inj hjl h.nd).1 (hj.trans hc.symm)
      omega
    · cases hj
  have ck : col R n k = 1 := by unfold col; rw [if_neg hnt, if_pos hm]
  have cs : ∀ i, col R (n + 1) i = if i = k then 2 else col R n i := fun i => by
    unfold col
    rw [List.take_add_one, hc]
    by_cases e : i = k
    · subst e; rw [if_pos rfl, if_pos (by simp)]
    · rw [if_neg e]
      have : ((i : Int) ∈ R.take n ++ (some (k : Int)).toList) ↔ (i : Int) ∈ R.take n := by
        simp
        intro h
        omega
      simp only [this]
  have hg : getC (colH p R n) k = some ⟨x.k, 1, x.a, x.b⟩ := by
    rw [getC_col]
    have : getC p k = some x := by unfold getC; rw [if_pos (by omega)]; simpa using hx
    rw [this]; simp [ck]
  have hb : turnB (colH p R n) k 1 2 = true := by unfold turnB; rw [hg]; simp [h0]
  unfold turnH
  rw [hg]
  dsimp only
  rw [if_pos hb]
  apply List.ext_getElem?
  intro j
  rw [colH_at]
  have hkl : k < p.length := (List.getElem?_eq_some_iff.1 hx).1
  by_cases e : k = j
  · subst e
    rw [show ((k : Int)).toNat = k by omega, List.getElem?_set_self (by rw [colH_len]; exact hkl), hx]
    simp only [Option.map_some]
    rw [cs, if_pos rfl]
  · rw [show ((k : Int)).toNat = k by omega, List.getElem?_set_ne e, colH_at]
    cases p[j]? with
    | none => rfl
    | some y =>
      simp only [Option.map_some]
      rw [cs, if_neg (fun e' => e e'.symm)]
end Go.Proofs.YtiglmffnhbegiaaDoor
