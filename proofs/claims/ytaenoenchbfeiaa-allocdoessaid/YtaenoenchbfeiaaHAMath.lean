/- Free cells and who waits, as mathematics. -/
import Derived.Test.YtaenoenchbfeiaaHABase
namespace Go.Proofs.Ytaenoenchbfeiaa
open Go.RowKit

/-- Of each cell who has it: 0 nobody, -1 it is out, else the thread to which it is given; who waits. -/
structure Al where
  who : List Int
  row : List (Int × Int)
def plc (x : Int) : Int := if x = 0 then 0 else if x = -1 then 1 else 2
def frs (k : Nat) : List Int → List Int
  | [] => []
  | x :: l => if x = 0 then (k : Int) :: frs (k + 1) l else frs (k + 1) l
def fnd (x : Int) : List Int → Option Nat
  | [] => none
  | y :: l => if y = x then some 0 else (fnd x l).map (· + 1)
def waitsB (A : Al) (t : Int) : Bool := A.row.any (fun p => p.1 == t)
def rowCells : List (Int × Int) → List Value
  | [] => []
  | p :: l => .int .i64 p.1 :: .int .i64 p.2 :: rowCells l
/-- What can be. -/
structure Inv (A : Al) : Prop where
  len : A.who.length ≤ 4096
  val : ∀ x ∈ A.who, -1 ≤ x ∧ x ≤ 8
  one : ∀ (i j : Nat) (t : Int), 1 ≤ t → A.who[i]? = some t → A.who[j]? = some t → i = j
  thr : ∀ p ∈ A.row, 1 ≤ p.1 ∧ p.1 ≤ 8
  nod : A.row.Pairwise (fun p q => p.1 ≠ q.1)
  apart : ∀ p ∈ A.row, fnd p.1 A.who = none

theorem fnd_some {x : Int} : ∀ {l : List Int} {c : Nat}, fnd x l = some c → l[c]? = some x ∧ ∀ j, j < c → l[j]? ≠ some x
  | [], c, h => by cases h
  | y :: l, c, h => by
    unfold fnd at h
    split at h
    · rename_i e
      cases h
      exact ⟨by simp [e], fun j hj => absurd hj (by omega)⟩
    · rename_i e
      obtain ⟨d, hd, rfl⟩ := Option.map_eq_some_iff.1 h
      obtain ⟨h1, h2⟩ := fnd_some hd
      refine ⟨by simpa using h1, fun j hj => ?_⟩
      cases j with
      | zero => simpa using e
      | succ j => simpa using h2 j (by omega)
theorem fnd_none {x : Int} : ∀ {l : List Int}, fnd x l = none ↔ x ∉ l
  | [] => by simp [fnd]
  | y :: l => by
    unfold fnd
    split
    · rename_i e
      simp [e]
    · rename_i e
      rw [Option.map_eq_none_iff, fnd_none]
      simp only [List.mem_cons, not_or]
      exact ⟨fun h => ⟨fun e' => e e'.symm, h⟩, fun h => h.2⟩
theorem fnd_at {x : Int} {l : List Int} {c : Nat} (h : l[c]? = some x) (hn : ∀ j, j < c → l[j]? ≠ some x) : fnd x l = some c := by
  cases h' : fnd x l with
  | none => exact absurd (List.mem_of_getElem? h) (fnd_none.1 h')
  | some d =>
    obtain ⟨h1, h2⟩ := fnd_some h'
    rcases Nat.lt_trichotomy c d with hl | hl | hl
    · exact absurd h (h2 c hl)
    · rw [hl]
    · exact absurd h1 (hn d hl)
theorem frs_len (k : Nat) (l : List Int) : (frs k l).length ≤ l.length := by
  induction l generalizing k with
  | nil => exact Nat.le_refl _
  | cons x l ih =>
    have := ih (k + 1)
    unfold frs
    split <;> simp <;> omega
theorem frs_mem {x : Int} : ∀ {l : List Int} {k : Nat}, x ∈ frs k l ↔ ∃ c : Nat, x = ((k + c : Nat) : Int) ∧ l[c]? = some 0
  | [], k => by simp [frs]
  | y :: l, k => by
    unfold frs
    have ih := frs_mem (x := x) (l := l) (k := k + 1)
    have e2 : (∃ c : Nat, x = ((k + c : Nat) : Int) ∧ (y :: l)[c]? = some 0) ↔ (x = (k : Int) ∧ y = 0) ∨ ∃ c : Nat, x = ((k + 1 + c : Nat) : Int) ∧ l[c]? = some 0 := by
      constructor
      · rintro ⟨c, h1, h2⟩
        cases c with
        | zero => left; exact ⟨by simpa using h1, by simpa using h2⟩
        | succ c => right; exact ⟨c, by rw [h1]; congr 1; omega, by simpa using h2⟩
      · rintro (⟨h1, h2⟩ | ⟨c, h1, h2⟩)
        · exact ⟨0, by simpa using h1, by simpa using h2⟩
        · exact ⟨c + 1, by rw [h1]; congr 1; omega, by simpa using h2⟩
    rw [e2]
    split
    · rename_i e
      rw [List.mem_cons, ih]
      simp [e]
    · rename_i e
      rw [ih]
      simp [e]
theorem frs_sorted : ∀ (l : List Int) (k : Nat), (frs k l).Pairwise (· < ·)
  | [], k => List.Pairwise.nil
  | y :: l, k => by
    unfold frs
    split
    · refine List.Pairwise.cons (fun x hx => ?_) (frs_sorted l (k + 1))
      obtain ⟨c, h, _⟩ := frs_mem.1 hx
      omega
    · exact frs_sorted l (k + 1)
/-- The least free one, taken. -/
theorem frs_take : ∀ (l : List Int) (k : Nat), match fnd 0 l with
    | none => frs k l = []
    | some c => frs k l = ((k + c : Nat) : Int) :: frs k (l.set c (-1))
  | [], k => rfl
  | y :: l, k => by
    have ih := frs_take l (k + 1)
    unfold fnd
    split
    · rename_i e
      split at e
      · cases e
      · rename_i e'
        rw [Option.map_eq_none_iff] at e
        rw [e] at ih
        unfold frs
        rw [if_neg e']
        exact ih
    · rename_i c e
      split at e
      · rename_i e'
        cases e
        rw [List.set_cons_zero]
        simp [frs, e']
      · rename_i e'
        obtain ⟨d, hd, rfl⟩ := Option.map_eq_some_iff.1 e
        rw [hd] at ih
        have ih' : frs (k + 1) l = ((k + 1 + d : Nat) : Int) :: frs (k + 1) (l.set d (-1)) := ih
        rw [List.set_cons_succ]
        simp only [frs, if_neg e']
        rw [ih']
        congr 2
        omega
/-- One that comes back, laid where its number belongs. -/
theorem frs_back : ∀ (l : List Int) (k c : Nat), l[c]? = some (-1) →
    frs k (l.set c 0) = (frs k l).take ((frs k l).countP (· < ((k + c : Nat) : Int))) ++ ((k + c : Nat) : Int) :: (frs k l).drop ((frs k l).countP (· < ((k + c : Nat) : Int)))
  | [], k, c, h => by simp at h
  | y :: l, k, 0, h => by
    have e : y = -1 := by simpa using h
    subst e
    have h0 : (frs (k + 1) l).countP (· < ((k + 0 : Nat) : Int)) = 0 := by
      rw [List.countP_eq_zero]
      intro x hx
      obtain ⟨c, h, _⟩ := frs_mem.1 hx
      simp; omega
    rw [List.set_cons_zero]
    have e1 : frs k (-1 :: l) = frs (k + 1) l := by simp [frs]
    rw [e1, h0]
    simp [frs]
  | y :: l, k, c + 1, h => by
    have ih := frs_back l (k + 1) c (by simpa using h)
    rw [show k + 1 + c = k + (c + 1) by omega] at ih
    rw [List.set_cons_succ]
    by_cases e : y = 0
    · simp only [frs, if_pos e]
      rw [ih]
      rw [List.countP_cons_of_pos (by simp; omega), List.take_succ_cons, List.drop_succ_cons]
      rfl
    · simp only [frs, if_neg e]
      exact ih
theorem rowCells_len (l : List (Int × Int)) : (rowCells l).length = l.length * 2 := by
  induction l with
  | nil => rfl
  | cons p l ih => simp only [rowCells, List.length_cons, ih]; omega
theorem rowCells_app (l m : List (Int × Int)) : rowCells (l ++ m) = rowCells l ++ rowCells m := by
  induction l with
  | nil => rfl
  | cons p l ih => simp [rowCells, ih]
theorem rowCells_one (l : List (Int × Int)) : ∀ u ∈ rowCells l, u.oneCell' = true := by
  induction l with
  | nil => intro u hu; cases hu
  | cons p l ih =>
    intro u hu
    simp only [rowCells, List.mem_cons] at hu
    rcases hu with rfl | rfl | hu
    · rfl
    · rfl
    · exact ih u hu
theorem rowCells_at : ∀ {l : List (Int × Int)} {j : Nat} {p : Int × Int}, l[j]? = some p → (rowCells l)[j * 2]? = some (.int .i64 p.1) ∧ (rowCells l)[j * 2 + 1]? = some (.int .i64 p.2)
  | [], j, p, h => by simp at h
  | q :: l, 0, p, h => by
    have e : q = p := by simpa using h
    subst e
    exact ⟨rfl, rfl⟩
  | q :: l, j + 1, p, h => by
    have ih := rowCells_at (l := l) (j := j) (p := p) (by simpa using h)
    rw [show (j + 1) * 2 = j * 2 + 1 + 1 by omega]
    simpa [rowCells] using ih
theorem rowCells_drop (l : List (Int × Int)) (j : Nat) : rowCells (l.drop j) = (rowCells l).drop (j * 2) := by
  induction l generalizing j with
  | nil => simp [rowCells]
  | cons p l ih =>
    cases j with
    | zero => rfl
    | succ j =>
      rw [List.drop_succ_cons, ih, show (j + 1) * 2 = j * 2 + 1 + 1 by omega]
      rfl
end Go.Proofs.Ytaenoenchbfeiaa
