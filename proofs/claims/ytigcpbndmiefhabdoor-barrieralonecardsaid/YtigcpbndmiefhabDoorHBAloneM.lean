/- What is shaded of one word and of two: mathematics. -/
import Derived.Test.YtigcpbndmiefhabDoorHBKnown
namespace Go.Proofs.YtigcpbndmiefhabDoor
open Go.RowKit

/-- The cell that a word has to be shaded of. -/
def tgt (h : List Cl) (x : Int) : Option Nat := match refN x with
  | none => none
  | some c => match h[c]? with
    | none => none
    | some y => if whiteB y then some c else none
theorem step_tgt (h : List Cl) (out : List Int) (x : Int) : shStep h out x = match tgt h x with | none => out | some c => if out.any (fun z => z == (c : Int)) then out else out ++ [(c : Int)] := by
  unfold shStep tgt
  cases refN x with
  | none => rfl
  | some c =>
    dsimp only
    cases h[c]? with
    | none => rfl
    | some y =>
      dsimp only
      cases whiteB y
      · rfl
      · cases e : out.any (fun z => z == (c : Int)) <;> simp [e]
theorem tgt_some {h : List Cl} {x : Int} {c : Nat} (e : tgt h x = some c) : refN x = some c ∧ ∃ y, h[c]? = some y ∧ whiteB y = true := by
  unfold tgt at e
  split at e
  · cases e
  · rename_i c' hc
    split at e
    · cases e
    · rename_i y hy
      split at e
      · rename_i hw
        cases e
        exact ⟨hc, y, hy, hw⟩
      · cases e
/-- What is known of the two rows. -/
structure Sh (h : List Cl) (a b : Int) (L1 L2 : List Int) : Prop where
  l1 : L1.length ≤ 1
  l2 : L2.length ≤ 2
  l12 : L1.length ≤ L2.length
  ne : ∀ x y, L2 = [x, y] → x ≠ y
  no : tgt h a = none → L1 = []
  yes : ∀ c, tgt h a = some c → L1 = [(c : Int)] ∧ ∃ r, L2 = (c : Int) :: r
  mem : ∀ z ∈ L2, ∃ c y, z = ((c : Nat) : Int) ∧ h[c]? = some y ∧ whiteB y = true ∧ (refN a = some c ∨ refN b = some c)
theorem sh_of (h : List Cl) (a b : Int) : Sh h a b (shM h [a]) (shM h [a, b]) := by
  have e1 : shM h [a] = match tgt h a with | none => [] | some c => [(c : Int)] := by
    show shStep h [] a = _
    rw [step_tgt]
    cases tgt h a <;> rfl
  have e2 : shM h [a, b] = match tgt h a, tgt h b with | none, none => [] | some c, none => [(c : Int)] | none, some d => [(d : Int)] | some c, some d => if c = d then [(c : Int)] else [(c : Int), (d : Int)] := by
    show shStep h (shM h [a]) b = _
    rw [e1, step_tgt]
    cases tgt h a with
    | none => cases tgt h b <;> rfl
    | some c =>
      cases tgt h b with
      | none => rfl
      | some d =>
        dsimp only
        by_cases e : c = d
        · subst e; simp
        · have : ¬ (c : Int) = (d : Int) := by omega
          simp [e, this]
  rw [e1, e2]
  cases ha : tgt h a with
  | none =>
    cases hb : tgt h b with
    | none => exact ⟨by simp, by simp, by simp, fun _ _ h => (by cases h), fun _ => rfl, fun _ hc => (by rw [ha] at hc; cases hc), fun _ h => (by cases h)⟩
    | some d =>
      obtain ⟨q1, y, q2, q3⟩ := tgt_some hb
      exact ⟨by simp, by simp, by simp, fun _ _ h => (by cases h), fun _ => rfl, fun _ hc => (by rw [ha] at hc; cases hc), fun z hz => ⟨d, y, by simpa using hz, q2, q3, .inr q1⟩⟩
  | some c =>
    obtain ⟨p1, x, p2, p3⟩ := tgt_some ha
    cases hb : tgt h b with
    | none => exact ⟨by simp, by simp, by simp, fun _ _ h => (by cases h), fun hc => (by rw [ha] at hc; cases hc), fun _ hc => (by rw [ha] at hc; cases hc; exact ⟨rfl, _, rfl⟩), fun z hz => ⟨c, x, by simpa using hz, p2, p3, .inl p1⟩⟩
    | some d =>
      obtain ⟨q1, y, q2, q3⟩ := tgt_some hb
      by_cases e : c = d
      · simp only [e, if_true]
        subst e
        exact ⟨by simp, by simp, by simp, fun _ _ h => (by cases h), fun hc => (by rw [ha] at hc; cases hc), fun _ hc => (by rw [ha] at hc; cases hc; exact ⟨rfl, _, rfl⟩), fun z hz => ⟨c, x, by simpa using hz, p2, p3, .inl p1⟩⟩
      · simp only [e, if_false]
        refine ⟨by simp, by simp, by simp, fun _ _ h => (by cases h; omega), fun hc => (by rw [ha] at hc; cases hc), fun _ hc => (by rw [ha] at hc; cases hc; exact ⟨rfl, _, rfl⟩), fun z hz => ?_⟩
        simp only [List.mem_cons, List.not_mem_nil, or_false] at hz
        rcases hz with rfl | rfl
        · exact ⟨c, x, rfl, p2, p3, .inl p1⟩
        · exact ⟨d, y, rfl, q2, q3, .inr q1⟩
theorem sh_off (h : List Cl) (a b : Int) (hh : tgt h a = none) : Sh h a b [] [] := ⟨by simp, by simp, by simp, fun _ _ h => (by cases h), fun _ => rfl, fun c hc => (by rw [hh] at hc; cases hc), fun _ h => (by cases h)⟩
end Go.Proofs.YtigcpbndmiefhabDoor
