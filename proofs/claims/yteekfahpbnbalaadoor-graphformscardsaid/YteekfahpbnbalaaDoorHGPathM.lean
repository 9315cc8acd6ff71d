/- Who is ahead of whom: plain mathematics. -/
import Derived.Test.YteekfahpbnbalaaDoorHGLeast
namespace Go.Proofs.YteekfahpbnbalaaDoor

theorem snoc_ind {α : Type} {P : List α → Prop} (h0 : P []) (h1 : ∀ l x, P l → P (l ++ [x])) (l : List α) : P l := by
  have h : ∀ m : List α, P m.reverse := fun m => by
    induction m with
    | nil => exact h0
    | cons x m ih => rw [List.reverse_cons]; exact h1 _ _ ih
  have := h l.reverse
  rwa [List.reverse_reverse] at this
theorem ahead_not {c : Nat} : ∀ (r : St) , (∀ q, (c, q) ∉ r) → aheadM r c = -2 := by
  refine snoc_ind (fun _ => rfl) (fun l p ih => ?_)
  · intro h
    obtain ⟨d, q⟩ := p
    rw [ahead_snoc, if_neg (fun e => h q (by rw [← e]; simp))]
    exact ih (fun q' hq => h q' (List.mem_append_left _ hq))
theorem ahead_in {n c : Nat} {q : Int} : ∀ (r : St), OkS n r → (c, q) ∈ r → aheadM r c = q := by
  refine snoc_ind (fun _ h => by cases h) (fun l p ih => ?_)
  · intro hok h
    obtain ⟨d, q'⟩ := p
    have hnd := hok.nd
    rw [List.map_append, List.nodup_append] at hnd
    rw [ahead_snoc]
    rcases List.mem_append.1 h with h | h
    · have : d ≠ c := fun e => hnd.2.2 c (List.mem_map_of_mem (f := (·.1)) h) d (by simp) e.symm
      rw [if_neg this]
      exact ih ⟨hnd.1, fun p hp => hok.lt p (List.mem_append_left _ hp)⟩ h
    · have e : (c, q) = (d, q') := by simpa using h
      cases e
      rw [if_pos rfl]
/-- Each cell that is met was named by a root or by one that was met ahead of it. -/
def Good (r : St) : Prop := ∀ (i : Nat) (c : Nat) (q : Int), r[i]? = some (c, q) → q = -1 ∨ ∃ (j d : Nat) (q' : Int), j < i ∧ r[j]? = some (d, q') ∧ q = d
theorem Good.nil : Good [] := fun i c q h => by simp at h
theorem Good.look {r : St} {x q : Int} (h : Good r) (hq : q = -1 ∨ ∃ (j d : Nat) (q' : Int), r[j]? = some (d, q') ∧ q = d) : Good (lookM r x q) := by
  unfold lookM
  split
  · exact h
  · split
    · exact h
    · rename_i c _ _
      intro i c' q' hi
      by_cases hl : i < r.length
      · rw [List.getElem?_append_left hl] at hi
        rcases h i c' q' hi with h1 | ⟨j, d, q2, hj, hr, he⟩
        · exact .inl h1
        · exact .inr ⟨j, d, q2, hj, by rw [List.getElem?_append_left (by omega)]; exact hr, he⟩
      · rw [List.getElem?_append_right (by omega)] at hi
        have h0 : i - r.length = 0 := by
          have := (List.getElem?_eq_some_iff.1 hi).1
          simp at this; omega
        rw [h0] at hi
        have e : (c, q) = (c', q') := by simpa using hi
        cases e
        rcases hq with h1 | ⟨j, d, q2, hr, he⟩
        · exact .inl h1
        · have hj := (List.getElem?_eq_some_iff.1 hr).1
          exact .inr ⟨j, d, q2, by omega, by rw [List.getElem?_append_left hj]; exact hr, he⟩
theorem Good.roots : ∀ (l : List Int) {r : St}, Good r → Good (rootsM l r)
  | [], _, h => h
  | x :: l, r, h => by
    show Good (rootsM l (lookM r x (-1)))
    exact Good.roots l (h.look (.inl rfl))
theorem look_at {r : St} {x q : Int} {a : Nat} {p : Nat × Int} (h : r[a]? = some p) : (lookM r x q)[a]? = some p := by
  unfold lookM
  split
  · exact h
  · split
    · exact h
    · rw [List.getElem?_append_left (List.getElem?_eq_some_iff.1 h).1]; exact h
theorem Good.go {h : List Cl} {s : Bool} : ∀ (f a : Nat) {r : St}, Good r → Good (goM h s f a r)
  | 0, _, _, hr => hr
  | f + 1, a, r, hr => by
    unfold goM
    split
    · exact hr
    · rename_i p hp
      split
      · exact hr
      · rename_i x hx
        refine Good.go f (a + 1) ?_
        split
        · exact hr
        · obtain ⟨d, q⟩ := p
          refine (hr.look (.inr ⟨a, d, q, hp, rfl⟩)).look (.inr ⟨a, d, q, look_at hp, rfl⟩)
theorem walk_good (h : List Cl) (s : Bool) (l : List Int) : Good (walkM h s l) := Good.go _ _ (Good.roots l Good.nil)
/-- The cells from one on, each with the one ahead of it. -/
def chain (r : St) : Nat → Int → List Int
  | 0, _ => []
  | f + 1, c => if c = -1 then [] else c :: chain r f (aheadM r c.toNat)
theorem chain_more {n : Nat} {r : St} (hg : Good r) (hok : OkS n r) : ∀ (f i c : Nat) (q : Int), r[i]? = some (c, q) → i < f → chain r f c = chain r (i + 1) c
  | 0, _, _, _, _, h => by omega
  | f + 1, i, c, q, hi, hf => by
    have e : ∀ k, chain r (k + 1) (c : Int) = (c : Int) :: chain r k (aheadM r c) := fun k => by
      show (if (c : Int) = -1 then _ else _) = _
      rw [if_neg (by omega)]; rfl
    rw [e, e, ahead_in r hok (List.mem_of_getElem? hi)]
    rcases hg i c q hi with rfl | ⟨j, d, q', hj, hr, rfl⟩
    · cases f <;> cases i <;> rfl
    · rw [chain_more hg hok f j d q' hr (by omega), chain_more hg hok i j d q' hr hj]
end Go.Proofs.YteekfahpbnbalaaDoor
