/- The document's way to tell whether a view may be: mathematics. -/
import Derived.Test.YtphpkedfcmghmaaDoorHBRefRight
import Derived.Test.YtphpkedfcmghmaaDoorHBMay
namespace Go.Proofs.YtphpkedfcmghmaaDoor
open Go.RowKit

def Good (n : Nat) (l : List Int) (m : Nat → Bool) : Prop := l.Nodup ∧ ∀ c ∈ l, 0 ≤ c ∧ c < (n : Int) ∧ m c.toNat = true
theorem good_cons {n : Nat} {c : Int} {r : List Int} {m : Nat → Bool} : Good n (c :: r) m ↔ (0 ≤ c ∧ c < (n : Int) ∧ m c.toNat = true) ∧ Good n r (fun k => if k = c.toNat then false else m k) := by
  unfold Good
  rw [List.nodup_cons]
  refine ⟨fun ⟨⟨h1, h2⟩, h3⟩ => ⟨h3 c (List.mem_cons_self ..), h2, fun d hd => ?_⟩, fun ⟨h1, h2, h3⟩ => ⟨⟨fun hc => ?_, h2⟩, fun d hd => ?_⟩⟩
  · have hd' := h3 d (List.mem_cons_of_mem _ hd)
    have hc' := h3 c (List.mem_cons_self ..)
    refine ⟨hd'.1, hd'.2.1, ?_⟩
    have : d ≠ c := fun e => h1 (e ▸ hd)
    show (if d.toNat = c.toNat then false else m d.toNat) = true
    rw [if_neg (by omega)]
    exact hd'.2.2
  · have : (if c.toNat = c.toNat then false else m c.toNat) = true := (h3 c hc).2.2
    rw [if_pos rfl] at this
    cases this
  · rcases List.mem_cons.1 hd with e | hd
    · subst e; exact h1
    · have hd' := h3 d hd
      refine ⟨hd'.1, hd'.2.1, ?_⟩
      have h5 : (if d.toNat = c.toNat then false else m d.toNat) = true := hd'.2.2
      split at h5
      · cases h5
      · exact h5
theorem grM_good {n : Nat} : ∀ (l : List Int) (m : Nat → Bool), Good n l m → grM n l m = some (fun k => m k && !l.contains (k : Int))
  | [], m, _ => by
    unfold grM
    congr 1
    funext k
    simp
  | c :: r, m, h => by
    obtain ⟨h1, h2⟩ := good_cons.1 h
    unfold grM
    rw [if_pos h1, grM_good r _ h2]
    congr 1
    funext k
    by_cases e : k = c.toNat
    · have : (k : Int) = c := by omega
      rw [if_pos e]
      simp [this]
    · have : ¬ (k : Int) = c := by omega
      rw [if_neg e]
      simp [this]
theorem grM_not {n : Nat} : ∀ (l : List Int) (m : Nat → Bool), ¬ Good n l m → grM n l m = none
  | [], m, h => absurd ⟨List.nodup_nil, fun _ hc => by cases hc⟩ h
  | c :: r, m, h => by
    unfold grM
    split
    · rename_i h1
      exact grM_not r _ (fun h2 => h (good_cons.2 ⟨h1, h2⟩))
    · rfl
/-- What the document asks of the grey cells. -/
structure GreyD (v : Vw) : Prop where
  nd : v.grey.Nodup
  lt : ∀ c ∈ v.grey, 0 ≤ c ∧ c < (v.h.length : Int)
  eq : ∀ k, k < v.h.length → v.grey.contains (k : Int) = gr0 v.h k
theorem grey_is {v : Vw} : greyOk v = true ↔ GreyD v := by
  constructor
  · intro h
    unfold greyOk at h
    by_cases hg : Good v.h.length v.grey (gr0 v.h)
    · rw [grM_good _ _ hg] at h
      dsimp only at h
      refine ⟨hg.1, fun c hc => ⟨(hg.2 c hc).1, (hg.2 c hc).2.1⟩, fun k hk => ?_⟩
      have h2 : ¬ (List.range v.h.length).any (fun k => gr0 v.h k && !v.grey.contains (k : Int)) = true := by
        intro e; rw [e] at h; cases h
      cases hct : v.grey.contains (k : Int) with
      | true =>
        have := (hg.2 (k : Int) (by simpa using hct)).2.2
        rw [Int.toNat_natCast] at this
        exact this.symm
      | false =>
        cases hg0 : gr0 v.h k with
        | false => rfl
        | true => exact absurd (List.any_eq_true.2 ⟨k, List.mem_range.2 hk, by rw [hg0, hct]; rfl⟩) h2
    · rw [grM_not _ _ hg] at h
      cases h
  · intro h
    have hg : Good v.h.length v.grey (gr0 v.h) := ⟨h.nd, fun c hc => ⟨(h.lt c hc).1, (h.lt c hc).2, by
      have h1 := h.lt c hc
      rw [← h.eq c.toNat (by omega), show ((c.toNat : Nat) : Int) = c by omega]
      simpa using hc⟩⟩
    unfold greyOk
    rw [grM_good _ _ hg]
    dsimp only
    rw [Bool.not_eq_true', List.any_eq_false]
    intro k hk
    rw [h.eq k (List.mem_range.1 hk)]
    cases gr0 v.h k <;> simp
theorem cells_in_h : ∀ (l : List Cl) (i : Nat) {x : Hd}, x ∈ cellsH l i → ∃ y ∈ l, y.k ≠ 0 ∧ x.ws = [y.a, y.b]
  | y :: r, i, x, h => by
    unfold cellsH at h
    split at h
    · obtain ⟨z, hz, h2⟩ := cells_in_h r (i + 1) h
      exact ⟨z, List.mem_cons_of_mem _ hz, h2⟩
    · rename_i hk
      rcases List.mem_cons.1 h with h | h
      · subst h; exact ⟨y, List.mem_cons_self .., hk, rfl⟩
      · obtain ⟨z, hz, h2⟩ := cells_in_h r (i + 1) h
        exact ⟨z, List.mem_cons_of_mem _ hz, h2⟩
theorem globs_in_h : ∀ (l : List Int) (i : Nat) {x : Hd}, x ∈ globsH l i → ∃ y ∈ l, x.ws = [y]
  | y :: r, i, x, h => by
    unfold globsH at h
    rcases List.mem_cons.1 h with h | h
    · subst h; exact ⟨y, List.mem_cons_self .., rfl⟩
    · obtain ⟨z, hz, h2⟩ := globs_in_h r (i + 1) h
      exact ⟨z, List.mem_cons_of_mem _ hz, h2⟩
theorem lanes_in_h : ∀ (l : List Ln) (i : Nat) {x : Hd}, x ∈ lanesH l i → ∃ y ∈ l, x.ws = y.roots
  | y :: r, i, x, h => by
    unfold lanesH at h
    rcases List.mem_cons.1 h with h | h
    · subst h; exact ⟨y, List.mem_cons_self .., rfl⟩
    · obtain ⟨z, hz, h2⟩ := lanes_in_h r (i + 1) h
      exact ⟨z, List.mem_cons_of_mem _ hz, h2⟩
/-- Heads and words, as the document asks for them. -/
theorem words_is {v : Vw} : (v.h.all headB = true ∧ wordsOk v = true) ↔ (rightM v.h v.gl = true ∧ ∀ x ∈ v.lanes, rightM v.h x.roots = true) := by
  have key : ∀ x : Cl, okCl v.h.length x = true ↔ headB x = true ∧ (x.k ≠ 0 → fitsW v.h.length x.a = true ∧ fitsW v.h.length x.b = true) := fun x => by
    unfold okCl headB
    rw [Bool.and_eq_true, Bool.or_eq_true, Bool.and_eq_true (fitsW v.h.length x.a), decide_eq_true_iff]
    constructor
    · rintro ⟨h1, h2⟩
      exact ⟨h1, fun hk => h2.resolve_left hk⟩
    · rintro ⟨h1, h2⟩
      refine ⟨h1, ?_⟩
      by_cases hk : x.k = 0
      · exact .inl hk
      · exact .inr (h2 hk)
  unfold rightM
  constructor
  · rintro ⟨h1, h2⟩
    have hc : v.h.all (okCl v.h.length) = true := List.all_eq_true.2 fun x hx => (key x).2 ⟨List.all_eq_true.1 h1 x hx, fun hk => by
      obtain ⟨j, hj⟩ := List.getElem?_of_mem hx
      exact used_fits h2 hj (by simp [usedB, hk])⟩
    rw [hc, Bool.true_and]
    refine ⟨List.all_eq_true.2 fun w hw => ?_, fun x hx => ?_⟩
    · exact roots_fit h2 (List.mem_append_left _ hw)
    · rw [Bool.true_and]
      exact List.all_eq_true.2 fun w hw => roots_fit h2 (List.mem_append_right _ (List.mem_flatten.2 ⟨x.roots, List.mem_map.2 ⟨x, hx, rfl⟩, hw⟩))
  · rintro ⟨h1, h2⟩
    rw [Bool.and_eq_true] at h1
    have hc := fun x hx => (key x).1 (List.all_eq_true.1 h1.1 x hx)
    refine ⟨List.all_eq_true.2 fun x hx => (hc x hx).1, List.all_eq_true.2 fun x hx => List.all_eq_true.2 fun w hw => ?_⟩
    unfold holdersM at hx
    rcases List.mem_append.1 hx with hx | hx
    · obtain ⟨y, hy, hk, e⟩ := cells_in_h _ _ hx
      rw [e] at hw
      have := (hc y hy).2 hk
      simp only [List.mem_cons, List.not_mem_nil, or_false] at hw
      rcases hw with rfl | rfl
      · exact this.1
      · exact this.2
    · rcases List.mem_append.1 hx with hx | hx
      · obtain ⟨y, hy, e⟩ := globs_in_h _ _ hx
        rw [e, List.mem_singleton] at hw
        rw [hw]
        exact List.all_eq_true.1 h1.2 y hy
      · obtain ⟨y, hy, e⟩ := lanes_in_h _ _ hx
        rw [e] at hw
        have := h2 y hy
        rw [Bool.and_eq_true] at this
        exact List.all_eq_true.1 this.2 w hw
end Go.Proofs.YtphpkedfcmghmaaDoor
