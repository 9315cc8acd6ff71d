/- What is reached is closed. -/
import Derived.Test.YtiglmffnhbegiaaDoorHGReach
namespace Go.Proofs.YtiglmffnhbegiaaDoor
open Go.RowKit

theorem metB_map {r : St} {c : Nat} : metB r c = true ↔ c ∈ r.map (·.1) := by
  rw [metB_iff]
  constructor
  · rintro ⟨q, h⟩; exact List.mem_map_of_mem (f := (·.1)) h
  · intro h
    obtain ⟨⟨a, q⟩, hp, rfl⟩ := List.mem_map.1 h
    exact ⟨q, hp⟩
/-- What is met stays met. -/
theorem met_look {r : St} {x q : Int} {d : Nat} (h : metB r d = true) : metB (lookM r x q) d = true := by
  unfold lookM
  split
  · exact h
  · split
    · exact h
    · obtain ⟨q', hq⟩ := metB_iff.1 h
      exact metB_iff.2 ⟨q', List.mem_append_left _ hq⟩
theorem met_new {r : St} {x q : Int} {d : Nat} (h : refN x = some d) : metB (lookM r x q) d = true := by
  unfold lookM
  rw [h]
  show metB (if metB r d then r else r ++ [(d, q)]) d = true
  split
  · rename_i h1; exact h1
  · exact metB_iff.2 ⟨q, by simp⟩
def Cls (h : List Cl) (r : St) (a : Nat) : Prop := ∀ (j : Nat) (p : Nat × Int) (x : Cl), j < a → r[j]? = some p → h[p.1]? = some x → x.k ≠ 0 → ∀ d, (refN x.a = some d ∨ refN x.b = some d) → metB r d = true
theorem met_round {h : List Cl} {a d : Nat} {r : St} (hm : metB r d = true) : metB (roundM h false a r) d = true := by
  unfold roundM
  split
  · exact hm
  · split
    · exact hm
    · split
      · exact hm
      · exact met_look (met_look hm)
theorem look_at {r : St} {x q : Int} {a : Nat} {p : Nat × Int} (h : r[a]? = some p) : (lookM r x q)[a]? = some p := by
  unfold lookM
  split
  · exact h
  · split
    · exact h
    · rw [List.getElem?_append_left (List.getElem?_eq_some_iff.1 h).1]; exact h
theorem round_at {h : List Cl} {a j : Nat} {r : St} {p : Nat × Int} (hp : r[j]? = some p) : (roundM h false a r)[j]? = some p := by
  unfold roundM
  split
  · exact hp
  · split
    · exact hp
    · split
      · exact hp
      · exact look_at (look_at hp)
theorem round_len {h : List Cl} {a : Nat} {r : St} : r.length ≤ (roundM h false a r).length := by
  rcases Nat.eq_zero_or_pos r.length with h0 | h0
  · omega
  · have : r[r.length - 1]? = some r[r.length - 1] := List.getElem?_eq_getElem (by omega)
    have := (List.getElem?_eq_some_iff.1 (round_at (h := h) (a := a) this)).1
    omega
theorem go_closed {h : List Cl} (hh : ∀ x ∈ h, okCl h.length x = true) : ∀ (f a : Nat) {r : St}, OkS h.length r → h.length ≤ a + f → Cls h r a → Cls h (goM h false f a r) (goM h false f a r).length
  | 0, a, r, hr, hf, hc => fun j p x hj hp => hc j p x (by have := hr.len; have : goM h false 0 a r = r := rfl; rw [this] at hj; omega) hp
  | f + 1, a, r, hr, hf, hc => by
    by_cases ha : a < r.length
    · rw [goM_step hr ha]
      refine go_closed hh f (a + 1) (hr.round hh) (by omega) ?_
      intro j p x hj hp hx hk d hd
      have hjl : j < r.length := by omega
      obtain ⟨p', hp'⟩ : ∃ p', r[j]? = some p' := ⟨_, List.getElem?_eq_getElem hjl⟩
      have e : p' = p := Option.some.inj ((round_at (h := h) (a := a) hp').symm.trans hp)
      subst e
      by_cases hja : j < a
      · exact met_round (hc j p' x hja hp' hx hk d hd)
      · have e : j = a := by omega
        subst e
        unfold roundM
        rw [hp']; dsimp only; rw [hx]; dsimp only
        rw [if_neg hk]
        rcases hd with hd | hd
        · exact met_look (met_new hd)
        · exact met_new hd
    · rw [goM_end (by omega)]
      exact fun j p x hj hp => hc j p x (by omega) hp
theorem met_roots : ∀ (l : List Int) {r : St} {d : Nat}, (metB r d = true ∨ ∃ x ∈ l, refN x = some d) → metB (rootsM l r) d = true
  | [], _, _, h => by
    rcases h with h | ⟨x, hx, _⟩
    · exact h
    · cases hx
  | y :: l, r, d, h => by
    show metB (rootsM l (lookM r y (-1))) d = true
    refine met_roots l ?_
    rcases h with h | ⟨x, hx, hd⟩
    · exact .inl (met_look h)
    · rcases List.mem_cons.1 hx with rfl | hx
      · exact .inl (met_new hd)
      · exact .inr ⟨x, hx, hd⟩
theorem met_go {h : List Cl} (hh : ∀ x ∈ h, okCl h.length x = true) {d : Nat} : ∀ (f a : Nat) {r : St}, OkS h.length r → metB r d = true → metB (goM h false f a r) d = true
  | 0, _, _, _, hm => hm
  | f + 1, a, r, hr, hm => by
    by_cases ha : a < r.length
    · rw [goM_step hr ha]; exact met_go hh f (a + 1) (hr.round hh) (met_round hm)
    · rw [goM_end (by omega)]; exact hm
/-- What is reached is closed. -/
theorem walk_closed {h : List Cl} {l : List Int} (hh : heapB h l = true) : (∀ x ∈ l, ∀ d, refN x = some d → d ∈ (walkM h false l).map (·.1)) ∧ ∀ c ∈ (walkM h false l).map (·.1), ∀ x, h[c]? = some x → x.k ≠ 0 → ∀ d, (refN x.a = some d ∨ refN x.b = some d) → d ∈ (walkM h false l).map (·.1) := by
  obtain ⟨h1, h2⟩ := heap_ok hh
  have o1 : OkS h.length (rootsM l []) := OkS.roots l (OkS.nil _) h2
  constructor
  · intro x hx d hd
    exact metB_map.1 (met_go h1 _ _ o1 (met_roots l (.inr ⟨x, hx, hd⟩)))
  · intro c hc x hx hk d hd
    obtain ⟨p, hp, rfl⟩ := List.mem_map.1 hc
    obtain ⟨j, hj⟩ := List.getElem?_of_mem hp
    exact metB_map.1 (go_closed h1 h.length 0 o1 (by omega) (fun j p x hj => by omega) j p x (List.getElem?_eq_some_iff.1 hj).1 hj hx hk d hd)
end Go.Proofs.YtiglmffnhbegiaaDoor
