/- Places in a row.; What is walked, when cells are numbered otherwise. -/
import Derived.Test.YtejmoopgfnjaaaaDoorHGForm
/- Places in a row. -/
namespace Go.Proofs.YtejmoopgfnjaaaaDoor

theorem snoc_ind {α : Type} {P : List α → Prop} (h0 : P []) (h1 : ∀ l x, P l → P (l ++ [x])) (l : List α) : P l := by
  have h : ∀ m : List α, P m.reverse := fun m => by
    induction m with
    | nil => exact h0
    | cons x m ih => rw [List.reverse_cons]; exact h1 _ _ ih
  have := h l.reverse
  rwa [List.reverse_reverse] at this
theorem look_at {r : St} {x q : Int} {a : Nat} {p : Nat × Int} (h : r[a]? = some p) : (lookM r x q)[a]? = some p := by
  unfold lookM
  split
  · exact h
  · split
    · exact h
    · rw [List.getElem?_append_left (List.getElem?_eq_some_iff.1 h).1]; exact h
theorem plc_at {c : Nat} : ∀ (r : List Nat), r.Nodup → ∀ i, r[i]? = some c → plcM r c = i := by
  refine snoc_ind (fun _ i h => by simp at h) (fun l x ih hnd i hi => ?_)
  rw [List.nodup_append] at hnd
  rw [plc_snoc]
  by_cases hl : i < l.length
  · rw [List.getElem?_append_left hl] at hi
    rw [if_neg (fun e => hnd.2.2 c (List.mem_of_getElem? hi) x (by simp) e.symm)]
    exact ih hnd.1 i hi
  · rw [List.getElem?_append_right (by omega)] at hi
    have h0 : i - l.length = 0 := by
      have := (List.getElem?_eq_some_iff.1 hi).1
      simp at this; omega
    rw [h0] at hi
    have e : x = c := by simpa using hi
    rw [if_pos e]; omega
end Go.Proofs.YtejmoopgfnjaaaaDoor

/- What is walked, when cells are numbered otherwise. -/
namespace Go.Proofs.YtejmoopgfnjaaaaDoor

theorem goM_fuel {h : List Cl} {s : Bool} (hh : ∀ x ∈ h, okCl h.length x = true) : ∀ (f a : Nat) {r : St}, OkS h.length r → h.length ≤ a + f → ∀ k, goM h s (f + k) a r = goM h s f a r
  | 0, a, r, hr, hf, k => by
    have := hr.len
    rw [goM_end (by omega), goM_end (by omega)]
  | f + 1, a, r, hr, hf, k => by
    by_cases ha : a < r.length
    · rw [show f + 1 + k = (f + k) + 1 by omega, goM_step hr ha, goM_step hr ha]
      exact goM_fuel hh f (a + 1) (hr.round hh) (by omega) k
    · rw [goM_end (by omega), goM_end (by omega)]
/-- A word and the same word where cells have other numbers. -/
def Mv (σ : Nat → Nat) (x x' : Int) : Prop := refN x' = (refN x).map σ ∧ (refN x = none → x' = x)
/-- Two heaps that are the same but for the numbers of the cells in D. -/
structure Iso (h g : List Cl) (l l' : List Int) (σ : Nat → Nat) (D : Nat → Prop) : Prop where
  inj : ∀ c d, D c → D d → σ c = σ d → c = d
  cell : ∀ c, D c → ∃ x x', h[c]? = some x ∧ g[σ c]? = some x' ∧ x'.k = x.k ∧ (x.k ≠ 0 → (Mv σ x.a x'.a ∧ Mv σ x.b x'.b) ∧ (∀ d, refN x.a = some d → D d) ∧ ∀ d, refN x.b = some d → D d)
  len : l'.length = l.length
  root : ∀ (j : Nat) (x : Int), l[j]? = some x → ∃ x', l'[j]? = some x' ∧ Mv σ x x' ∧ ∀ d, refN x = some d → D d
/-- Rows that are met. -/
def RelS (σ : Nat → Nat) (D : Nat → Prop) (r r' : St) : Prop := r'.map (·.1) = (r.map (·.1)).map σ ∧ ∀ p ∈ r, D p.1
theorem metB_map {r : St} {c : Nat} : metB r c = true ↔ c ∈ r.map (·.1) := by
  rw [metB_iff]
  constructor
  · rintro ⟨q, h⟩; exact List.mem_map_of_mem (f := (·.1)) h
  · intro h
    obtain ⟨⟨a, q⟩, hp, rfl⟩ := List.mem_map.1 h
    exact ⟨q, hp⟩
theorem RelS.look {σ : Nat → Nat} {D : Nat → Prop} {r r' : St} (hr : RelS σ D r r') (inj : ∀ c d, D c → D d → σ c = σ d → c = d) {x x' : Int} (hx : Mv σ x x') (hd : ∀ d, refN x = some d → D d) (q q' : Int) : RelS σ D (lookM r x q) (lookM r' x' q') := by
  unfold lookM
  rw [hx.1]
  cases hc : refN x with
  | none => exact hr
  | some c =>
    have hDc := hd c hc
    show RelS σ D (if metB r c then r else r ++ [(c, q)]) (if metB r' (σ c) then r' else r' ++ [(σ c, q')])
    have hm : metB r' (σ c) = metB r c := by
      cases h1 : metB r c
      · rw [Bool.eq_false_iff] at h1 ⊢
        intro h2
        refine h1 (metB_map.2 ?_)
        rw [metB_map, hr.1, List.mem_map] at h2
        obtain ⟨d, hd2, he⟩ := h2
        obtain ⟨p, hp, rfl⟩ := List.mem_map.1 hd2
        rw [← inj _ _ (hr.2 p hp) hDc he]; exact hd2
      · rw [metB_map] at h1 ⊢
        rw [hr.1]; exact List.mem_map_of_mem (f := σ) h1
    rw [hm]
    cases metB r c
    · refine ⟨?_, fun p hp => ?_⟩
      · simp only [Bool.false_eq_true, ite_false, List.map_append, hr.1]; rfl
      · rcases List.mem_append.1 hp with hp | hp
        · exact hr.2 p hp
        · rw [List.mem_singleton.1 hp]; exact hDc
    · exact hr
theorem RelS.get {σ : Nat → Nat} {D : Nat → Prop} {r r' : St} (hr : RelS σ D r r') {a : Nat} {p : Nat × Int} (h : r[a]? = some p) : ∃ q, r'[a]? = some (σ p.1, q) := by
  have h1 : (r'.map (·.1))[a]? = some (σ p.1) := by rw [hr.1, List.getElem?_map, List.getElem?_map, h]; rfl
  rw [List.getElem?_map] at h1
  obtain ⟨⟨c, q⟩, h2, h3⟩ := Option.map_eq_some_iff.1 h1
  exact ⟨q, by rw [h2]; simp only at h3; rw [h3]⟩
theorem RelS.none {σ : Nat → Nat} {D : Nat → Prop} {r r' : St} (hr : RelS σ D r r') {a : Nat} (h : r[a]? = none) : r'[a]? = none := by
  have e : r'.length = r.length := by have := congrArg List.length hr.1; simpa using this
  rw [List.getElem?_eq_none_iff] at h ⊢; omega
theorem Iso.go {h g : List Cl} {l l' : List Int} {σ : Nat → Nat} {D : Nat → Prop} (hi : Iso h g l l' σ D) : ∀ (f a : Nat) {r r' : St}, RelS σ D r r' → RelS σ D (goM h false f a r) (goM g false f a r')
  | 0, _, _, _, hr => hr
  | f + 1, a, r, r', hr => by
    cases ha : r[a]? with
    | none =>
      have e1 : goM h false (f + 1) a r = r := by unfold goM; rw [ha]
      have e2 : goM g false (f + 1) a r' = r' := by unfold goM; rw [hr.none ha]
      rw [e1, e2]; exact hr
    | some p =>
      obtain ⟨q, hq⟩ := hr.get ha
      obtain ⟨x, x', h1, h2, h3, h4⟩ := hi.cell p.1 (hr.2 p (List.mem_of_getElem? ha))
      have e1 : goM h false (f + 1) a r = goM h false f (a + 1) (if x.k = 0 then r else lookM (lookM r x.a p.1) x.b p.1) := by
        rw [goM, ha]; dsimp only; rw [h1]; rfl
      have e2 : goM g false (f + 1) a r' = goM g false f (a + 1) (if x'.k = 0 then r' else lookM (lookM r' x'.a (σ p.1 : Nat)) x'.b (σ p.1 : Nat)) := by
        rw [goM, hq]; dsimp only; rw [h2]; rfl
      rw [e1, e2, h3]
      refine Iso.go hi f (a + 1) ?_
      split
      · exact hr
      · rename_i hk
        obtain ⟨⟨ma, mb⟩, da, db⟩ := h4 hk
        exact (hr.look hi.inj ma da _ _).look hi.inj mb db _ _
theorem RelS.roots {σ : Nat → Nat} {D : Nat → Prop} (inj : ∀ c d, D c → D d → σ c = σ d → c = d) : ∀ (l l' : List Int) {r r' : St}, l'.length = l.length → (∀ (j : Nat) (x : Int), l[j]? = some x → ∃ x', l'[j]? = some x' ∧ Mv σ x x' ∧ ∀ d, refN x = some d → D d) → RelS σ D r r' → RelS σ D (rootsM l r) (rootsM l' r')
  | [], [], _, _, _, _, hr => hr
  | x :: l, x' :: l', r, r', hl, hx, hr => by
    obtain ⟨y, hy, hm, hd⟩ := hx 0 x rfl
    have e : y = x' := by simpa using hy.symm
    subst e
    show RelS σ D (rootsM l (lookM r x (-1))) (rootsM l' (lookM r' y (-1)))
    exact RelS.roots inj l l' (by simpa using hl) (fun j z hz => by simpa using hx (j + 1) z (by simpa using hz)) (hr.look inj hm hd _ _)
theorem Iso.walk {h g : List Cl} {l l' : List Int} {σ : Nat → Nat} {D : Nat → Prop} (hi : Iso h g l l' σ D) (hh : heapB h l = true) (hg : heapB g l' = true) : RelS σ D (walkM h false l) (walkM g false l') := by
  obtain ⟨h1, h2⟩ := heap_ok hh
  obtain ⟨g1, g2⟩ := heap_ok hg
  have o1 : OkS h.length (rootsM l []) := OkS.roots l (OkS.nil _) h2
  have o2 : OkS g.length (rootsM l' []) := OkS.roots l' (OkS.nil _) g2
  have hr := RelS.roots hi.inj l l' (r := []) (r' := []) hi.len hi.root ⟨rfl, fun p hp => by cases hp⟩
  unfold walkM
  have e1 := goM_fuel (s := false) h1 h.length 0 o1 (by omega) g.length
  have e2 := goM_fuel (s := false) g1 g.length 0 o2 (by omega) h.length
  rw [← e1, ← e2, Nat.add_comm g.length]
  exact hi.go _ _ hr
end Go.Proofs.YtejmoopgfnjaaaaDoor
