/- A heap that stands still, and how it is walked: plain mathematics. -/
import Derived.Test.YtigcpbndmiefhaaDoorHWMath
namespace Go.Proofs.YtigcpbndmiefhaaDoor

structure Cl where
  k : Int
  c : Int
  a : Int
  b : Int
/-- The cell that a word names. -/
def refN (x : Int) : Option Nat := if ofT x = 8 then some (ofN x).toNat else none
/-- May a word stand in a heap of n cells? -/
def fitsW (n : Nat) (x : Int) : Bool := wd x && (match refN x with | some c => decide (c < n) | none => true)
def okCl (n : Nat) (x : Cl) : Bool := (decide (x.k ≤ 3) && decide (x.c ≤ 2)) && (decide (x.k = 0) || (fitsW n x.a && fitsW n x.b))
/-- The least cell that is not so. -/
def badC (n : Nat) : List Cl → Nat → Option Nat
  | [], _ => none
  | x :: r, j => if okCl n x then badC n r (j + 1) else some j
def heapB (h : List Cl) (roots : List Int) : Bool := (badC h.length h 0).isNone && roots.all (fitsW h.length)

/-- What is met: the cells, each with the one that named it first (-1: a root). -/
abbrev St := List (Nat × Int)
def metB (r : St) (c : Nat) : Bool := r.any (fun p => p.1 == c)
def lookM (r : St) (x : Int) (q : Int) : St := match refN x with
  | none => r
  | some c => if metB r c then r else r ++ [(c, q)]
/-- A cell's words in the order in which they are met. -/
def ownW (s : Bool) (x : Cl) : Int × Int := if s then (min x.a x.b, max x.a x.b) else (x.a, x.b)
def goM (h : List Cl) (s : Bool) : Nat → Nat → St → St
  | 0, _, r => r
  | f + 1, at', r => match r[at']? with
    | none => r
    | some p => match h[p.1]? with
      | none => r
      | some x => goM h s f (at' + 1) (if x.k = 0 then r else lookM (lookM r (ownW s x).1 p.1) (ownW s x).2 p.1)
def rootsM (roots : List Int) (r : St) : St := roots.foldl (fun r x => lookM r x (-1)) r
def walkM (h : List Cl) (s : Bool) (roots : List Int) : St := goM h s h.length 0 (rootsM roots [])

theorem metB_iff {r : St} {c : Nat} : metB r c = true ↔ ∃ q, (c, q) ∈ r := by
  unfold metB
  rw [List.any_eq_true]
  constructor
  · rintro ⟨⟨a, q⟩, h, e⟩
    have : a = c := by simpa using e
    exact ⟨q, by rw [← this]; exact h⟩
  · rintro ⟨q, h⟩
    exact ⟨(c, q), h, by simp⟩
/-- As a row of cells that are met is. -/
structure OkS (n : Nat) (r : St) : Prop where
  nd : (r.map (·.1)).Nodup
  lt : ∀ p ∈ r, p.1 < n
theorem OkS.nil (n : Nat) : OkS n [] := ⟨List.nodup_nil, fun p hp => by cases hp⟩
theorem ref_fits {n : Nat} {x : Int} {c : Nat} (h : fitsW n x = true) (hc : refN x = some c) : c < n := by
  unfold fitsW at h
  rw [hc] at h
  rw [Bool.and_eq_true] at h
  exact of_decide_eq_true h.2
theorem OkS.look {n : Nat} {r : St} (h : OkS n r) {x q : Int} (hx : fitsW n x = true) : OkS n (lookM r x q) := by
  unfold lookM
  split
  · exact h
  · rename_i c hc
    split
    · exact h
    · rename_i hm
      refine ⟨?_, fun p hp => ?_⟩
      · rw [List.map_append, List.nodup_append]
        refine ⟨h.nd, by simp, fun a ha b hb => ?_⟩
        have : b = c := by simpa using hb
        subst this
        intro e
        subst e
        obtain ⟨⟨a', q'⟩, hp, rfl⟩ := List.mem_map.1 ha
        exact hm (metB_iff.2 ⟨q', hp⟩)
      · rcases List.mem_append.1 hp with hp | hp
        · exact h.lt p hp
        · rw [List.mem_singleton.1 hp]; exact ref_fits hx hc
theorem OkS.len {n : Nat} {r : St} (h : OkS n r) : r.length ≤ n := by
  have h1 : (r.map (·.1)).length ≤ (List.range n).length := by
    refine List.Nodup.length_le_of_subset h.nd (fun c hc => ?_)
    obtain ⟨p, hp, rfl⟩ := List.mem_map.1 hc
    exact List.mem_range.2 (h.lt p hp)
  simpa using h1
theorem OkS.roots {n : Nat} : ∀ (l : List Int) {r : St}, OkS n r → (∀ x ∈ l, fitsW n x = true) → OkS n (rootsM l r)
  | [], _, h, _ => h
  | x :: l, r, h, hx => by
    show OkS n (rootsM l (lookM r x (-1)))
    exact OkS.roots l (h.look (hx x (List.mem_cons_self ..))) (fun y hy => hx y (List.mem_cons_of_mem _ hy))
theorem badC_none {n : Nat} : ∀ (l : List Cl) (j : Nat), badC n l j = none → ∀ x ∈ l, okCl n x = true
  | [], _, _ => fun x hx => by cases hx
  | y :: r, j, h => by
    unfold badC at h
    split at h
    · rename_i hy
      intro x hx
      rcases List.mem_cons.1 hx with h1 | h1
      · subst h1; exact hy
      · exact badC_none r (j + 1) h x h1
    · cases h
theorem heap_ok {h : List Cl} {roots : List Int} (hh : heapB h roots = true) : (∀ x ∈ h, okCl h.length x = true) ∧ ∀ x ∈ roots, fitsW h.length x = true := by
  unfold heapB at hh
  rw [Bool.and_eq_true] at hh
  refine ⟨badC_none h 0 (by simpa using hh.1), fun x hx => ?_⟩
  exact List.all_eq_true.1 hh.2 x hx
theorem own_fits {n : Nat} {x : Cl} (s : Bool) (h : okCl n x = true) (hk : x.k ≠ 0) : fitsW n (ownW s x).1 = true ∧ fitsW n (ownW s x).2 = true := by
  unfold okCl at h
  have h2 : fitsW n x.a = true ∧ fitsW n x.b = true := by
    simp only [Bool.and_eq_true, Bool.or_eq_true, decide_eq_true_eq] at h
    exact h.2.resolve_left hk
  unfold ownW
  split
  · simp only
    constructor
    · rcases Int.le_total x.a x.b with h | h
      · rw [Int.min_eq_left h]; exact h2.1
      · rw [Int.min_eq_right h]; exact h2.2
    · rcases Int.le_total x.a x.b with h | h
      · rw [Int.max_eq_right h]; exact h2.2
      · rw [Int.max_eq_left h]; exact h2.1
  · exact h2
/-- One round of the walk. -/
def roundM (h : List Cl) (s : Bool) (at' : Nat) (r : St) : St := match r[at']? with
  | none => r
  | some p => match h[p.1]? with
    | none => r
    | some x => if x.k = 0 then r else lookM (lookM r (ownW s x).1 p.1) (ownW s x).2 p.1
theorem OkS.round {h : List Cl} {s : Bool} {at' : Nat} {r : St} (hr : OkS h.length r) (hh : ∀ x ∈ h, okCl h.length x = true) : OkS h.length (roundM h s at' r) := by
  unfold roundM
  split
  · exact hr
  · split
    · exact hr
    · rename_i x hx
      split
      · exact hr
      · rename_i hk
        have := own_fits s (hh x (List.mem_of_getElem? hx)) hk
        exact (hr.look this.1).look this.2
theorem goM_step {h : List Cl} {s : Bool} {f at' : Nat} {r : St} (hr : OkS h.length r) (ha : at' < r.length) : goM h s (f + 1) at' r = goM h s f (at' + 1) (roundM h s at' r) := by
  have h1 := List.getElem?_eq_getElem ha
  have h2 : r[at'].1 < h.length := hr.lt _ (List.getElem_mem ha)
  have h3 := List.getElem?_eq_getElem h2
  rw [goM, h1]; dsimp only; rw [h3]
  unfold roundM; rw [h1]; dsimp only; rw [h3]
theorem goM_end {h : List Cl} {s : Bool} {f at' : Nat} {r : St} (ha : r.length ≤ at') : goM h s f at' r = r := by
  cases f with
  | zero => rfl
  | succ f => unfold goM; rw [List.getElem?_eq_none ha]
end Go.Proofs.YtigcpbndmiefhaaDoor
