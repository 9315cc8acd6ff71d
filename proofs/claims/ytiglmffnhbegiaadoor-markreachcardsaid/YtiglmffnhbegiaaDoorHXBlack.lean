/- black: is just what is reached black? -/
import Derived.Test.YtiglmffnhbegiaaDoorHXMath2
import Derived.Test.YtiglmffnhbegiaaDoorHXApart
import Derived.Test.YtiglmffnhbegiaaDoorHBSameK
namespace Go.Proofs.YtiglmffnhbegiaaDoor
open Go.RowKit

theorem Pl.ok {p : List Cl} (h : Pl p) : ∀ x ∈ p, okCl p.length x = true := fun x hx => by
  obtain ⟨i, hi⟩ := List.getElem?_of_mem hx
  unfold okCl
  rcases h i x hi with e | ⟨h1, h2, h3, h4, h5⟩
  · rw [e]; rfl
  · simp [h2, h3, h4, h5]
/-- The words that name a cell that is there and not free. -/
def udB (p : List Cl) (w : Int) : Bool := refB w && (decide (cellV w < 16) && (match getC p (cellV w) with | some x => x.k != 0 | none => false))
theorem bad_none {n : Nat} : ∀ (l : List Cl) (j : Nat), (∀ x ∈ l, okCl n x = true) → badC n l j = none
  | [], _, _ => rfl
  | x :: l, j, h => by
    unfold badC
    rw [if_pos (h x (List.mem_cons_self ..))]
    exact bad_none l (j + 1) (fun y hy => h y (List.mem_cons_of_mem _ hy))
theorem ud_nm {p : List Cl} (_ : p.length = 16) {w : Int} (hw : udB p w = true) : ∃ d, Nm p w d ∧ d < 16 := by
  unfold udB at hw
  simp only [Bool.and_eq_true, decide_eq_true_eq] at hw
  obtain ⟨h1, h2, h3⟩ := hw
  obtain ⟨d, hd, hc⟩ := ref_some h1
  rw [hc] at h2 h3
  refine ⟨d, ⟨hd, ?_⟩, by omega⟩
  split at h3
  · rename_i x hx
    exact ud_get.2 ⟨x, hx, by simpa using h3, by omega⟩
  · cases h3
theorem nm_ud {p : List Cl} (hl : p.length = 16) {w : Int} {d : Nat} (h : Nm p w d) : udB p w = true := by
  obtain ⟨hd, hu⟩ := h
  have hb : refB w = true := by
    unfold refN at hd
    split at hd
    · rename_i h8; simp [refB, h8]
    · cases hd
  obtain ⟨d', hd', hc⟩ := ref_some hb
  rw [hd] at hd'
  cases hd'
  obtain ⟨x, hx, h0, _⟩ := ud_get.1 hu
  obtain ⟨k, y, e, hy, _⟩ := hu
  have := (List.getElem?_eq_some_iff.1 hy).1
  unfold udB
  rw [hb, hc, hx]
  simp [h0]
  omega
theorem roots_fit {p : List Cl} (hl : p.length = 16) {l : List Int} : ∀ x ∈ l.filter (udB p), fitsW p.length x = true := fun x hx => by
  obtain ⟨_, h⟩ := List.mem_filter.1 hx
  obtain ⟨d, hn, hd⟩ := ud_nm hl h
  rw [fits_is]
  have hb : refB x = true := by
    unfold udB at h
    simp only [Bool.and_eq_true] at h
    exact h.1
  have hw : wd x = true := by
    cases hw : wd x
    · unfold refB ofT at hb; rw [hw] at hb; simp at hb
    · rfl
  obtain ⟨d', hd', hc⟩ := ref_some hb
  rw [hn.1] at hd'
  cases hd'
  rw [hw, hb, hc]
  simp
  omega
theorem heap_true {p : List Cl} (hp : Pl p) (hl : p.length = 16) (S : List Int) : heapB p (S.filter (udB p)) = true := by
  unfold heapB
  rw [bad_none p 0 hp.ok]
  simp only [Option.isNone_none, Bool.true_and, List.all_eq_true]
  exact fun x hx => roots_fit hl x hx
theorem Pl.c {p : List Cl} (h : Pl p) {i : Nat} {x : Cl} (hx : p[i]? = some x) : x.c = 0 := by
  rcases h i x hx with e | h
  · rw [e]; rfl
  · exact h.2.2.1
theorem col_end (R : List Int) (i : Nat) : col R R.length i = if (i : Int) ∈ R then 2 else 0 := by
  unfold col
  rw [List.take_length]
  by_cases h : (i : Int) ∈ R <;> simp [h]
/-- What is black in the end is what is met, and not free. -/
theorem reach_is {p : List Cl} (hp : Pl p) (hl : p.length = 16) {S R : List Int} {n : Nat} (H : MK p S R n) (hn : n = R.length) {i : Nat} {x : Cl} (hx : p[i]? = some x) :
    (metB (walkM p false (S.filter (udB p))) i = true ∧ x.k ≠ 0) ↔ (i : Int) ∈ R := by
  have hh : heapB p (S.filter (udB p)) = true := by
    unfold heapB
    rw [bad_none p 0 hp.ok]
    simp only [Option.isNone_none, Bool.true_and, List.all_eq_true]
    exact fun x hx => roots_fit hl x hx
  obtain ⟨c1, c2⟩ := walk_closed hh
  subst hn
  constructor
  · rintro ⟨hm, h0⟩
    obtain ⟨q, hq⟩ := metB_iff.1 hm
    refine walk_in (X := fun d => (d : Int) ∈ R) (fun w hw d hd => H.rt w (List.mem_filter.1 hw).1 d hd) (fun j y hj hy _ d hd => ?_) i q hq ⟨i, x, rfl, hx, h0⟩
    exact H.cl j y (by rw [List.take_length]; exact hj) hy d hd
  · intro hi
    obtain ⟨k, y, e, hy, h0⟩ := H.mi.ud _ hi
    have e' : i = k := by omega
    subst e'
    rw [hx] at hy
    cases hy
    refine ⟨?_, h0⟩
    refine metB_map.2 (H.sn (fun d => d ∈ (walkM p false (S.filter (udB p))).map (·.1)) (fun w hw d hd => c1 w (List.mem_filter.2 ⟨hw, nm_ud hl hd⟩) d hd.1) (fun j y hj hy hk d hd => c2 j hj y hy hk d (by rcases hd with h | h; exact .inl h.1; exact .inr h.1)) i hi)
/-- How many are black up to a cell. -/
def cntM (R : List Int) (j : Nat) : Nat := ((List.range j).filter (fun i : Nat => decide ((i : Int) ∈ R))).length
theorem cnt_succ (R : List Int) (j : Nat) : cntM R (j + 1) = cntM R j + if (j : Int) ∈ R then 1 else 0 := by
  unfold cntM
  rw [List.range_succ, List.filter_append, List.length_append]
  congr 1
  by_cases h : (j : Int) ∈ R <;> simp [h]
theorem cnt_all {p : List Cl} {R : List Int} {n : Nat} (h : MI p R n) : cntM R p.length = R.length := by
  unfold cntM
  have h1 : (R.map Int.toNat).Nodup := by
    unfold List.Nodup
    rw [List.pairwise_map]
    refine List.Pairwise.imp_of_mem (fun {a b} ha hb hne e => hne ?_) h.nd
    obtain ⟨k, _, rfl, _⟩ := h.ud a ha
    obtain ⟨m, _, rfl, _⟩ := h.ud b hb
    omega
  have h2 : ((List.range p.length).filter (fun i : Nat => decide ((i : Int) ∈ R))).Nodup := List.Pairwise.filter _ List.nodup_range
  have a1 : (R.map Int.toNat).length ≤ ((List.range p.length).filter (fun i : Nat => decide ((i : Int) ∈ R))).length := List.Nodup.length_le_of_subset h1 (fun c hc => by
    obtain ⟨a, ha, rfl⟩ := List.mem_map.1 hc
    obtain ⟨k, x, rfl, hx, _⟩ := h.ud a ha
    have := (List.getElem?_eq_some_iff.1 hx).1
    simp
    exact ⟨by omega, ha⟩)
  have a2 : ((List.range p.length).filter (fun i : Nat => decide ((i : Int) ∈ R))).length ≤ (R.map Int.toNat).length := List.Nodup.length_le_of_subset h2 (fun c hc => by
    obtain ⟨_, hm⟩ := List.mem_filter.1 hc
    simp at hm
    exact List.mem_map.2 ⟨_, hm, by simp⟩)
  rw [List.length_map] at a1 a2
  omega
end Go.Proofs.YtiglmffnhbegiaaDoor
