/- What guarded begins with is what the holders that count name. -/
import Derived.Test.YtphpkedfcmghmaaDoorHBRefGu
namespace Go.Proofs.YtphpkedfcmghmaaDoor
open Go.RowKit

theorem cellsH_mem : ∀ (l : List Cl) (i : Nat) (x : Hd), x ∈ cellsH l i ↔ ∃ (j : Nat) (y : Cl), l[j]? = some y ∧ y.k ≠ 0 ∧ x = ⟨0, i + j, [y.a, y.b]⟩
  | [], i, x => by simp [cellsH]
  | z :: r, i, x => by
    have ih := cellsH_mem r (i + 1) x
    have tail : (∃ (j : Nat) (y : Cl), r[j]? = some y ∧ y.k ≠ 0 ∧ x = ⟨0, i + 1 + j, [y.a, y.b]⟩) ↔ ∃ (j : Nat) (y : Cl), 0 < j ∧ (z :: r)[j]? = some y ∧ y.k ≠ 0 ∧ x = ⟨0, i + j, [y.a, y.b]⟩ := by
      constructor
      · rintro ⟨j, y, h1, h2, h3⟩
        exact ⟨j + 1, y, by omega, by simpa using h1, h2, by rw [h3, show i + 1 + j = i + (j + 1) by omega]⟩
      · rintro ⟨j, y, h0, h1, h2, h3⟩
        obtain ⟨j, rfl⟩ : ∃ j', j = j' + 1 := ⟨j - 1, by omega⟩
        exact ⟨j, y, by simpa using h1, h2, by rw [h3, show i + 1 + j = i + (j + 1) by omega]⟩
    rw [tail] at ih
    unfold cellsH
    split
    · rename_i hk
      rw [ih]
      constructor
      · rintro ⟨j, y, _, h⟩; exact ⟨j, y, h⟩
      · rintro ⟨j, y, h1, h2, h3⟩
        refine ⟨j, y, ?_, h1, h2, h3⟩
        rcases Nat.eq_zero_or_pos j with rfl | hj
        · have e : z = y := by simpa using h1
          subst e
          exact absurd hk h2
        · exact hj
    · rename_i hk
      rw [List.mem_cons, ih]
      constructor
      · rintro (h | ⟨j, y, _, h⟩)
        · exact ⟨0, z, rfl, hk, h⟩
        · exact ⟨j, y, h⟩
      · rintro ⟨j, y, h1, h2, h3⟩
        rcases Nat.eq_zero_or_pos j with rfl | hj
        · have e : z = y := by simpa using h1
          subst e
          exact .inl h3
        · exact .inr ⟨j, y, hj, h1, h2, h3⟩
theorem globsH_mem : ∀ (l : List Int) (i : Nat) (x : Hd), x ∈ globsH l i ↔ ∃ (j : Nat) (y : Int), l[j]? = some y ∧ x = ⟨1, i + j, [y]⟩
  | [], i, x => by simp [globsH]
  | z :: r, i, x => by
    unfold globsH
    rw [List.mem_cons, globsH_mem r (i + 1) x]
    constructor
    · rintro (h | ⟨j, y, h1, h3⟩)
      · exact ⟨0, z, rfl, h⟩
      · exact ⟨j + 1, y, by simpa using h1, by rw [h3, show i + 1 + j = i + (j + 1) by omega]⟩
    · rintro ⟨j, y, h1, h3⟩
      cases j with
      | zero =>
        have e : z = y := by simpa using h1
        subst e
        exact .inl h3
      | succ j => exact .inr ⟨j, y, by simpa using h1, by rw [h3, show i + 1 + j = i + (j + 1) by omega]⟩
theorem lanesH_mem : ∀ (l : List Ln) (i : Nat) (x : Hd), x ∈ lanesH l i ↔ ∃ (j : Nat) (y : Ln), l[j]? = some y ∧ x = ⟨2, i + j, y.roots⟩
  | [], i, x => by simp [lanesH]
  | z :: r, i, x => by
    unfold lanesH
    rw [List.mem_cons, lanesH_mem r (i + 1) x]
    constructor
    · rintro (h | ⟨j, y, h1, h3⟩)
      · exact ⟨0, z, rfl, h⟩
      · exact ⟨j + 1, y, by simpa using h1, by rw [h3, show i + 1 + j = i + (j + 1) by omega]⟩
    · rintro ⟨j, y, h1, h3⟩
      cases j with
      | zero =>
        have e : z = y := by simpa using h1
        subst e
        exact .inl h3
      | succ j => exact .inr ⟨j, y, by simpa using h1, by rw [h3, show i + 1 + j = i + (j + 1) by omega]⟩
def cntM (v : Vw) (run : Bool) (x : Hd) : Bool := if run then colM v x == 1 else wellC v x
theorem cnt_cell {v : Vw} {run : Bool} {j : Nat} {y : Cl} {ws : List Int} (h : v.h[j]? = some y) : cntM v run ⟨0, j, ws⟩ = (y.c == 1) := by
  have e : colM v ⟨0, j, ws⟩ = y.c := by unfold colM; rw [if_pos rfl]; dsimp only; rw [h]
  unfold cntM wellC
  rw [e]
  cases run <;> simp
theorem cnt_glob {v : Vw} {run : Bool} {j : Nat} {ws : List Int} : cntM v run ⟨1, j, ws⟩ = decide (v.laid ≤ (j : Int)) := by
  have e : colM v ⟨1, j, ws⟩ = if v.laid ≤ (j : Int) then 1 else 2 := by
    unfold colM
    rw [if_neg (by show ¬ (1 : Nat) = 0; decide)]
    by_cases h : v.laid ≤ (j : Int)
    · rw [if_pos ⟨rfl, h⟩, if_pos h]
    · rw [if_neg (fun h' => h h'.2), if_neg (fun h' => absurd (show (1 : Nat) = 2 from h'.1) (by decide)), if_neg h]
  unfold cntM wellC
  rw [e]
  by_cases h : v.laid ≤ (j : Int)
  · rw [if_pos h]; cases run <;> simp [h]
  · rw [if_neg h]; cases run <;> simp [h]
theorem cnt_lane {v : Vw} {run : Bool} {j : Nat} {y : Ln} {ws : List Int} (h : v.lanes[j]? = some y) : cntM v run ⟨2, j, ws⟩ = (!y.sc && (run || y.en)) := by
  have e : colM v ⟨2, j, ws⟩ = if y.sc = false then 1 else 2 := by
    unfold colM
    rw [if_neg (by show ¬ (2 : Nat) = 0; decide), if_neg (fun h' => absurd (show (2 : Nat) = 1 from h'.1) (by decide))]
    dsimp only
    rw [h]
    simp
  have e2 : endB v ⟨2, j, ws⟩ = y.en := by unfold endB; dsimp only; rw [h]
  unfold cntM wellC
  rw [e, e2]
  cases y.sc <;> cases run <;> cases y.en <;> simp
/-- The words of srcL are those that the holders which count name. -/
theorem src_named {v : Vw} (h0 : 0 ≤ v.laid) (run : Bool) (d : Nat) : (∃ w ∈ srcL v run, refN w = some d) ↔ namedM v (cntM v run) d = true := by
  have any : ∀ (x : Hd) (w : Int), x ∈ holdersM v → cntM v run x = true → w ∈ x.ws → refN w = some d → namedM v (cntM v run) d = true := fun x w h1 h2 h3 h4 => List.any_eq_true.2 ⟨x, h1, by rw [h2, Bool.true_and]; exact List.any_eq_true.2 ⟨w, h3, by rw [h4]; exact beq_self_eq_true _⟩⟩
  constructor
  · rintro ⟨w, hw, hr⟩
    unfold srcL at hw
    rcases List.mem_append.1 hw with hw | hw
    · obtain ⟨y, hy, hwy⟩ := List.mem_flatMap.1 hw
      obtain ⟨j, hj⟩ := List.getElem?_of_mem hy
      cases hg : greyB y with
      | false => rw [hg] at hwy; cases hwy
      | true =>
        rw [hg, if_pos rfl] at hwy
        have hk : y.k ≠ 0 := fun e => by simp [greyB, usedB, e] at hg
        have hc : (y.c == 1) = true := by
          unfold greyB at hg
          rw [Bool.and_eq_true] at hg
          simpa using hg.2
        exact any ⟨0, 0 + j, [y.a, y.b]⟩ w (List.mem_append_left _ ((cellsH_mem _ _ _).2 ⟨j, y, hj, hk, rfl⟩)) (by rw [Nat.zero_add, cnt_cell hj]; exact hc) hwy hr
    · rcases List.mem_append.1 hw with hw | hw
      · obtain ⟨i, hi⟩ := List.getElem?_of_mem hw
        rw [List.getElem?_drop] at hi
        exact any ⟨1, 0 + (v.laid.toNat + i), [w]⟩ w (List.mem_append_right _ (List.mem_append_left _ ((globsH_mem _ _ _).2 ⟨_, w, hi, rfl⟩))) (by rw [cnt_glob, decide_eq_true_iff]; omega) (List.mem_singleton.2 rfl) hr
      · obtain ⟨y, hy, hwy⟩ := List.mem_flatMap.1 hw
        obtain ⟨j, hj⟩ := List.getElem?_of_mem hy
        cases hg : (!y.sc && (run || y.en)) with
        | false => rw [hg] at hwy; cases hwy
        | true =>
          rw [hg, if_pos rfl] at hwy
          exact any ⟨2, 0 + j, y.roots⟩ w (List.mem_append_right _ (List.mem_append_right _ ((lanesH_mem _ _ _).2 ⟨j, y, hj, rfl⟩))) (by rw [Nat.zero_add, cnt_lane hj]; exact hg) hwy hr
  · intro h
    obtain ⟨x, hx, hx2⟩ := List.any_eq_true.1 h
    rw [Bool.and_eq_true] at hx2
    obtain ⟨w, hw, hr'⟩ := List.any_eq_true.1 hx2.2
    have hr : refN w = some d := by simpa using hr'
    have hc := hx2.1
    refine ⟨w, ?_, hr⟩
    unfold srcL
    rcases List.mem_append.1 hx with hx | hx
    · obtain ⟨j, y, hj, hk, rfl⟩ := (cellsH_mem _ _ _).1 hx
      rw [Nat.zero_add, cnt_cell hj] at hc
      refine List.mem_append_left _ (List.mem_flatMap.2 ⟨y, List.mem_of_getElem? hj, ?_⟩)
      have hg : greyB y = true := by
        have : y.c = 1 := by simpa using hc
        simp [greyB, usedB, hk, this]
      rw [hg, if_pos rfl]
      exact hw
    · rcases List.mem_append.1 hx with hx | hx
      · obtain ⟨j, y, hj, rfl⟩ := (globsH_mem _ _ _).1 hx
        rw [cnt_glob, decide_eq_true_iff] at hc
        have e : w = y := List.mem_singleton.1 hw
        subst e
        refine List.mem_append_right _ (List.mem_append_left _ (List.mem_of_getElem? (i := j - v.laid.toNat) ?_))
        rw [List.getElem?_drop, show v.laid.toNat + (j - v.laid.toNat) = j by omega]
        exact hj
      · obtain ⟨j, y, hj, rfl⟩ := (lanesH_mem _ _ _).1 hx
        rw [Nat.zero_add, cnt_lane hj] at hc
        refine List.mem_append_right _ (List.mem_append_right _ (List.mem_flatMap.2 ⟨y, List.mem_of_getElem? hj, ?_⟩))
        rw [hc, if_pos rfl]
        exact hw
theorem gu_by {v : Vw} (h0 : 0 ≤ v.laid) (k : Nat) : (guAll v.h whiteB (srcL v true)).contains k = byM v k := gu_is (src_named h0 true) k
theorem gu_well {v : Vw} (h0 : 0 ≤ v.laid) (k : Nat) : (guAll v.h whiteB (srcL v false)).contains k = wellM v k := gu_is (src_named h0 false) k
end Go.Proofs.YtphpkedfcmghmaaDoor
