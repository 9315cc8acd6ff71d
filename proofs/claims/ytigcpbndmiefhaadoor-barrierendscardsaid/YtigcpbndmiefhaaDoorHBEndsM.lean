/- What is met is closed; where nothing is grey: mathematics. -/
import Derived.Test.YtigcpbndmiefhaaDoorHBHolds
import Derived.Test.YtigcpbndmiefhaaDoorHBOrdM
namespace Go.Proofs.YtigcpbndmiefhaaDoor
open Go.RowKit

theorem meet_mem {v : Vw} {mf : Cl → Bool} {r : List Nat} {c d : Nat} (h : d ∈ r) : d ∈ meetM v mf r c := by
  unfold meetM
  split
  · exact h
  · split
    · split
      · exact List.mem_append_left _ h
      · exact h
    · exact h
theorem meet_in {v : Vw} {mf : Cl → Bool} {r : List Nat} {c : Nat} {x : Cl} (hx : v.h[c]? = some x) (hm : mf x = true) : c ∈ meetM v mf r c := by
  unfold meetM
  split
  · rename_i h; simpa using h
  · rw [hx]; dsimp only; rw [if_pos hm]; exact List.mem_append_right _ (List.mem_singleton.2 rfl)
theorem meetW_mem {v : Vw} {mf : Cl → Bool} {r : List Nat} {w : Int} {d : Nat} (h : d ∈ r) : d ∈ meetW v mf r w := by
  unfold meetW
  split
  · exact meet_mem h
  · exact h
theorem meetW_in {v : Vw} {mf : Cl → Bool} {r : List Nat} {w : Int} {d : Nat} {x : Cl} (hr : refN w = some d) (hx : v.h[d]? = some x) (hm : mf x = true) : d ∈ meetW v mf r w := by
  rw [meetW_ref hr]; exact meet_in hx hm
/-- What a cell names is met. -/
def Subs (v : Vw) (mf : Cl → Bool) (r : List Nat) (x : Cl) : Prop := ∀ d y, (refN x.a = some d ∨ refN x.b = some d) → v.h[d]? = some y → mf y = true → d ∈ r
theorem goW_mem {v : Vw} {mf : Cl → Bool} {d : Nat} : ∀ (f a : Nat) (r : List Nat), d ∈ r → d ∈ goW v mf f a r
  | 0, _, _, h => h
  | f + 1, a, r, h => by
    unfold goW
    split
    · exact h
    · split
      · exact h
      · exact goW_mem f (a + 1) _ (meetW_mem (meetW_mem h))
theorem goW_closed {v : Vw} {mf : Cl → Bool} : ∀ (f a : Nat) (r : List Nat), OkR v mf r → v.h.length ≤ f + a → (∀ (i c : Nat) x, i < a → r[i]? = some c → v.h[c]? = some x → Subs v mf r x) → ∀ (c : Nat) x, c ∈ goW v mf f a r → v.h[c]? = some x → Subs v mf (goW v mf f a r) x
  | 0, a, r, ho, hn, hs, c, x, hc, hx => by
    obtain ⟨i, hi, he⟩ := List.getElem_of_mem hc
    have := ho.len
    exact hs i c x (by have hi' : i < r.length := hi; omega) (by rw [← he]; exact List.getElem?_eq_getElem hi) hx
  | f + 1, a, r, ho, hn, hs, c, x, hc, hx => by
    by_cases ha : a < r.length
    · obtain ⟨d, hd⟩ : ∃ d, r[a]? = some d := ⟨_, List.getElem?_eq_getElem ha⟩
      obtain ⟨y, hy, _⟩ := ho.lt d (List.mem_of_getElem? hd)
      rw [goW_step hd hy] at hc ⊢
      refine goW_closed f (a + 1) _ ((ho.meetW _).meetW _) (by omega) (fun i c' x' hi hc' hx' => ?_) c x hc hx
      by_cases hia : i = a
      · subst hia
        rw [meetW_pre (meetW_pre hd)] at hc'
        cases hc'
        rw [hy] at hx'
        cases hx'
        intro e z hz h1 h2
        rcases hz with hz | hz
        · exact meetW_mem (meetW_in hz h1 h2)
        · exact meetW_in hz h1 h2
      · have hi2 : i < r.length := by omega
        have h3 : r[i]? = some r[i] := List.getElem?_eq_getElem hi2
        rw [meetW_pre (meetW_pre h3)] at hc'
        intro e z hz h1 h2
        exact meetW_mem (meetW_mem (hs i c' x' (by omega) (h3.trans hc') hx' e z hz h1 h2))
    · rw [goW_end (by omega)] at hc ⊢
      obtain ⟨i, hi, he⟩ := List.getElem_of_mem hc
      exact hs i c x (by omega) (by rw [← he]; exact List.getElem?_eq_getElem hi) hx
theorem seed_in {v : Vw} {mf : Cl → Bool} {nf : Nat → Bool} {j : Nat} {x : Cl} (hx : v.h[j]? = some x) (hm : mf x = true) (hn : nf j = true) : ∀ n, j < n → j ∈ seedM v mf nf n
  | 0, h => by omega
  | n + 1, h => by
    unfold seedM
    by_cases hj : j = n
    · subst hj; rw [if_pos hn]; exact meet_in hx hm
    · have := seed_in hx hm hn n (by omega)
      split
      · exact meet_mem this
      · exact this
theorem walk_seed {v : Vw} {mf : Cl → Bool} {nf : Nat → Bool} {j : Nat} {x : Cl} (hx : v.h[j]? = some x) (hm : mf x = true) (hn : nf j = true) : metW v mf nf j = true := by
  unfold metW walkB
  simpa using goW_mem _ _ _ (seed_in hx hm hn _ (List.getElem?_eq_some_iff.1 hx).1)
theorem walk_next {v : Vw} {mf : Cl → Bool} {nf : Nat → Bool} {c d : Nat} {x y : Cl} (hc : metW v mf nf c = true) (hx : v.h[c]? = some x) (hd : refN x.a = some d ∨ refN x.b = some d) (hy : v.h[d]? = some y) (hm : mf y = true) : metW v mf nf d = true := by
  unfold metW walkB at hc ⊢
  have hc' : c ∈ goW v mf v.h.length 0 (seedM v mf nf v.h.length) := by simpa using hc
  simpa using goW_closed v.h.length 0 _ (OkR.seed v mf nf _) (by omega) (fun i c x hi => by omega) c x hc' hx d y hd hy hm
theorem walk_none {v : Vw} {mf : Cl → Bool} {nf : Nat → Bool} (hn : ∀ j, nf j = false) (k : Nat) : metW v mf nf k = false := by
  have h1 : ∀ n, seedM v mf nf n = [] := by
    intro n
    induction n with
    | zero => rfl
    | succ n ih => unfold seedM; rw [if_neg (by rw [hn n]; decide)]; exact ih
  unfold metW walkB
  rw [h1, goW_end (by simp)]
  rfl
theorem ord_in {h : List Cl} (P : Nat → Prop) (hc : ∀ (c : Nat) x, P c → h[c]? = some x → x.k ≠ 0 → ∀ d y, (refN x.a = some d ∨ refN x.b = some d) → h[d]? = some y → y.k ≠ 0 → P d) :
    ∀ (f i : Nat) (out : List Nat) (l : List Int), (∀ w ∈ l, ∀ d y, refN w = some d → h[d]? = some y → y.k ≠ 0 → P d) → (∀ c ∈ out, ∀ y, h[c]? = some y → y.k ≠ 0 → P c) → ∀ c ∈ ordM h f i out l, ∀ y, h[c]? = some y → y.k ≠ 0 → P c
  | 0, _, _, _, _, ho => ho
  | f + 1, i, out, l, hl, ho => by
    cases hw : l[i]? with
    | none => unfold ordM; rw [hw]; exact ho
    | some w =>
      rw [ordM_step hw]
      have hwl := List.mem_of_getElem? hw
      cases hr : refN w with
      | none => rw [ordS_none hr]; exact ord_in P hc f (i + 1) out l hl ho
      | some c =>
        cases hct : out.contains c with
        | true => rw [ordS_met hr hct]; exact ord_in P hc f (i + 1) out l hl ho
        | false =>
          cases hx : h[c]? with
          | none =>
            have e : ordS h out l w = (out, l) := by unfold ordS; rw [hr]; dsimp only; rw [hct, hx]; rfl
            rw [e]; exact ord_in P hc f (i + 1) out l hl ho
          | some x =>
            rw [ordS_new hr hct hx]
            refine ord_in P hc f (i + 1) _ _ (fun w' hw' d y h1 h2 h3 => ?_) (fun c' hc' y h1 h2 => ?_)
            · by_cases hk : x.k = 0
              · rw [if_pos hk] at hw'; exact hl w' hw' d y h1 h2 h3
              · rw [if_neg hk] at hw'
                rcases List.mem_append.1 hw' with hw' | hw'
                · exact hl w' hw' d y h1 h2 h3
                · refine hc c x (hl w hwl c x hr hx hk) hx hk d y ?_ h2 h3
                  simp only [List.mem_cons, List.not_mem_nil, or_false] at hw'
                  rcases hw' with rfl | rfl
                  · exact .inl h1
                  · exact .inr h1
            · rcases List.mem_append.1 hc' with hc' | hc'
              · exact ho c' hc' y h1 h2
              · rw [List.mem_singleton.1 hc'] at h1 ⊢
                exact hl w hwl c y hr h1 h2
def rootsV (v : Vw) : List Int := v.gl ++ (v.lanes.map Ln.roots).flatten
theorem mem_globs : ∀ (l : List Int) (i : Nat) {w : Int}, w ∈ l → ∃ j, (⟨1, j, [w]⟩ : Hd) ∈ globsH l i
  | y :: r, i, w, h => by
    rcases List.mem_cons.1 h with h | h
    · subst h; exact ⟨i, by unfold globsH; exact List.mem_cons_self ..⟩
    · obtain ⟨j, hj⟩ := mem_globs r (i + 1) h
      exact ⟨j, by unfold globsH; exact List.mem_cons_of_mem _ hj⟩
theorem mem_lanes : ∀ (l : List Ln) (i : Nat) {x : Ln}, x ∈ l → ∃ j, (⟨2, j, x.roots⟩ : Hd) ∈ lanesH l i
  | y :: r, i, x, h => by
    rcases List.mem_cons.1 h with h | h
    · subst h; exact ⟨i, by unfold lanesH; exact List.mem_cons_self ..⟩
    · obtain ⟨j, hj⟩ := mem_lanes r (i + 1) h
      exact ⟨j, by unfold lanesH; exact List.mem_cons_of_mem _ hj⟩
theorem root_holder {v : Vw} {w : Int} (h : w ∈ rootsV v) : ∃ x ∈ holdersM v, x.s ≠ 0 ∧ w ∈ x.ws := by
  unfold rootsV at h
  rcases List.mem_append.1 h with h | h
  · obtain ⟨j, hj⟩ := mem_globs v.gl 0 h
    exact ⟨_, List.mem_append_right _ (List.mem_append_left _ hj), by show (1 : Nat) ≠ 0; decide, List.mem_singleton.2 rfl⟩
  · obtain ⟨l, hl, hw⟩ := List.mem_flatten.1 h
    obtain ⟨x, hx, rfl⟩ := List.mem_map.1 hl
    obtain ⟨j, hj⟩ := mem_lanes v.lanes 0 hx
    exact ⟨_, List.mem_append_right _ (List.mem_append_right _ hj), by show (2 : Nat) ≠ 0; decide, hw⟩
theorem roots_fit {v : Vw} (h : wordsOk v = true) {w : Int} (hw : w ∈ rootsV v) : fitsW v.h.length w = true := by
  obtain ⟨x, hx, _, hm⟩ := root_holder hw
  exact List.all_eq_true.1 (List.all_eq_true.1 h x hx) w hm
/-- What the document's walk reaches is live. -/
theorem ends_live {v : Vw} {c : Nat} {y : Cl} (hc : c ∈ orderM v.h (rootsV v)) (hy : v.h[c]? = some y) (hk : y.k ≠ 0) : liveM v c = true := by
  have hu : ∀ z : Cl, z.k ≠ 0 → usedB z = true := fun z hz => by simp [usedB, hz]
  refine ord_in (h := v.h) (fun c => liveM v c = true) (fun c x hp hx _ d y hd hy hk => walk_next hp hx hd hy (hu y hk)) _ 0 [] (rootsV v) (fun w hw d y hr hy hk => ?_) (fun c hc => by cases hc) c hc y hy hk
  obtain ⟨x, hx, hs, hm⟩ := root_holder hw
  refine walk_seed hy (hu y hk) (List.any_eq_true.2 ⟨x, hx, ?_⟩)
  rw [Bool.and_eq_true]
  refine ⟨?_, List.any_eq_true.2 ⟨w, hm, by rw [hr]; exact beq_self_eq_true _⟩⟩
  have : (x.s : Int) ≠ 0 := by omega
  simpa using this
theorem globs_lt : ∀ (l : List Int) (i : Nat) {x : Hd}, x ∈ globsH l i → x.s = 1 ∧ x.i < i + l.length
  | y :: r, i, x, h => by
    unfold globsH at h
    rcases List.mem_cons.1 h with h | h
    · subst h; exact ⟨rfl, by simp⟩
    · have := globs_lt r (i + 1) h
      refine ⟨this.1, ?_⟩
      have := this.2
      simp only [List.length_cons]; omega
theorem cells_s : ∀ (l : List Cl) (i : Nat) {x : Hd}, x ∈ cellsH l i → x.s = 0
  | y :: r, i, x, h => by
    unfold cellsH at h
    split at h
    · exact cells_s r (i + 1) h
    · rcases List.mem_cons.1 h with h | h
      · subst h; rfl
      · exact cells_s r (i + 1) h
theorem lanes_s : ∀ (l : List Ln) (i : Nat) {x : Hd}, x ∈ lanesH l i → x.s = 2
  | y :: r, i, x, h => by
    unfold lanesH at h
    rcases List.mem_cons.1 h with h | h
    · subst h; rfl
    · exact lanes_s r (i + 1) h
/-- Nothing is left to look into. -/
structure Still (v : Vw) : Prop where
  laid : v.laid = v.gl.length
  cells : ∀ x ∈ v.h, x.c ≠ 1
  lanes : ∀ x ∈ v.lanes, x.sc = true
theorem Still.col {v : Vw} (h : Still v) {x : Hd} (hx : x ∈ holdersM v) : colM v x ≠ 1 := by
  unfold holdersM at hx
  rcases List.mem_append.1 hx with hx | hx
  · have hs := cells_s _ _ hx
    unfold colM
    rw [if_pos hs]
    split
    · rename_i c hc; exact h.cells c (List.mem_of_getElem? hc)
    · decide
  · rcases List.mem_append.1 hx with hx | hx
    · obtain ⟨hs, hl⟩ := globs_lt _ _ hx
      have := h.laid
      unfold colM
      rw [if_neg (by omega), if_neg (by omega), if_neg (by omega)]
      decide
    · have hs := lanes_s _ _ hx
      unfold colM
      rw [if_neg (by omega), if_neg (by omega), if_neg ?_]
      · decide
      · rintro ⟨_, h2⟩
        split at h2
        · rename_i l hl; rw [h.lanes l (List.mem_of_getElem? hl)] at h2; cases h2
        · cases h2
theorem Still.by {v : Vw} (h : Still v) (k : Nat) : byM v k = false := by
  refine walk_none (fun j => ?_) k
  unfold namedM
  rw [List.any_eq_false]
  intro x hx
  have := h.col hx
  simp [this]
theorem loss_white {v : Vw} : ∀ (l : List Cl) (i c : Nat), lossAt v l i = some c → ∃ x, i ≤ c ∧ l[c - i]? = some x ∧ whiteB x = true
  | [], i, c, h => by simp [lossAt] at h
  | y :: r, i, c, h => by
    unfold lossAt at h
    split at h
    · rename_i hl
      cases h
      unfold lossB at hl
      rw [Bool.and_eq_true] at hl
      exact ⟨y, Nat.le_refl _, by simp, hl.1⟩
    · obtain ⟨x, h1, h2, h3⟩ := loss_white r (i + 1) c h
      exact ⟨x, by omega, by rw [show c - i = (c - (i + 1)) + 1 by omega]; simpa using h2, h3⟩
theorem loss_not {v : Vw} : ∀ (l : List Cl) (i j : Nat) (x : Cl), lossAt v l i = none → l[j]? = some x → lossB v (i + j) x = false
  | y :: r, i, 0, x, h, hx => by
    have e : y = x := by simpa using hx
    subst e
    unfold lossAt at h
    split at h
    · cases h
    · rename_i hl; simpa using hl
  | y :: r, i, j + 1, x, h, hx => by
    unfold lossAt at h
    split at h
    · cases h
    · have := loss_not r (i + 1) j x h (by simpa using hx)
      rw [show i + 1 + j = i + (j + 1) by omega] at this
      exact this
/-- A still view that Holds: no cell that is reached is white. -/
theorem ends_white {v : Vw} (hs : Still v) (hl : lossM v = none) {c : Nat} {y : Cl} (hc : c ∈ orderM v.h (rootsV v)) (hy : v.h[c]? = some y) : whiteB y = false := by
  cases hw : whiteB y with
  | false => rfl
  | true =>
    have hk : y.k ≠ 0 := by
      intro e; simp [whiteB, usedB, e] at hw
    have h1 := loss_not v.h 0 c y hl hy
    rw [Nat.zero_add] at h1
    unfold lossB at h1
    rw [hw, ends_live hc hy hk, hs.by c] at h1
    simp at h1
end Go.Proofs.YtigcpbndmiefhaaDoor
