/- The rule as a relation: its second half is all of it.; A step keeps the rule: what is asked of it.; Who names a cell: cells, globals, lanes.; Cells that are shaded.; Steps that keep the rule.; What is shaded, as places; the grey list.; The grey list: just the grey cells, each once.; The grey list behind a step; the view's form.; The view's form, in pieces.; Only what is named is shaded.; The steps of lanes and of the collector, as moves of views.; The moves keep the rule.; The moves keep the rule: claims 1 and 2. -/
import Derived.Test.YtomdbcddokaagaaDoorGK
/- The rule as a relation: its second half is all of it. -/
namespace Go.Proofs.YtomdbcddokaagaaDoor
open Go.RowKit

/-- Met from what nf names, over cells that mf lets by. -/
inductive Gd (v : Vw) (mf : Cl → Bool) (nf : Nat → Bool) : Nat → Prop
  | seed {c : Nat} {x : Cl} : v.h[c]? = some x → mf x = true → nf c = true → Gd v mf nf c
  | next {c d : Nat} {x y : Cl} : Gd v mf nf c → v.h[c]? = some x → (refN x.a = some d ∨ refN x.b = some d) → v.h[d]? = some y → mf y = true → Gd v mf nf d
variable {v : Vw} {mf : Cl → Bool} {nf nf' : Nat → Bool}
theorem Gd.met {c : Nat} (h : Gd v mf nf c) : metW v mf nf c = true := by
  induction h with
  | seed h1 h2 h3 => exact walk_seed h1 h2 h3
  | next _ h2 h3 h4 h5 ih => exact walk_next ih h2 h3 h4 h5
theorem Gd.mono (hm : ∀ c, nf c = true → nf' c = true) {c : Nat} (h : Gd v mf nf c) : Gd v mf nf' c := by
  induction h with
  | seed h1 h2 h3 => exact .seed h1 h2 (hm _ h3)
  | next _ h2 h3 h4 h5 ih => exact .next ih h2 h3 h4 h5
theorem Gd.lets {c : Nat} (h : Gd v mf nf c) : ∃ x, v.h[c]? = some x ∧ mf x = true := by
  cases h with
  | seed h1 h2 _ => exact ⟨_, h1, h2⟩
  | next _ _ _ h4 h5 => exact ⟨_, h4, h5⟩
theorem meet_or {r : List Nat} {c d : Nat} (h : d ∈ meetM v mf r c) : d ∈ r ∨ (d = c ∧ ∃ x, v.h[c]? = some x ∧ mf x = true) := by
  unfold meetM at h
  split at h
  · exact .inl h
  · split at h
    · rename_i x hx
      split at h
      · rename_i hm
        rcases List.mem_append.1 h with h | h
        · exact .inl h
        · exact .inr ⟨by simpa using h, x, hx, hm⟩
      · exact .inl h
    · exact .inl h
theorem meetW_or {r : List Nat} {w : Int} {d : Nat} (h : d ∈ meetW v mf r w) : d ∈ r ∨ (refN w = some d ∧ ∃ x, v.h[d]? = some x ∧ mf x = true) := by
  unfold meetW at h
  split at h
  · rename_i c hc
    rcases meet_or h with h | ⟨rfl, h⟩
    · exact .inl h
    · exact .inr ⟨hc, h⟩
  · exact .inl h
theorem seed_gd : ∀ (n d : Nat), d ∈ seedM v mf nf n → Gd v mf nf d
  | 0, d, h => by cases h
  | n + 1, d, h => by
    unfold seedM at h
    split at h
    · rename_i hn
      rcases meet_or h with h | ⟨rfl, x, hx, hm⟩
      · exact seed_gd n d h
      · exact .seed hx hm hn
    · exact seed_gd n d h
theorem goW_gd : ∀ (f a : Nat) (r : List Nat), (∀ d ∈ r, Gd v mf nf d) → ∀ d ∈ goW v mf f a r, Gd v mf nf d
  | 0, a, r, hr, d, h => hr d h
  | f + 1, a, r, hr, d, h => by
    unfold goW at h
    split at h
    · exact hr d h
    · rename_i c hc
      split at h
      · exact hr d h
      · rename_i x hx
        refine goW_gd f (a + 1) _ (fun e he => ?_) d h
        have gc := hr c (List.mem_of_getElem? hc)
        rcases meetW_or he with he | ⟨hb, y, hy, hm⟩
        · rcases meetW_or he with he | ⟨ha, y, hy, hm⟩
          · exact hr e he
          · exact .next gc hx (.inl ha) hy hm
        · exact .next gc hx (.inr hb) hy hm
theorem met_gd {c : Nat} (h : metW v mf nf c = true) : Gd v mf nf c := by
  unfold metW walkB at h
  exact goW_gd _ _ _ (fun d hd => seed_gd _ d hd) c (by simpa using h)
theorem met_iff {c : Nat} : metW v mf nf c = true ↔ Gd v mf nf c := ⟨met_gd, Gd.met⟩
/-- What names a cell. -/
theorem named_iff {cf : Hd → Bool} {c : Nat} : namedM v cf c = true ↔ ∃ y ∈ holdersM v, cf y = true ∧ ∃ w ∈ y.ws, refN w = some c := by
  unfold namedM
  simp only [List.any_eq_true, Bool.and_eq_true, beq_iff_eq]
theorem cell_holder {c : Nat} {x : Cl} (hx : v.h[c]? = some x) (hk : usedB x = true) : (⟨0, c, [x.a, x.b]⟩ : Hd) ∈ holdersM v := by
  have := at_cell hx (fun e => by simp [usedB, e] at hk)
  exact List.mem_of_getElem? this
/-- What is named by what the collector has passed is well guarded. -/
def Jr (v : Vw) : Prop := ∀ (c : Nat) (x : Cl), v.h[c]? = some x → whiteB x = true → passM v c = true → Gd v whiteB (namedM v (wellC v)) c
theorem well_by {c : Nat} (h : Gd v whiteB (namedM v (wellC v)) c) : Gd v whiteB (namedM v (fun x => colM v x == 1)) c := by
  refine h.mono (fun c hc => ?_)
  obtain ⟨y, hy, hc, hw⟩ := named_iff.1 hc
  refine named_iff.2 ⟨y, hy, ?_, hw⟩
  unfold wellC at hc
  rw [Bool.and_eq_true] at hc
  exact hc.1
theorem col_root {y : Hd} (hs : y.s ≠ 0) : colM v y = 1 ∨ colM v y = 2 := by
  unfold colM
  rw [if_neg hs]
  repeat' split
  all_goals first | exact .inl rfl | exact .inr rfl
theorem col_cell {c : Nat} {x : Cl} (hx : v.h[c]? = some x) (ws : List Int) : colM v ⟨0, c, ws⟩ = x.c := by
  unfold colM
  rw [if_pos rfl]
  dsimp only
  rw [hx]
/-- A live white cell is guarded, where the second half holds. -/
theorem live_by (hJ : Jr v) (hc : ∀ x ∈ v.h, x.c = 0 ∨ x.c = 1 ∨ x.c = 2) {c : Nat} (h : Gd v usedB (namedM v (fun x => (x.s : Int) != 0)) c) : ∀ x, v.h[c]? = some x → whiteB x = true → Gd v whiteB (namedM v (fun x => colM v x == 1)) c := by
  induction h with
  | @seed c x h1 h2 h3 =>
    intro x' hx hw
    obtain ⟨y, hy, hs, w, hw1, hw2⟩ := named_iff.1 h3
    have hs' : y.s ≠ 0 := by
      intro e
      simp [e] at hs
    rcases col_root (v := v) hs' with h | h
    · exact .seed hx hw (named_iff.2 ⟨y, hy, by simp [h], w, hw1, hw2⟩)
    · exact well_by (hJ c x' hx hw (named_iff.2 ⟨y, hy, by simp [h], w, hw1, hw2⟩))
  | @next c d x y g h2 h3 h4 h5 ih =>
    intro y' hy hw
    obtain ⟨x', hx', hu⟩ := g.lets
    rw [h2] at hx'
    cases hx'
    have nm : ∀ cf : Hd → Bool, cf ⟨0, c, [x.a, x.b]⟩ = true → namedM v cf d = true := fun cf hcf => named_iff.2 ⟨_, cell_holder h2 hu, hcf, by
      rcases h3 with h3 | h3
      · exact ⟨x.a, by simp, h3⟩
      · exact ⟨x.b, by simp, h3⟩⟩
    rcases hc x (List.mem_of_getElem? h2) with h | h | h
    · exact .next (ih x h2 (by simp [whiteB, hu, h])) h2 h3 hy hw
    · exact .seed hy hw (nm _ (by simp [col_cell h2, h]))
    · exact well_by (hJ d y' hy hw (nm _ (by simp [col_cell h2, h])))
/-- So it Holds. -/
theorem loss_of_jr (hJ : Jr v) (hc : ∀ x ∈ v.h, x.c = 0 ∨ x.c = 1 ∨ x.c = 2) : lossM v = none := by
  refine loss_none v.h 0 (fun j x hx => ?_)
  rw [Nat.zero_add]
  unfold lossB
  cases hw : whiteB x with
  | false => rfl
  | true =>
    have a1 : (liveM v j && !byM v j) = false := by
      cases hl : liveM v j with
      | false => rfl
      | true =>
        have := (live_by hJ hc (met_gd hl) x hx hw).met
        rw [show byM v j = true from this]
        rfl
    have a2 : (passM v j && !wellM v j) = false := by
      cases hl : passM v j with
      | false => rfl
      | true =>
        rw [show wellM v j = true from (hJ j x hx hw hl).met]
        rfl
    rw [a1, a2]
    rfl
/-- And the other way. -/
theorem jr_of_loss (h : lossM v = none) : Jr v := fun c x hx hw hp => by
  have h1 := loss_not v.h 0 c x h hx
  rw [Nat.zero_add] at h1
  unfold lossB at h1
  rw [hw, hp, Bool.true_and] at h1
  refine met_gd ?_
  show wellM v c = true
  cases hwl : wellM v c with
  | true => rfl
  | false => rw [hwl] at h1; simp at h1
end Go.Proofs.YtomdbcddokaagaaDoor

/- A step keeps the rule: what is asked of it. -/
namespace Go.Proofs.YtomdbcddokaagaaDoor
open Go.RowKit

def WhiteAt (v : Vw) (c : Nat) : Prop := ∃ x, v.h[c]? = some x ∧ whiteB x = true
/-- Well guarded. -/
abbrev Wg (v : Vw) (c : Nat) : Prop := Gd v whiteB (namedM v (wellC v)) c
/-- What a step from v to v' must show: no cell becomes white; a white one that is turned is grey; what a cell names that is white behind it, it names still; so do the sources; and what is newly named by what is passed was well guarded. -/
structure Keeps (v v' : Vw) : Prop where
  len : v'.h.length = v.h.length
  white : ∀ c, WhiteAt v' c → WhiteAt v c
  grey : ∀ (c : Nat) (x' : Cl), WhiteAt v c → v'.h[c]? = some x' → whiteB x' = false → greyB x' = true
  edge : ∀ (c d : Nat) (x x' : Cl), v.h[c]? = some x → whiteB x = true → v'.h[c]? = some x' → (refN x.a = some d ∨ refN x.b = some d) → WhiteAt v' d → (refN x'.a = some d ∨ refN x'.b = some d)
  src : ∀ d, namedM v (wellC v) d = true → WhiteAt v' d → namedM v' (wellC v') d = true
  pass : ∀ d, passM v' d = true → WhiteAt v' d → passM v d = true ∨ Wg v d
theorem grey_named {v : Vw} {c d : Nat} {x : Cl} (hx : v.h[c]? = some x) (hg : greyB x = true) (hd : refN x.a = some d ∨ refN x.b = some d) : namedM v (wellC v) d = true := by
  unfold greyB at hg
  rw [Bool.and_eq_true] at hg
  refine named_iff.2 ⟨_, cell_holder hx hg.1, ?_, by
    rcases hd with h | h
    · exact ⟨x.a, by simp, h⟩
    · exact ⟨x.b, by simp, h⟩⟩
  unfold wellC
  rw [col_cell hx]
  have := of_decide_eq_true hg.2
  simp [this]
theorem Keeps.carry {v v' : Vw} (k : Keeps v v') {d : Nat} (h : Wg v d) : WhiteAt v' d → Wg v' d := by
  induction h with
  | @seed c x h1 h2 h3 =>
    rintro ⟨x', hx', hw'⟩
    exact .seed hx' hw' (k.src c h3 ⟨x', hx', hw'⟩)
  | @next c d x y g h2 h3 h4 h5 ih =>
    rintro ⟨y', hy', hw'⟩
    obtain ⟨x0, hx0, hu⟩ := g.lets
    rw [h2] at hx0
    cases hx0
    obtain ⟨x', hx'⟩ : ∃ x', v'.h[c]? = some x' := ⟨_, List.getElem?_eq_getElem (by rw [k.len]; exact (List.getElem?_eq_some_iff.1 h2).1)⟩
    have e := k.edge c d x x' h2 hu hx' h3 ⟨y', hy', hw'⟩
    cases hx : whiteB x' with
    | true => exact .next (ih ⟨x', hx', hx⟩) hx' e hy' hw'
    | false => exact .seed hy' hw' (grey_named hx' (k.grey c x' ⟨x, h2, hu⟩ hx' hx) e)
theorem Keeps.jr {v v' : Vw} (k : Keeps v v') (hJ : Jr v) : Jr v' := fun c x' hx' hw' hp => by
  have hw : WhiteAt v' c := ⟨x', hx', hw'⟩
  refine k.carry ?_ hw
  rcases k.pass c hp hw with h | h
  · obtain ⟨x, hx, hxw⟩ := k.white c hw
    exact hJ c x hx hxw h
  · exact h
end Go.Proofs.YtomdbcddokaagaaDoor

/- Who names a cell: cells, globals, lanes. -/
namespace Go.Proofs.YtomdbcddokaagaaDoor
open Go.RowKit

theorem mem_cellsH : ∀ (l : List Cl) (i : Nat) {y : Hd}, y ∈ cellsH l i → ∃ (j : Nat) (x : Cl), l[j]? = some x ∧ usedB x = true ∧ y = ⟨0, i + j, [x.a, x.b]⟩
  | [], i, y, h => by cases h
  | x :: r, i, y, h => by
    have go : y ∈ cellsH r (i + 1) → ∃ (j : Nat) (x' : Cl), (x :: r)[j]? = some x' ∧ usedB x' = true ∧ y = ⟨0, i + j, [x'.a, x'.b]⟩ := fun h => by
      obtain ⟨j, x', h1, h2, h3⟩ := mem_cellsH r (i + 1) h
      exact ⟨j + 1, x', by simpa using h1, h2, by rw [h3, show i + 1 + j = i + (j + 1) by omega]⟩
    unfold cellsH at h
    by_cases hk : x.k = 0
    · simp only [hk, if_true] at h
      exact go (by simpa using h)
    · simp only [hk, if_false] at h
      rcases List.mem_cons.1 (by simpa using h) with h | h
      · exact ⟨0, x, rfl, by simp [usedB, hk], h⟩
      · exact go h
theorem mem_globsH : ∀ (l : List Int) (i : Nat) {y : Hd}, y ∈ globsH l i → ∃ (j : Nat) (x : Int), l[j]? = some x ∧ y = ⟨1, i + j, [x]⟩
  | [], i, y, h => by cases h
  | x :: r, i, y, h => by
    rcases List.mem_cons.1 h with h | h
    · exact ⟨0, x, rfl, h⟩
    · obtain ⟨j, x', h1, h3⟩ := mem_globsH r (i + 1) h
      exact ⟨j + 1, x', by simpa using h1, by rw [h3, show i + 1 + j = i + (j + 1) by omega]⟩
theorem mem_lanesH : ∀ (l : List Ln) (i : Nat) {y : Hd}, y ∈ lanesH l i → ∃ (j : Nat) (x : Ln), l[j]? = some x ∧ y = ⟨2, i + j, x.roots⟩
  | [], i, y, h => by cases h
  | x :: r, i, y, h => by
    rcases List.mem_cons.1 h with h | h
    · exact ⟨0, x, rfl, h⟩
    · obtain ⟨j, x', h1, h3⟩ := mem_lanesH r (i + 1) h
      exact ⟨j + 1, x', by simpa using h1, by rw [h3, show i + 1 + j = i + (j + 1) by omega]⟩
/-- The things that name cells. -/
theorem holder_or {v : Vw} {y : Hd} (h : y ∈ holdersM v) : (∃ (c : Nat) (x : Cl), v.h[c]? = some x ∧ usedB x = true ∧ y = ⟨0, c, [x.a, x.b]⟩) ∨ (∃ (i : Nat) (g : Int), v.gl[i]? = some g ∧ y = ⟨1, i, [g]⟩) ∨ ∃ (i : Nat) (l : Ln), v.lanes[i]? = some l ∧ y = ⟨2, i, l.roots⟩ := by
  unfold holdersM at h
  rcases List.mem_append.1 h with h | h
  · obtain ⟨j, x, h1, h2, h3⟩ := mem_cellsH _ _ h
    exact .inl ⟨j, x, h1, h2, by rw [h3, Nat.zero_add]⟩
  · rcases List.mem_append.1 h with h | h
    · obtain ⟨j, x, h1, h3⟩ := mem_globsH _ _ h
      exact .inr (.inl ⟨j, x, h1, by rw [h3, Nat.zero_add]⟩)
    · obtain ⟨j, x, h1, h3⟩ := mem_lanesH _ _ h
      exact .inr (.inr ⟨j, x, h1, by rw [h3, Nat.zero_add]⟩)
theorem glob_holder {v : Vw} {i : Nat} {g : Int} (h : v.gl[i]? = some g) : (⟨1, i, [g]⟩ : Hd) ∈ holdersM v := List.mem_of_getElem? (at_glob h)
theorem lane_holder {v : Vw} {i : Nat} {l : Ln} (h : v.lanes[i]? = some l) : (⟨2, i, l.roots⟩ : Hd) ∈ holdersM v := List.mem_of_getElem? (at_lane h)
theorem col_glob (v : Vw) (i : Nat) (ws : List Int) : colM v ⟨1, i, ws⟩ = if v.laid ≤ (i : Int) then 1 else 2 := by
  unfold colM
  by_cases h : v.laid ≤ (i : Int) <;> simp [h]
theorem col_lane {v : Vw} {i : Nat} {l : Ln} (h : v.lanes[i]? = some l) (ws : List Int) : colM v ⟨2, i, ws⟩ = if l.sc then 2 else 1 := by
  unfold colM
  dsimp only
  rw [h]
  cases hs : l.sc <;> simp [hs]
theorem well_iff {v : Vw} {d : Nat} : namedM v (wellC v) d = true ↔ (∃ (c : Nat) (x : Cl), v.h[c]? = some x ∧ greyB x = true ∧ (refN x.a = some d ∨ refN x.b = some d)) ∨ (∃ (i : Nat) (g : Int), v.gl[i]? = some g ∧ v.laid ≤ (i : Int) ∧ refN g = some d) ∨ ∃ (i : Nat) (l : Ln), v.lanes[i]? = some l ∧ l.sc = false ∧ l.en = true ∧ ∃ w ∈ l.roots, refN w = some d := by
  constructor
  · intro h
    obtain ⟨y, hy, hc, w, hw, hr⟩ := named_iff.1 h
    unfold wellC at hc
    rw [Bool.and_eq_true] at hc
    rcases holder_or hy with ⟨c, x, hx, hu, rfl⟩ | ⟨i, g, hg, rfl⟩ | ⟨i, l, hl, rfl⟩
    · refine .inl ⟨c, x, hx, ?_, ?_⟩
      · have := hc.1
        rw [col_cell hx] at this
        unfold greyB
        rw [hu]
        simpa using this
      · rcases List.mem_cons.1 hw with rfl | hw
        · exact .inl hr
        · rcases List.mem_cons.1 hw with rfl | hw
          · exact .inr hr
          · cases hw
    · refine .inr (.inl ⟨i, g, hg, ?_, ?_⟩)
      · have := hc.1
        rw [col_glob] at this
        by_cases h : v.laid ≤ (i : Int)
        · exact h
        · rw [if_neg h] at this; cases this
      · rcases List.mem_cons.1 hw with rfl | hw
        · exact hr
        · cases hw
    · refine .inr (.inr ⟨i, l, hl, ?_, ?_, w, hw, hr⟩)
      · have := hc.1
        rw [col_lane hl] at this
        cases hs : l.sc with
        | false => rfl
        | true => rw [hs] at this; cases this
      · have := hc.2
        unfold endB at this
        simpa [hl] using this
  · rintro (⟨c, x, hx, hg, hd⟩ | ⟨i, g, hg, hl, hd⟩ | ⟨i, l, hl, hs, he, w, hw, hr⟩)
    · exact grey_named hx hg hd
    · refine named_iff.2 ⟨_, glob_holder hg, ?_, g, by simp, hd⟩
      unfold wellC
      rw [col_glob, if_pos hl]
      rfl
    · refine named_iff.2 ⟨_, lane_holder hl, ?_, w, hw, hr⟩
      unfold wellC
      rw [col_lane hl, hs]
      unfold endB
      simp [hl, he]
theorem pass_iff {v : Vw} {d : Nat} : passM v d = true ↔ (∃ (c : Nat) (x : Cl), v.h[c]? = some x ∧ usedB x = true ∧ x.c = 2 ∧ (refN x.a = some d ∨ refN x.b = some d)) ∨ (∃ (i : Nat) (g : Int), v.gl[i]? = some g ∧ (i : Int) < v.laid ∧ refN g = some d) ∨ ∃ (i : Nat) (l : Ln), v.lanes[i]? = some l ∧ l.sc = true ∧ ∃ w ∈ l.roots, refN w = some d := by
  unfold passM
  constructor
  · intro h
    obtain ⟨y, hy, hc, w, hw, hr⟩ := named_iff.1 h
    rcases holder_or hy with ⟨c, x, hx, hu, rfl⟩ | ⟨i, g, hg, rfl⟩ | ⟨i, l, hl, rfl⟩
    · refine .inl ⟨c, x, hx, hu, ?_, ?_⟩
      · rw [col_cell hx] at hc
        simpa using hc
      · rcases List.mem_cons.1 hw with rfl | hw
        · exact .inl hr
        · rcases List.mem_cons.1 hw with rfl | hw
          · exact .inr hr
          · cases hw
    · refine .inr (.inl ⟨i, g, hg, ?_, ?_⟩)
      · rw [col_glob] at hc
        by_cases h : v.laid ≤ (i : Int)
        · rw [if_pos h] at hc; cases hc
        · omega
      · rcases List.mem_cons.1 hw with rfl | hw
        · exact hr
        · cases hw
    · refine .inr (.inr ⟨i, l, hl, ?_, w, hw, hr⟩)
      rw [col_lane hl] at hc
      cases hs : l.sc with
      | true => rfl
      | false => rw [hs] at hc; cases hc
  · rintro (⟨c, x, hx, hu, hg, hd⟩ | ⟨i, g, hg, hl, hd⟩ | ⟨i, l, hl, hs, w, hw, hr⟩)
    · refine named_iff.2 ⟨_, cell_holder hx hu, ?_, by
        rcases hd with h | h
        · exact ⟨x.a, by simp, h⟩
        · exact ⟨x.b, by simp, h⟩⟩
      rw [col_cell hx, hg]
      rfl
    · refine named_iff.2 ⟨_, glob_holder hg, ?_, g, by simp, hd⟩
      rw [col_glob, if_neg (by omega)]
      rfl
    · refine named_iff.2 ⟨_, lane_holder hl, ?_, w, hw, hr⟩
      rw [col_lane hl, hs]
      rfl
/-- Only lanes are other ones. -/
theorem keeps_lanes {v : Vw} {L : List Ln} (hs : ∀ (i : Nat) (l : Ln) (w : Int) (d : Nat), v.lanes[i]? = some l → l.sc = false → l.en = true → w ∈ l.roots → refN w = some d → WhiteAt v d → ∃ (i' : Nat) (l' : Ln), L[i']? = some l' ∧ l'.sc = false ∧ l'.en = true ∧ w ∈ l'.roots)
    (hp : ∀ (i : Nat) (l : Ln) (w : Int) (d : Nat), L[i]? = some l → l.sc = true → w ∈ l.roots → refN w = some d → WhiteAt v d → passM v d = true ∨ Wg v d) : Keeps v ⟨v.h, v.ph, v.sw, v.grey, v.gl, v.laid, L⟩ := by
  refine ⟨rfl, fun c h => h, fun c x' ⟨x, hx, hw⟩ hx' hn => ?_, fun c d x x' hx _ hx' hd _ => ?_, fun d hd hdw => ?_, fun d hd hw => ?_⟩
  · have e : some x = some x' := hx.symm.trans hx'
    cases e
    rw [hw] at hn
    cases hn
  · have e : some x = some x' := hx.symm.trans hx'
    cases e
    exact hd
  · rcases well_iff.1 hd with h | h | ⟨i, l, hl, h1, h2, w, hw, hr⟩
    · exact well_iff.2 (.inl h)
    · exact well_iff.2 (.inr (.inl h))
    · obtain ⟨i', l', q1, q2, q3, q4⟩ := hs i l w d hl h1 h2 hw hr hdw
      exact well_iff.2 (.inr (.inr ⟨i', l', q1, q2, q3, w, q4, hr⟩))
  · rcases pass_iff.1 hd with h | h | ⟨i, l, hl, h1, w, hw1, hr⟩
    · exact .inl (pass_iff.2 (.inl h))
    · exact .inl (pass_iff.2 (.inr (.inl h)))
    · exact hp i l w d hl h1 hw1 hr hw
end Go.Proofs.YtomdbcddokaagaaDoor

/- Cells that are shaded. -/
namespace Go.Proofs.YtomdbcddokaagaaDoor
open Go.RowKit

def greyC (x : Cl) : Cl := ⟨x.k, 1, x.a, x.b⟩
/-- The heap with the cells l grey. -/
def greyL : List Cl → List Nat → List Cl
  | h, [] => h
  | h, c :: r => greyL (match h[c]? with | some x => h.set c (greyC x) | none => h) r
theorem grey1_get (h : List Cl) (c i : Nat) : (match h[c]? with | some x => h.set c (greyC x) | none => h)[i]? = (h[i]?).map (fun x => if i = c then greyC x else x) := by
  cases hc : h[c]? with
  | none =>
    dsimp only
    by_cases e : i = c
    · subst e; rw [hc]; rfl
    · simp [e]
  | some x =>
    dsimp only
    rw [List.getElem?_set]
    by_cases e : c = i
    · subst e
      have := (List.getElem?_eq_some_iff.1 hc).1
      rw [if_pos rfl, if_pos this, hc]
      simp
    · have e' : ¬ i = c := fun h => e h.symm
      simp [e, e']
theorem greyL_get : ∀ (l : List Nat) (h : List Cl) (i : Nat), (greyL h l)[i]? = (h[i]?).map (fun x => if i ∈ l then greyC x else x)
  | [], h, i => by simp [greyL]
  | c :: r, h, i => by
    unfold greyL
    rw [greyL_get r, grey1_get]
    cases h[i]? with
    | none => rfl
    | some x =>
      by_cases e : i = c
      · subst e
        by_cases e2 : i ∈ r <;> simp [e2, greyC]
      · by_cases e2 : i ∈ r <;> simp [e, e2]
theorem greyL_len (l : List Nat) (h : List Cl) : (greyL h l).length = h.length := by
  refine Nat.le_antisymm ?_ ?_
  · rcases Nat.lt_or_ge h.length (greyL h l).length with hl | hl
    · have h1 := greyL_get l h h.length
      rw [List.getElem?_eq_getElem hl, List.getElem?_eq_none (Nat.le_refl _)] at h1
      cases h1
    · exact hl
  · rcases Nat.lt_or_ge (greyL h l).length h.length with hl | hl
    · have h1 := greyL_get l h (greyL h l).length
      rw [List.getElem?_eq_none (Nat.le_refl _), List.getElem?_eq_getElem hl] at h1
      cases h1
    · exact hl
/-- What is shaded: white cells. -/
def Whites (h : List Cl) (l : List Nat) : Prop := ∀ c ∈ l, ∃ x, h[c]? = some x ∧ whiteB x = true
theorem white_grey {h : List Cl} {l : List Nat} {c : Nat} {x' : Cl} (h1 : (greyL h l)[c]? = some x') (hw : whiteB x' = true) : h[c]? = some x' ∧ c ∉ l := by
  rw [greyL_get] at h1
  cases hc : h[c]? with
  | none => rw [hc] at h1; cases h1
  | some x =>
    rw [hc] at h1
    by_cases e : c ∈ l
    · have h2 : greyC x = x' := by simpa [e] using h1
      rw [← h2] at hw
      simp [whiteB, greyC] at hw
    · have h2 : x = x' := by simpa [e] using h1
      exact ⟨by rw [h2], e⟩
/-- The view behind a shading. -/
def shV (v : Vw) (l : List Nat) (g : List Int) : Vw := ⟨greyL v.h l, v.ph, v.sw, g, v.gl, v.laid, v.lanes⟩
theorem shV_white {v : Vw} {l : List Nat} {g : List Int} {c : Nat} (h : WhiteAt (shV v l g) c) : WhiteAt v c ∧ c ∉ l := by
  obtain ⟨x, hx, hw⟩ := h
  obtain ⟨h1, h2⟩ := white_grey (h := v.h) hx hw
  exact ⟨⟨x, h1, hw⟩, h2⟩
theorem shV_cell {v : Vw} {l : List Nat} {g : List Int} {c : Nat} {x : Cl} (hl : Whites v.h l) (hx : v.h[c]? = some x) : ∃ x', (shV v l g).h[c]? = some x' ∧ x'.k = x.k ∧ x'.a = x.a ∧ x'.b = x.b ∧ ((c ∈ l ∧ whiteB x = true ∧ x'.c = 1) ∨ (c ∉ l ∧ x'.c = x.c)) := by
  by_cases e : c ∈ l
  · obtain ⟨y, hy, hw⟩ := hl c e
    rw [hx] at hy
    cases hy
    exact ⟨greyC x, by show (greyL v.h l)[c]? = _; rw [greyL_get, hx]; simp [e], rfl, rfl, rfl, .inl ⟨e, hw, rfl⟩⟩
  · exact ⟨x, by show (greyL v.h l)[c]? = _; rw [greyL_get, hx]; simp [e], rfl, rfl, rfl, .inr ⟨e, rfl⟩⟩
/-- Shading alone keeps the rule. -/
theorem keeps_shade {v : Vw} {l : List Nat} {g : List Int} (hl : Whites v.h l) : Keeps v (shV v l g) := by
  have back : ∀ {c : Nat} {x' : Cl}, (shV v l g).h[c]? = some x' → ∃ x, v.h[c]? = some x ∧ x'.k = x.k ∧ x'.a = x.a ∧ x'.b = x.b ∧ ((c ∈ l ∧ whiteB x = true ∧ x'.c = 1) ∨ (c ∉ l ∧ x'.c = x.c)) := fun {c x'} h => by
    obtain ⟨x, hx⟩ : ∃ x, v.h[c]? = some x := ⟨_, List.getElem?_eq_getElem (by rw [← greyL_len l v.h]; exact (List.getElem?_eq_some_iff.1 h).1)⟩
    obtain ⟨y, hy, r⟩ := shV_cell (g := g) hl hx
    have e : some y = some x' := hy.symm.trans h
    cases e
    exact ⟨x, hx, r⟩
  refine ⟨greyL_len l v.h, fun c h => (shV_white h).1, fun c x' ⟨x, hx, hw⟩ hx' hn => ?_, fun c d x x' hx _ hx' hd _ => ?_, fun d hd hw => ?_, fun d hd hw => ?_⟩
  · obtain ⟨y, hy, r1, r2, r3, r4⟩ := back hx'
    rw [hx] at hy
    cases hy
    unfold whiteB usedB at hw hn
    unfold greyB usedB
    rw [Bool.and_eq_true] at hw
    rw [r1] at hn ⊢
    rcases r4 with ⟨_, _, e⟩ | ⟨_, e⟩
    · rw [hw.1, e]; rfl
    · rw [hw.1, e, hw.2] at hn; cases hn
  · obtain ⟨y, hy, r1, r2, r3, r4⟩ := back hx'
    rw [hx] at hy
    cases hy
    rw [r2, r3]
    exact hd
  · rcases well_iff.1 hd with ⟨c, x, hx, hg, hd⟩ | h | h
    · obtain ⟨x', hx', r1, r2, r3, r4⟩ := shV_cell (g := g) hl hx
      refine well_iff.2 (.inl ⟨c, x', hx', ?_, by rw [r2, r3]; exact hd⟩)
      unfold greyB usedB at hg ⊢
      rw [r1]
      rw [Bool.and_eq_true] at hg
      rcases r4 with ⟨_, _, e⟩ | ⟨_, e⟩
      · rw [hg.1, e]; rfl
      · rw [hg.1, e, hg.2]; rfl
    · exact well_iff.2 (.inr (.inl h))
    · exact well_iff.2 (.inr (.inr h))
  · rcases pass_iff.1 hd with ⟨c, x', hx', hu, h2, hd⟩ | h | h
    · obtain ⟨x, hx, r1, r2, r3, r4⟩ := back hx'
      refine .inl (pass_iff.2 (.inl ⟨c, x, hx, ?_, ?_, by rw [← r2, ← r3]; exact hd⟩))
      · unfold usedB at hu ⊢
        rw [← r1]
        exact hu
      · rcases r4 with ⟨_, _, e⟩ | ⟨_, e⟩
        · omega
        · omega
    · exact .inl (pass_iff.2 (.inr (.inl h)))
    · exact .inl (pass_iff.2 (.inr (.inr h)))
/-- One cell is another one. -/
theorem keeps_cell {v : Vw} {c0 : Nat} {x x' : Cl} {g : List Int} (hx : v.h[c0]? = some x) (hw : whiteB x' = true → whiteB x = true) (hg : whiteB x = true → whiteB x' = false → greyB x' = true)
    (he : ∀ d, whiteB x = true → (refN x.a = some d ∨ refN x.b = some d) → WhiteAt v d → (refN x'.a = some d ∨ refN x'.b = some d))
    (hs : ∀ d, greyB x = true → (refN x.a = some d ∨ refN x.b = some d) → WhiteAt v d → greyB x' = true ∧ (refN x'.a = some d ∨ refN x'.b = some d))
    (hp : ∀ d, usedB x' = true → x'.c = 2 → (refN x'.a = some d ∨ refN x'.b = some d) → WhiteAt v d → passM v d = true ∨ Wg v d) : Keeps v ⟨v.h.set c0 x', v.ph, v.sw, g, v.gl, v.laid, v.lanes⟩ := by
  have hc := (List.getElem?_eq_some_iff.1 hx).1
  have get : ∀ c, (v.h.set c0 x')[c]? = if c = c0 then some x' else v.h[c]? := fun c => by
    rw [List.getElem?_set]
    by_cases e : c0 = c
    · subst e; simp [hc]
    · have e' : ¬ c = c0 := fun h => e h.symm
      simp [e, e']
  have back : ∀ d, WhiteAt ⟨v.h.set c0 x', v.ph, v.sw, g, v.gl, v.laid, v.lanes⟩ d → WhiteAt v d := fun d ⟨y, hy, hyw⟩ => by
    have hy : (v.h.set c0 x')[d]? = some y := hy
    rw [get] at hy
    by_cases e : d = c0
    · rw [if_pos e] at hy
      cases hy
      exact ⟨x, by rw [e]; exact hx, hw hyw⟩
    · rw [if_neg e] at hy
      exact ⟨y, hy, hyw⟩
  refine ⟨List.length_set .., back, fun c y' ⟨y, hy, hyw⟩ hy' hn => ?_, fun c d y y' hy hyw hy' hd hdw => ?_, fun d hd hdw => ?_, fun d hd hdw => ?_⟩
  · have hy' : (v.h.set c0 x')[c]? = some y' := hy'
    rw [get] at hy'
    by_cases e : c = c0
    · rw [if_pos e] at hy'
      cases hy'
      rw [e, hx] at hy
      cases hy
      exact hg hyw hn
    · rw [if_neg e, hy] at hy'
      cases hy'
      rw [hyw] at hn
      cases hn
  · have hy' : (v.h.set c0 x')[c]? = some y' := hy'
    rw [get] at hy'
    by_cases e : c = c0
    · rw [if_pos e] at hy'
      cases hy'
      rw [e, hx] at hy
      cases hy
      exact he d hyw hd (back d hdw)
    · rw [if_neg e, hy] at hy'
      cases hy'
      exact hd
  · rcases well_iff.1 hd with ⟨c, y, hy, hyg, hd⟩ | h | h
    · by_cases e : c = c0
      · rw [e, hx] at hy
        cases hy
        obtain ⟨h1, h2⟩ := hs d hyg hd (back d hdw)
        exact well_iff.2 (.inl ⟨c0, x', by show (v.h.set c0 x')[c0]? = _; rw [get, if_pos rfl], h1, h2⟩)
      · exact well_iff.2 (.inl ⟨c, y, by show (v.h.set c0 x')[c]? = _; rw [get, if_neg e]; exact hy, hyg, hd⟩)
    · exact well_iff.2 (.inr (.inl h))
    · exact well_iff.2 (.inr (.inr h))
  · rcases pass_iff.1 hd with ⟨c, y, hy, hu, h2, hd⟩ | h | h
    · have hy : (v.h.set c0 x')[c]? = some y := hy
      rw [get] at hy
      by_cases e : c = c0
      · rw [if_pos e] at hy
        cases hy
        exact hp d hu h2 hd (back d hdw)
      · rw [if_neg e] at hy
        exact .inl (pass_iff.2 (.inl ⟨c, y, hy, hu, h2, hd⟩))
    · exact .inl (pass_iff.2 (.inr (.inl h)))
    · exact .inl (pass_iff.2 (.inr (.inr h)))
/-- The globals are other ones, or laid further. -/
theorem keeps_globs {v : Vw} {G : List Int} {n : Int} (hs : ∀ (i : Nat) (g : Int) (d : Nat), v.gl[i]? = some g → v.laid ≤ (i : Int) → refN g = some d → WhiteAt v d → ∃ (i' : Nat) (g' : Int), G[i']? = some g' ∧ n ≤ (i' : Int) ∧ refN g' = some d)
    (hp : ∀ (i : Nat) (g : Int) (d : Nat), G[i]? = some g → (i : Int) < n → refN g = some d → WhiteAt v d → passM v d = true ∨ Wg v d) : Keeps v ⟨v.h, v.ph, v.sw, v.grey, G, n, v.lanes⟩ := by
  refine ⟨rfl, fun c h => h, fun c x' ⟨x, hx, hw⟩ hx' hn => ?_, fun c d x x' hx _ hx' hd _ => ?_, fun d hd hw => ?_, fun d hd hw => ?_⟩
  · have e : some x = some x' := hx.symm.trans hx'
    cases e
    rw [hw] at hn
    cases hn
  · have e : some x = some x' := hx.symm.trans hx'
    cases e
    exact hd
  · rcases well_iff.1 hd with h | ⟨i, g, hg, hl, hr⟩ | h
    · exact well_iff.2 (.inl h)
    · obtain ⟨i', g', q1, q2, q3⟩ := hs i g d hg hl hr hw
      exact well_iff.2 (.inr (.inl ⟨i', g', q1, q2, q3⟩))
    · exact well_iff.2 (.inr (.inr h))
  · rcases pass_iff.1 hd with h | ⟨i, g, hg, hl, hr⟩ | h
    · exact .inl (pass_iff.2 (.inl h))
    · exact hp i g d hg hl hr hw
    · exact .inl (pass_iff.2 (.inr (.inr h)))
end Go.Proofs.YtomdbcddokaagaaDoor

/- Steps that keep the rule. -/
namespace Go.Proofs.YtomdbcddokaagaaDoor
open Go.RowKit

def Names (x : Cl) (d : Nat) : Prop := refN x.a = some d ∨ refN x.b = some d
theorem pass_shade {v : Vw} {l : List Nat} {g : List Int} (hl : Whites v.h l) {d : Nat} (h : passM v d = true) : passM (shV v l g) d = true := by
  rcases pass_iff.1 h with ⟨c, x, hx, hu, h2, hd⟩ | h | h
  · obtain ⟨x', hx', r1, r2, r3, r4⟩ := shV_cell (g := g) hl hx
    refine pass_iff.2 (.inl ⟨c, x', hx', by unfold usedB at hu ⊢; rw [r1]; exact hu, ?_, by rw [r2, r3]; exact hd⟩)
    rcases r4 with ⟨_, hw, _⟩ | ⟨_, e⟩
    · unfold whiteB at hw
      simp [h2] at hw
    · omega
  · exact pass_iff.2 (.inr (.inl h))
  · exact pass_iff.2 (.inr (.inr h))
/-- A word of a used cell is another one: the old one's cell is shaded; the new one's is, or is named by what is passed. -/
theorem jr_put {v : Vw} {c0 : Nat} {x y : Cl} {l : List Nat} {g g' : List Int} (hJ : Jr v) (hl : Whites v.h l) (hx : v.h[c0]? = some x) (hu : usedB x = true) (hy : y.k = x.k)
    (old : ∀ d, Names x d → ¬ Names y d → WhiteAt v d → d ∈ l) (new : ∀ d, Names y d → ¬ Names x d → WhiteAt v d → d ∈ l ∨ passM v d = true) :
    Jr ⟨(greyL v.h l).set c0 ⟨y.k, if c0 ∈ l then 1 else x.c, y.a, y.b⟩, v.ph, v.sw, g', v.gl, v.laid, v.lanes⟩ := by
  have h1 := (keeps_shade (g := g) hl).jr hJ
  obtain ⟨x1, hx1, r1, r2, r3, r4⟩ := shV_cell (g := g) hl hx
  have ec : x1.c = if c0 ∈ l then 1 else x.c := by
    rcases r4 with ⟨e, _, h⟩ | ⟨e, h⟩
    · rw [if_pos e, h]
    · rw [if_neg e, h]
  have nm : ∀ d, Names x1 d ↔ Names x d := fun d => by unfold Names; rw [r2, r3]
  have gone : ∀ d, Names x1 d → WhiteAt (shV v l g) d → Names y d := fun d hd hw => by
    obtain ⟨w1, w2⟩ := shV_white hw
    by_cases e : Names y d
    · exact e
    · exact absurd (old d ((nm d).1 hd) e w1) w2
  have hk : y.k = x1.k := by rw [hy, r1]
  have k2 : Keeps (shV v l g) ⟨(shV v l g).h.set c0 ⟨y.k, x1.c, y.a, y.b⟩, (shV v l g).ph, (shV v l g).sw, g', (shV v l g).gl, (shV v l g).laid, (shV v l g).lanes⟩ := by
    refine keeps_cell hx1 (fun h => ?_) (fun h hn => ?_) (fun d _ hd hw => gone d hd hw) (fun d hg hd hw => ⟨?_, gone d hd hw⟩) (fun d hu2 hc hd hw => ?_)
    · unfold whiteB usedB at h ⊢
      rw [← hk]
      exact h
    · unfold whiteB usedB at h hn
      rw [hk] at hn
      dsimp only at hn
      rw [h] at hn
      cases hn
    · unfold greyB usedB at hg ⊢
      rw [hk]
      exact hg
    · obtain ⟨w1, w2⟩ := shV_white hw
      by_cases e : Names x d
      · refine .inl (pass_iff.2 (.inl ⟨c0, x1, hx1, by unfold usedB at hu ⊢; rw [r1]; exact hu, hc, (nm d).2 e⟩))
      · rcases new d hd e w1 with h | h
        · exact absurd h w2
        · exact .inl (pass_shade hl h)
  rw [← ec]
  exact k2.jr h1
/-- A free cell is filled, black: its words' cells are shaded, or named by what is passed. -/
theorem jr_fill {v : Vw} {c0 : Nat} {x y : Cl} {l : List Nat} {g g' : List Int} (hJ : Jr v) (hl : Whites v.h l) (hx : v.h[c0]? = some x) (hu : usedB x = false) (hc : y.c = 2)
    (new : ∀ d, Names y d → WhiteAt v d → d ∈ l ∨ passM v d = true) : Jr ⟨(greyL v.h l).set c0 y, v.ph, v.sw, g', v.gl, v.laid, v.lanes⟩ := by
  have h1 := (keeps_shade (g := g) hl).jr hJ
  obtain ⟨x1, hx1, r1, r2, r3, r4⟩ := shV_cell (g := g) hl hx
  have u1 : usedB x1 = false := by unfold usedB at hu ⊢; rw [r1]; exact hu
  have k2 : Keeps (shV v l g) ⟨(shV v l g).h.set c0 y, (shV v l g).ph, (shV v l g).sw, g', (shV v l g).gl, (shV v l g).laid, (shV v l g).lanes⟩ := by
    refine keeps_cell hx1 (fun h => ?_) (fun h _ => ?_) (fun d h => ?_) (fun d h => ?_) (fun d hu2 _ hd hw => ?_)
    · unfold whiteB at h
      simp [hc] at h
    · unfold whiteB at h
      rw [u1] at h
      cases h
    · unfold whiteB at h
      rw [u1] at h
      cases h
    · unfold greyB at h
      rw [u1] at h
      cases h
    · obtain ⟨w1, w2⟩ := shV_white hw
      rcases new d hd w1 with h | h
      · exact absurd h w2
      · exact .inl (pass_shade hl h)
  exact k2.jr h1
/-- A grey cell is looked into: its words' cells are shaded. -/
theorem jr_into {v : Vw} {c0 : Nat} {x : Cl} {l : List Nat} {g g' : List Int} (hJ : Jr v) (hl : Whites v.h l) (hx : v.h[c0]? = some x) (hg : greyB x = true) (old : ∀ d, Names x d → WhiteAt v d → d ∈ l) :
    Jr ⟨(greyL v.h l).set c0 ⟨x.k, 2, x.a, x.b⟩, v.ph, v.sw, g', v.gl, v.laid, v.lanes⟩ := by
  have h1 := (keeps_shade (g := g) hl).jr hJ
  obtain ⟨x1, hx1, r1, r2, r3, r4⟩ := shV_cell (g := g) hl hx
  have cx : x.c = 1 := by unfold greyB at hg; rw [Bool.and_eq_true] at hg; exact of_decide_eq_true hg.2
  have c1 : x1.c = 1 := by
    rcases r4 with ⟨_, _, h⟩ | ⟨_, h⟩
    · exact h
    · omega
  have non : ∀ d, Names x d → ¬ WhiteAt (shV v l g) d := fun d hd hw => by
    obtain ⟨w1, w2⟩ := shV_white hw
    exact w2 (old d hd w1)
  have k2 : Keeps (shV v l g) ⟨(shV v l g).h.set c0 ⟨x.k, 2, x.a, x.b⟩, (shV v l g).ph, (shV v l g).sw, g', (shV v l g).gl, (shV v l g).laid, (shV v l g).lanes⟩ := by
    refine keeps_cell hx1 (fun h => ?_) (fun h _ => ?_) (fun d h => ?_) (fun d _ hd hw => ?_) (fun d _ _ hd hw => absurd hw (non d hd))
    · unfold whiteB at h
      simp at h
    · unfold whiteB at h
      simp [c1] at h
    · unfold whiteB at h
      simp [c1] at h
    · exact absurd hw (non d (by unfold Names; rw [← r2, ← r3]; exact hd))
  exact k2.jr h1
/-- A global is another one. -/
theorem jr_lay {v : Vw} {k : Nat} {g0 x : Int} {l : List Nat} {g : List Int} (hJ : Jr v) (hl : Whites v.h l) (hk : v.gl[k]? = some g0) (old : ∀ d, refN g0 = some d → WhiteAt v d → d ∈ l) (new : ∀ d, refN x = some d → WhiteAt v d → d ∈ l ∨ passM v d = true) :
    Jr ⟨greyL v.h l, v.ph, v.sw, g, v.gl.set k x, v.laid, v.lanes⟩ := by
  have h1 := (keeps_shade (g := g) hl).jr hJ
  have hkl := (List.getElem?_eq_some_iff.1 hk).1
  refine (keeps_globs (v := shV v l g) (G := v.gl.set k x) (n := v.laid) (fun i y d hy hla hr hw => ?_) (fun i y d hy hla hr hw => ?_)).jr h1
  · obtain ⟨w1, w2⟩ := shV_white hw
    by_cases e : i = k
    · subst e
      have e2 : some y = some g0 := hy.symm.trans hk
      cases e2
      exact absurd (old d hr w1) w2
    · exact ⟨i, y, by rw [List.getElem?_set_ne (fun h => e h.symm)]; exact hy, hla, hr⟩
  · obtain ⟨w1, w2⟩ := shV_white hw
    by_cases e : i = k
    · subst e
      rw [List.getElem?_set_self hkl] at hy
      cases hy
      rcases new d hr w1 with h | h
      · exact absurd h w2
      · exact .inl (pass_shade hl h)
    · rw [List.getElem?_set_ne (fun h => e h.symm)] at hy
      exact .inl (pass_shade hl (pass_iff.2 (.inr (.inl ⟨i, y, hy, hla, hr⟩))))
/-- One more global is laid. -/
theorem jr_root {v : Vw} {k : Nat} {g0 : Int} {l : List Nat} {g : List Int} (hJ : Jr v) (hl : Whites v.h l) (hk : v.gl[k]? = some g0) (hla : v.laid = (k : Int)) (old : ∀ d, refN g0 = some d → WhiteAt v d → d ∈ l) :
    Jr ⟨greyL v.h l, v.ph, v.sw, g, v.gl, v.laid + 1, v.lanes⟩ := by
  have h1 := (keeps_shade (g := g) hl).jr hJ
  have non : ∀ (y : Int) (d : Nat), v.gl[k]? = some y → refN y = some d → ¬ WhiteAt (shV v l g) d := fun y d hy hr hw => by
    obtain ⟨w1, w2⟩ := shV_white hw
    rw [hk] at hy
    cases hy
    exact w2 (old d hr w1)
  refine (keeps_globs (v := shV v l g) (G := v.gl) (n := v.laid + 1) (fun i y d hy hi hr hw => ?_) (fun i y d hy hi hr hw => ?_)).jr h1
  · have hi' : v.laid ≤ (i : Int) := hi
    by_cases e : i = k
    · subst e
      exact absurd hw (non y d hy hr)
    · exact ⟨i, y, hy, by omega, hr⟩
  · by_cases e : i = k
    · subst e
      exact absurd hw (non y d hy hr)
    · exact .inl (pass_shade hl (pass_iff.2 (.inr (.inl ⟨i, y, hy, by omega, hr⟩))))
/-- A lane is scanned. -/
theorem jr_scan {v : Vw} {k : Nat} {t : Ln} {l : List Nat} {g : List Int} (hJ : Jr v) (hl : Whites v.h l) (hk : v.lanes[k]? = some t) (old : ∀ w ∈ t.roots, ∀ d, refN w = some d → WhiteAt v d → d ∈ l) :
    Jr ⟨greyL v.h l, v.ph, v.sw, g, v.gl, v.laid, v.lanes.set k ⟨t.roots, true, t.en⟩⟩ := by
  have h1 := (keeps_shade (g := g) hl).jr hJ
  have hkl := (List.getElem?_eq_some_iff.1 hk).1
  have non : ∀ w ∈ t.roots, ∀ d, refN w = some d → ¬ WhiteAt (shV v l g) d := fun w hw d hr hww => by
    obtain ⟨w1, w2⟩ := shV_white hww
    exact w2 (old w hw d hr w1)
  refine (keeps_lanes (v := shV v l g) (L := v.lanes.set k ⟨t.roots, true, t.en⟩) (fun i s w d hs h2 h3 hw hr hww => ?_) (fun i s w d hs h2 hw hr hww => ?_)).jr h1
  · by_cases e : i = k
    · subst e
      have e2 : some s = some t := hs.symm.trans hk
      cases e2
      exact absurd hww (non w hw d hr)
    · exact ⟨i, s, by rw [List.getElem?_set_ne (fun h => e h.symm)]; exact hs, h2, h3, hw⟩
  · by_cases e : i = k
    · subst e
      rw [List.getElem?_set_self hkl] at hs
      cases hs
      exact absurd hww (non w hw d hr)
    · rw [List.getElem?_set_ne (fun h => e h.symm)] at hs
      exact .inl (pass_shade hl (pass_iff.2 (.inr (.inr ⟨i, s, hs, h2, w, hw, hr⟩))))
/-- What a lane may take: where it is scanned, what is named by what is passed, or well guarded. -/
def May (v : Vw) (w : Int) : Prop := ∀ d, refN w = some d → WhiteAt v d → passM v d = true ∨ Wg v d
/-- A lane that has not ended has other words, or ends. -/
theorem jr_lane {v : Vw} {k : Nat} {t t' : Ln} (hJ : Jr v) (hk : v.lanes[k]? = some t) (hen : t.en = false) (hsc : t'.sc = t.sc) (hr : t.sc = true → ∀ w ∈ t'.roots, w ∈ t.roots ∨ May v w) : Jr ⟨v.h, v.ph, v.sw, v.grey, v.gl, v.laid, v.lanes.set k t'⟩ := by
  have hkl := (List.getElem?_eq_some_iff.1 hk).1
  refine (keeps_lanes (L := v.lanes.set k t') (fun i s w _ hs h2 h3 hw _ _ => ?_) (fun i s w d hs h2 hw hrf hww => ?_)).jr hJ
  · by_cases e : i = k
    · subst e
      rw [hk] at hs
      cases hs
      rw [hen] at h3
      cases h3
    · exact ⟨i, s, by rw [List.getElem?_set_ne (fun h => e h.symm)]; exact hs, h2, h3, hw⟩
  · by_cases e : i = k
    · subst e
      rw [List.getElem?_set_self hkl] at hs
      cases hs
      rcases hr (by rw [← hsc]; exact h2) w hw with h | h
      · exact .inl (pass_iff.2 (.inr (.inr ⟨i, t, hk, by rw [← hsc]; exact h2, w, h, hrf⟩)))
      · exact h d hrf hww
    · rw [List.getElem?_set_ne (fun h => e h.symm)] at hs
      exact .inl (pass_iff.2 (.inr (.inr ⟨i, s, hs, h2, w, hw, hrf⟩)))
/-- A lane comes. -/
theorem jr_spawn {v : Vw} {t : Ln} (hJ : Jr v) (hr : t.sc = true → ∀ w ∈ t.roots, May v w) : Jr ⟨v.h, v.ph, v.sw, v.grey, v.gl, v.laid, v.lanes ++ [t]⟩ := by
  refine (keeps_lanes (L := v.lanes ++ [t]) (fun i s w _ hs h2 h3 hw _ _ => ?_) (fun i s w d hs h2 hw hrf hww => ?_)).jr hJ
  · exact ⟨i, s, by rw [List.getElem?_append_left (List.getElem?_eq_some_iff.1 hs).1]; exact hs, h2, h3, hw⟩
  · by_cases e : i < v.lanes.length
    · rw [List.getElem?_append_left e] at hs
      exact .inl (pass_iff.2 (.inr (.inr ⟨i, s, hs, h2, w, hw, hrf⟩)))
    · rw [List.getElem?_append_right (by omega)] at hs
      have : s = t := by
        cases hi : i - v.lanes.length with
        | zero => rw [hi] at hs; exact (Option.some.inj hs).symm
        | succ n => rw [hi] at hs; simp at hs
      subst this
      exact hr h2 w hw d hrf hww
/-- A scanned lane's own words; a cell that one of them names; a global; an ended lane's. -/
theorem may_own {v : Vw} {k : Nat} {t : Ln} {w : Int} (hk : v.lanes[k]? = some t) (hs : t.sc = true) (hw : w ∈ t.roots) : May v w := fun _ hr _ => .inl (pass_iff.2 (.inr (.inr ⟨k, t, hk, hs, w, hw, hr⟩)))
theorem may_cell {v : Vw} {c : Nat} {x : Cl} (hJ : Jr v) (hp : passM v c = true) (hx : v.h[c]? = some x) (hu : usedB x = true) (hc : x.c = 0 ∨ x.c = 1 ∨ x.c = 2) {w : Int} (hw : w = x.a ∨ w = x.b) : May v w := fun d hr hww => by
  have hn : refN x.a = some d ∨ refN x.b = some d := by
    rcases hw with rfl | rfl
    · exact .inl hr
    · exact .inr hr
  obtain ⟨y, hy, hyw⟩ := hww
  rcases hc with h | h | h
  · have hxw : whiteB x = true := by unfold whiteB; rw [hu, h]; rfl
    exact .inr (.next (hJ c x hx hxw hp) hx hn hy hyw)
  · exact .inr (.seed hy hyw (grey_named hx (by unfold greyB; rw [hu, h]; rfl) hn))
  · exact .inl (pass_iff.2 (.inl ⟨c, x, hx, hu, h, hn⟩))
theorem may_glob {v : Vw} {i : Nat} {w : Int} (h : v.gl[i]? = some w) : May v w := fun d hr hww => by
  obtain ⟨y, hy, hyw⟩ := hww
  by_cases e : v.laid ≤ (i : Int)
  · exact .inr (.seed hy hyw (well_iff.2 (.inr (.inl ⟨i, w, h, e, hr⟩))))
  · exact .inl (pass_iff.2 (.inr (.inl ⟨i, w, h, by omega, hr⟩)))
theorem may_ended {v : Vw} {k : Nat} {t : Ln} {w : Int} (hk : v.lanes[k]? = some t) (he : t.en = true) (hw : w ∈ t.roots) : May v w := fun d hr hww => by
  obtain ⟨y, hy, hyw⟩ := hww
  cases hs : t.sc with
  | true => exact .inl (pass_iff.2 (.inr (.inr ⟨k, t, hk, hs, w, hw, hr⟩)))
  | false => exact .inr (.seed hy hyw (well_iff.2 (.inr (.inr ⟨k, t, hk, hs, he, w, hw, hr⟩))))
end Go.Proofs.YtomdbcddokaagaaDoor

/- What is shaded, as places; the grey list. -/
namespace Go.Proofs.YtomdbcddokaagaaDoor
open Go.RowKit

def shN1 (h : List Cl) (out : List Nat) (x : Int) : List Nat := match refN x with
  | none => out
  | some c => match h[c]? with
    | none => out
    | some y => if whiteB y && !(out.contains c) then out ++ [c] else out
/-- The cells to shade, as places. -/
def shN (h : List Cl) (ws : List Int) : List Nat := ws.foldl (shN1 h) []
theorem any_cast (l : List Nat) (c : Nat) : (l.map (Int.ofNat)).any (fun z => z == (c : Int)) = l.contains c := by
  induction l with
  | nil => rfl
  | cons a r ih =>
    rw [List.map_cons, List.any_cons, ih, List.contains_cons]
    congr 1
    by_cases e : a = c
    · subst e
      rw [show (Int.ofNat a == (a : Int)) = true from beq_iff_eq.2 rfl, beq_iff_eq.2 rfl]
    · have e1 : (Int.ofNat a == (c : Int)) = false := by
        rw [beq_eq_false_iff_ne]
        intro h
        exact e (Int.ofNat.inj h)
      have e2 : (c == a) = false := by rw [beq_eq_false_iff_ne]; exact fun h => e h.symm
      rw [e1, e2]
theorem sh1_map (h : List Cl) (out : List Nat) (x : Int) : shStep h (out.map Int.ofNat) x = (shN1 h out x).map Int.ofNat := by
  unfold shStep shN1
  cases refN x with
  | none => rfl
  | some c =>
    dsimp only
    cases h[c]? with
    | none => rfl
    | some y =>
      dsimp only
      rw [any_cast]
      split
      · rw [List.map_append]; rfl
      · rfl
theorem sh_fold (h : List Cl) : ∀ (ws : List Int) (out : List Nat), ws.foldl (shStep h) (out.map Int.ofNat) = (ws.foldl (shN1 h) out).map Int.ofNat
  | [], out => rfl
  | x :: r, out => by rw [List.foldl_cons, List.foldl_cons, sh1_map, sh_fold h r]
theorem sh_places (h : List Cl) (ws : List Int) : shM h ws = (shN h ws).map Int.ofNat := sh_fold h ws []
theorem sh1_in {h : List Cl} {out : List Nat} {x : Int} : ∀ d ∈ out, d ∈ shN1 h out x := fun d hd => by
  unfold shN1
  split
  · exact hd
  · split
    · exact hd
    · split
      · exact List.mem_append_left _ hd
      · exact hd
theorem sh1_ok {h : List Cl} {out : List Nat} {x : Int} (ho : Whites h out ∧ out.Nodup) : Whites h (shN1 h out x) ∧ (shN1 h out x).Nodup := by
  unfold shN1
  split
  · exact ho
  · rename_i c _
    split
    · exact ho
    · rename_i y hy
      split
      · rename_i hw
        rw [Bool.and_eq_true] at hw
        refine ⟨fun d hd => ?_, ?_⟩
        · rcases List.mem_append.1 hd with hd | hd
          · exact ho.1 d hd
          · have e : d = c := by simpa using hd
            exact ⟨y, by rw [e]; exact hy, hw.1⟩
        · have hn : c ∉ out := by simpa using hw.2
          refine List.nodup_append.2 ⟨ho.2, by simp, fun a ha b hb e => ?_⟩
          have hb' : b = c := by simpa using hb
          exact hn (by rw [← hb', ← e]; exact ha)
      · exact ho
theorem sh1_new {h : List Cl} {out : List Nat} {x : Int} {d : Nat} {y : Cl} (hr : refN x = some d) (hy : h[d]? = some y) (hw : whiteB y = true) : d ∈ shN1 h out x := by
  unfold shN1
  rw [hr]
  dsimp only
  rw [hy]
  dsimp only
  rw [hw, Bool.true_and]
  split
  · exact List.mem_append_right _ (by simp)
  · rename_i hn
    simpa using hn
theorem shf_in {h : List Cl} : ∀ (ws : List Int) (out : List Nat), ∀ d ∈ out, d ∈ ws.foldl (shN1 h) out
  | [], _, _, hd => hd
  | _ :: r, _, d, hd => shf_in r _ d (sh1_in d hd)
theorem shf_ok {h : List Cl} : ∀ (ws : List Int) (out : List Nat), Whites h out ∧ out.Nodup → Whites h (ws.foldl (shN1 h) out) ∧ (ws.foldl (shN1 h) out).Nodup
  | [], _, ho => ho
  | _ :: r, _, ho => shf_ok r _ (sh1_ok ho)
theorem shf_new {h : List Cl} {d : Nat} {y : Cl} (hy : h[d]? = some y) (hw : whiteB y = true) : ∀ (ws : List Int) (out : List Nat), (∃ w ∈ ws, refN w = some d) → d ∈ ws.foldl (shN1 h) out
  | [], _, ⟨_, h, _⟩ => by cases h
  | x :: r, out, ⟨w, hm, hr⟩ => by
    rcases List.mem_cons.1 hm with rfl | hm
    · exact shf_in r _ d (sh1_new hr hy hw)
    · exact shf_new hy hw r _ ⟨w, hm, hr⟩
theorem sh_whites (h : List Cl) (ws : List Int) : Whites h (shN h ws) := (shf_ok ws [] ⟨(fun _ h => by cases h), List.nodup_nil⟩).1
theorem sh_nodup (h : List Cl) (ws : List Int) : (shN h ws).Nodup := (shf_ok ws [] ⟨(fun _ h => by cases h), List.nodup_nil⟩).2
/-- Each white cell that is named is there. -/
theorem sh_all {v : Vw} {ws : List Int} {w : Int} {d : Nat} (hm : w ∈ ws) (hr : refN w = some d) (hw : WhiteAt v d) : d ∈ shN v.h ws := by
  obtain ⟨y, hy, hyw⟩ := hw
  exact shf_new hy hyw ws [] ⟨w, hm, hr⟩
end Go.Proofs.YtomdbcddokaagaaDoor

/- The grey list: just the grey cells, each once. -/
namespace Go.Proofs.YtomdbcddokaagaaDoor
open Go.RowKit

/-- The list is places of grey cells, each once, and all of them. -/
structure Gy (v : Vw) (G : List Nat) : Prop where
  e : v.grey = G.map Int.ofNat
  nd : G.Nodup
  m : ∀ c, c ∈ G ↔ gr0 v.h c = true
theorem grM_some : ∀ (n : Nat) (l : List Int) (m m' : Nat → Bool), grM n l m = some m' → ∃ G : List Nat, l = G.map Int.ofNat ∧ G.Nodup ∧ (∀ c ∈ G, c < n ∧ m c = true) ∧ ∀ c, m' c = (m c && !(G.contains c))
  | n, [], m, m', h => by
    have e : m = m' := by simpa [grM] using h
    subst e
    exact ⟨[], rfl, List.nodup_nil, (fun _ h => by cases h), fun c => by simp⟩
  | n, c :: r, m, m', h => by
    unfold grM at h
    split at h
    · rename_i hc
      obtain ⟨G, h1, h2, h3, h4⟩ := grM_some n r _ m' h
      have ec : c = Int.ofNat c.toNat := by
        show c = (c.toNat : Int)
        omega
      refine ⟨c.toNat :: G, by rw [List.map_cons, ← ec, ← h1], ?_, fun d hd => ?_, fun d => ?_⟩
      · refine List.nodup_cons.2 ⟨fun hm => ?_, h2⟩
        have := (h3 _ hm).2
        simp at this
      · rcases List.mem_cons.1 hd with rfl | hd
        · exact ⟨by omega, hc.2.2⟩
        · have := h3 d hd
          by_cases e : d = c.toNat
          · simp [e] at this
          · exact ⟨this.1, by simpa [e] using this.2⟩
      · rw [h4 d, List.contains_cons]
        by_cases e : d = c.toNat
        · simp [e]
        · have e1 : (d == c.toNat) = false := beq_eq_false_iff_ne.2 e
          simp [e, e1]
    · cases h
theorem grM_of : ∀ (n : Nat) (G : List Nat) (m : Nat → Bool), G.Nodup → (∀ c ∈ G, c < n ∧ m c = true) → grM n (G.map Int.ofNat) m = some (fun c => m c && !(G.contains c))
  | n, [], m, _, _ => by simp [grM]
  | n, c :: r, m, hn, hm => by
    rw [List.map_cons]
    unfold grM
    have hc := hm c (List.mem_cons_self ..)
    have hn' := List.nodup_cons.1 hn
    rw [if_pos ⟨Int.natCast_nonneg c, Int.ofNat_lt.2 hc.1, hc.2⟩]
    rw [grM_of n r _ hn'.2 (fun d hd => ?_)]
    · congr 1
      funext d
      rw [List.contains_cons]
      show ((if d = c then false else m d) && !(r.contains d)) = _
      by_cases e : d = c
      · simp [e]
      · have e1 : (d == c) = false := beq_eq_false_iff_ne.2 e
        simp [e, e1]
    · have := hm d (List.mem_cons_of_mem _ hd)
      have e : ¬ d = (Int.ofNat c).toNat := fun e => hn'.1 (by rw [← show d = c from e]; exact hd)
      exact ⟨this.1, by rw [if_neg e]; exact this.2⟩
theorem gr0_lt {h : List Cl} {c : Nat} (e : gr0 h c = true) : c < h.length := by
  unfold gr0 at e
  split at e
  · rename_i x hx; exact (List.getElem?_eq_some_iff.1 hx).1
  · cases e
theorem gy_of {v : Vw} (h : greyOk v = true) : ∃ G, Gy v G := by
  unfold greyOk at h
  split at h
  · rename_i m hm
    obtain ⟨G, h1, h2, h3, h4⟩ := grM_some _ _ _ _ hm
    refine ⟨G, h1, h2, fun c => ⟨fun hc => (h3 c hc).2, fun hc => ?_⟩⟩
    have h5 : (List.range v.h.length).any m = false := by simpa using h
    have h6 := List.any_eq_false.1 h5 c (List.mem_range.2 (gr0_lt hc))
    rw [h4 c, hc] at h6
    simpa using h6
  · cases h
theorem of_gy {v : Vw} {G : List Nat} (h : Gy v G) : greyOk v = true := by
  unfold greyOk
  rw [h.e, grM_of _ G _ h.nd (fun c hc => ⟨gr0_lt ((h.m c).1 hc), (h.m c).1 hc⟩)]
  dsimp only
  rw [Bool.not_eq_true', List.any_eq_false]
  intro c _
  cases hc : gr0 v.h c with
  | false => simp
  | true => simpa using (h.m c).2 hc
end Go.Proofs.YtomdbcddokaagaaDoor

/- The grey list behind a step; the view's form. -/
namespace Go.Proofs.YtomdbcddokaagaaDoor
open Go.RowKit

theorem gr0_grey {h : List Cl} {l : List Nat} (hl : Whites h l) (c : Nat) : gr0 (greyL h l) c = (gr0 h c || l.contains c) := by
  unfold gr0
  rw [greyL_get]
  cases hc : h[c]? with
  | none =>
    have : c ∉ l := fun hm => by
      obtain ⟨x, hx, _⟩ := hl c hm
      rw [hc] at hx
      cases hx
    simp [this]
  | some x =>
    by_cases e : c ∈ l
    · obtain ⟨y, hy, hw⟩ := hl c e
      rw [hc] at hy
      cases hy
      unfold whiteB at hw
      rw [Bool.and_eq_true] at hw
      have : greyB (greyC x) = true := by
        unfold greyB usedB greyC
        unfold usedB at hw
        rw [hw.1]
        rfl
      simp [e, this]
    · simp [e]
theorem gy_shade {v : Vw} {G l : List Nat} (h : Gy v G) (hl : Whites v.h l) (hn : l.Nodup) : Gy (shV v l (v.grey ++ l.map Int.ofNat)) (G ++ l) := by
  refine ⟨by show v.grey ++ _ = _; rw [h.e, List.map_append], List.nodup_append.2 ⟨h.nd, hn, fun a ha b hb e => ?_⟩, fun c => ?_⟩
  · subst e
    obtain ⟨x, hx, hw⟩ := hl a hb
    have := (h.m a).1 ha
    unfold gr0 at this
    rw [hx] at this
    dsimp only at this
    unfold greyB at this
    unfold whiteB at hw
    rw [Bool.and_eq_true] at this hw
    have h1 := of_decide_eq_true this.2
    have h2 := of_decide_eq_true hw.2
    omega
  · show c ∈ G ++ l ↔ gr0 (greyL v.h l) c = true
    rw [gr0_grey hl, List.mem_append, Bool.or_eq_true, h.m c]
    simp
/-- A cell that is not grey, neither before nor behind. -/
theorem gr0_set {h : List Cl} {c0 : Nat} {y : Cl} (hc : c0 < h.length) (c : Nat) : gr0 (h.set c0 y) c = if c = c0 then greyB y else gr0 h c := by
  unfold gr0
  rw [List.getElem?_set]
  by_cases e : c0 = c
  · subst e
    simp [hc]
  · have e' : ¬ c = c0 := fun h => e h.symm
    simp [e, e']
theorem gy_set {v : Vw} {G : List Nat} {c0 : Nat} {x y : Cl} (h : Gy v G) (hx : v.h[c0]? = some x) (hg : greyB y = greyB x) : Gy ⟨v.h.set c0 y, v.ph, v.sw, v.grey, v.gl, v.laid, v.lanes⟩ G := by
  refine ⟨h.e, h.nd, fun c => ?_⟩
  show c ∈ G ↔ gr0 (v.h.set c0 y) c = true
  rw [gr0_set (List.getElem?_eq_some_iff.1 hx).1, h.m c]
  by_cases e : c = c0
  · subst e
    rw [if_pos rfl, hg]
    unfold gr0
    rw [hx]
  · rw [if_neg e]
/-- The first grey cell becomes black. -/
theorem gy_into {v : Vw} {G : List Nat} {c0 : Nat} {x : Cl} {g : List Int} (h : Gy v (c0 :: G)) (hx : v.h[c0]? = some x) (hg : g = G.map Int.ofNat) : Gy ⟨v.h.set c0 ⟨x.k, 2, x.a, x.b⟩, v.ph, v.sw, g, v.gl, v.laid, v.lanes⟩ G := by
  have hn := List.nodup_cons.1 h.nd
  refine ⟨hg, hn.2, fun c => ?_⟩
  show c ∈ G ↔ gr0 (v.h.set c0 _) c = true
  rw [gr0_set (List.getElem?_eq_some_iff.1 hx).1]
  by_cases e : c = c0
  · subst e
    rw [if_pos rfl]
    constructor
    · intro hm
      exact absurd hm hn.1
    · intro hm
      unfold greyB at hm
      simp at hm
  · rw [if_neg e, ← h.m c, List.mem_cons]
    constructor
    · exact fun hm => .inr hm
    · rintro (hm | hm)
      · exact absurd hm e
      · exact hm
end Go.Proofs.YtomdbcddokaagaaDoor

/- The view's form, in pieces. -/
namespace Go.Proofs.YtomdbcddokaagaaDoor
open Go.RowKit

theorem words_iff {v : Vw} : wordsOk v = true ↔ (∀ (c : Nat) (x : Cl), v.h[c]? = some x → usedB x = true → fitsW v.h.length x.a = true ∧ fitsW v.h.length x.b = true) ∧ (∀ g ∈ v.gl, fitsW v.h.length g = true) ∧ ∀ l ∈ v.lanes, ∀ w ∈ l.roots, fitsW v.h.length w = true := by
  unfold wordsOk
  simp only [List.all_eq_true]
  constructor
  · intro h
    refine ⟨fun c x hx hu => ?_, fun g hg => ?_, fun l hl w hw => ?_⟩
    · have := h _ (cell_holder hx hu)
      exact ⟨this x.a (by simp), this x.b (by simp)⟩
    · obtain ⟨i, hi⟩ := List.getElem?_of_mem hg
      exact h _ (glob_holder hi) g (by simp)
    · obtain ⟨i, hi⟩ := List.getElem?_of_mem hl
      exact h _ (lane_holder hi) w hw
  · rintro ⟨h1, h2, h3⟩ y hy w hw
    rcases holder_or hy with ⟨c, x, hx, hu, rfl⟩ | ⟨i, g, hg, rfl⟩ | ⟨i, l, hl, rfl⟩
    · have := h1 c x hx hu
      rcases List.mem_cons.1 hw with rfl | hw
      · exact this.1
      · rcases List.mem_cons.1 hw with rfl | hw
        · exact this.2
        · cases hw
    · rcases List.mem_cons.1 hw with rfl | hw
      · exact h2 _ (List.mem_of_getElem? hg)
      · cases hw
    · exact h3 l (List.mem_of_getElem? hl) w hw
/-- A view that may be, in a phase in which the rule is asked, with its grey list. -/
structure Fm (v : Vw) (G : List Nat) : Prop where
  ph : v.ph = 1 ∨ v.ph = 2
  sw : 0 ≤ v.sw ∧ v.sw ≤ v.h.length
  la : 0 ≤ v.laid ∧ v.laid ≤ v.gl.length
  hd : ∀ x ∈ v.h, x.k ≤ 3 ∧ x.c ≤ 2
  wc : ∀ (c : Nat) (x : Cl), v.h[c]? = some x → usedB x = true → fitsW v.h.length x.a = true ∧ fitsW v.h.length x.b = true
  wg : ∀ g ∈ v.gl, fitsW v.h.length g = true
  wl : ∀ l ∈ v.lanes, ∀ w ∈ l.roots, fitsW v.h.length w = true
  gy : Gy v G
theorem Fm.may {v : Vw} {G : List Nat} (h : Fm v G) : mayV v = true := by
  unfold mayV upToB
  have p : v.ph ≤ 3 := by rcases h.ph with e | e <;> omega
  rw [decide_eq_true p, decide_eq_true h.sw.1, decide_eq_true h.sw.2, decide_eq_true h.la.1, decide_eq_true h.la.2, words_iff.2 ⟨h.wc, h.wg, h.wl⟩, of_gy h.gy]
  simp only [Bool.true_and, Bool.and_true, List.all_eq_true]
  intro x hx
  have := h.hd x hx
  unfold headB
  rw [decide_eq_true this.1, decide_eq_true this.2]
  rfl
theorem fm_of {v : Vw} (h : mayV v = true) (hp : v.ph = 1 ∨ v.ph = 2) : ∃ G, Fm v G := by
  unfold mayV upToB at h
  simp only [Bool.and_eq_true, decide_eq_true_eq, List.all_eq_true] at h
  obtain ⟨_, ⟨s1, s2⟩, ⟨l1, l2⟩, hh, hw, hg⟩ := h
  obtain ⟨G, hG⟩ := gy_of hg
  obtain ⟨w1, w2, w3⟩ := words_iff.1 hw
  refine ⟨G, hp, ⟨s1, s2⟩, ⟨l1, l2⟩, fun x hx => ?_, w1, w2, w3, hG⟩
  have := hh x hx
  unfold headB at this
  simpa using this
/-- Where the rule holds in form and Jr, Holds says so. -/
theorem holds_of {v : Vw} {G : List Nat} (h : Fm v G) (hJ : Jr v) (hc : ∀ x ∈ v.h, 0 ≤ x.c) : hoE v = .tuple #[.bool true, .int .i64 0, .int .i64 0] := by
  have hl := loss_of_jr hJ (fun x hx => by have := (h.hd x hx).2; have := hc x hx; omega)
  have ho : onB v.ph = true := by
    unfold onB
    rcases h.ph with e | e <;> simp [e]
  unfold hoE hoM
  rw [h.may, if_pos rfl, ho, if_pos rfl, hl]
theorem jr_of {v : Vw} (hm : mayV v = true) (hp : v.ph = 1 ∨ v.ph = 2) (h : (hoM v).1 = true) : Jr v := by
  have ho : onB v.ph = true := by
    unfold onB
    rcases hp with e | e <;> simp [e]
  unfold hoM at h
  rw [hm, if_pos rfl, ho, if_pos rfl] at h
  cases hl : lossM v with
  | none => exact jr_of_loss hl
  | some c => rw [hl] at h; cases h
/-- The form behind a shading. -/
theorem fm_shade {v : Vw} {G l : List Nat} (h : Fm v G) (hl : Whites v.h l) (hn : l.Nodup) : Fm (shV v l (v.grey ++ l.map Int.ofNat)) (G ++ l) := by
  have len : (shV v l (v.grey ++ l.map Int.ofNat)).h.length = v.h.length := greyL_len l v.h
  have back : ∀ {c : Nat} {x' : Cl}, (greyL v.h l)[c]? = some x' → ∃ x, v.h[c]? = some x ∧ (x' = greyC x ∨ x' = x) := fun {c x'} hx => by
    rw [greyL_get] at hx
    obtain ⟨x, h1, h2⟩ := Option.map_eq_some_iff.1 hx
    refine ⟨x, h1, ?_⟩
    by_cases e : c ∈ l
    · rw [if_pos e] at h2; exact .inl h2.symm
    · rw [if_neg e] at h2; exact .inr h2.symm
  refine ⟨h.ph, by rw [len]; exact h.sw, h.la, fun x' hx => ?_, fun c x' hx hu => ?_, fun g hg => by rw [len]; exact h.wg g hg, fun t ht w hw => by rw [len]; exact h.wl t ht w hw, gy_shade h.gy hl hn⟩
  · obtain ⟨c, hc⟩ := List.getElem?_of_mem hx
    obtain ⟨x, h1, h2⟩ := back hc
    have := h.hd x (List.mem_of_getElem? h1)
    rcases h2 with rfl | rfl
    · exact ⟨this.1, by show (1 : Int) ≤ 2; omega⟩
    · exact this
  · rw [len]
    obtain ⟨x, h1, h2⟩ := back hx
    rcases h2 with rfl | rfl
    · exact h.wc c x h1 hu
    · exact h.wc c x' h1 hu
end Go.Proofs.YtomdbcddokaagaaDoor

/- Only what is named is shaded. -/
namespace Go.Proofs.YtomdbcddokaagaaDoor
open Go.RowKit

theorem sh1_only {h : List Cl} {out : List Nat} {x : Int} {d : Nat} (hd : d ∈ shN1 h out x) : d ∈ out ∨ refN x = some d := by
  unfold shN1 at hd
  split at hd
  · exact .inl hd
  · rename_i c hc
    split at hd
    · exact .inl hd
    · split at hd
      · rcases List.mem_append.1 hd with hd | hd
        · exact .inl hd
        · have e : d = c := by simpa using hd
          rw [e]
          exact .inr hc
      · exact .inl hd
theorem shf_only {h : List Cl} {d : Nat} : ∀ (ws : List Int) (out : List Nat), d ∈ ws.foldl (shN1 h) out → d ∈ out ∨ ∃ w ∈ ws, refN w = some d
  | [], _, hd => .inl hd
  | x :: r, out, hd => by
    rcases shf_only r _ hd with h1 | ⟨w, hw, hr⟩
    · rcases sh1_only h1 with h2 | h2
      · exact .inl h2
      · exact .inr ⟨x, List.mem_cons_self, h2⟩
    · exact .inr ⟨w, List.mem_cons_of_mem _ hw, hr⟩
theorem sh_only {h : List Cl} {ws : List Int} {d : Nat} (hd : d ∈ shN h ws) : ∃ w ∈ ws, refN w = some d := by
  rcases shf_only ws [] hd with h1 | h1
  · cases h1
  · exact h1
end Go.Proofs.YtomdbcddokaagaaDoor

/- The steps of lanes and of the collector, as moves of views. -/
namespace Go.Proofs.YtomdbcddokaagaaDoor
open Go.RowKit

/-- Where a lane may take a word from. -/
def Src (v : Vw) (t : Ln) (x : Int) : Prop :=
  x ∈ t.roots ∨ x = 53 ∨ (∃ (c : Nat) (y : Cl) (w : Int), w ∈ t.roots ∧ refN w = some c ∧ v.h[c]? = some y ∧ usedB y = true ∧ (x = y.a ∨ x = y.b)) ∨ x ∈ v.gl ∨ (∃ o ∈ v.lanes, o.en = true ∧ x ∈ o.roots) ∨ ∃ (c : Nat) (y : Cl), refN x = some c ∧ v.h[c]? = some y ∧ usedB y = true ∧ y.c = 2 ∧ fitsW v.h.length x = true
/-- One of a lane's words, or a number. -/
def Own (t : Ln) (x : Int) : Prop := x ∈ t.roots ∨ x = 53
/-- A shading: white cells, none twice, each named by one of the words; each white cell that one of those names that must be. -/
structure Shd (v : Vw) (ws must : List Int) (l : List Nat) : Prop where
  wh : Whites v.h l
  nd : l.Nodup
  on : ∀ c ∈ l, ∃ w ∈ ws, refN w = some c
  al : ∀ w ∈ must, ∀ d, refN w = some d → WhiteAt v d → d ∈ l
def setL (v : Vw) (i : Nat) (t : Ln) : Vw := ⟨v.h, v.ph, v.sw, v.grey, v.gl, v.laid, v.lanes.set i t⟩
inductive Mv (v : Vw) : Vw → Prop where
  | take (i : Nat) (t : Ln) (x : Int) (hi : v.lanes[i]? = some t) (he : t.en = false) (hs : Src v t x) : Mv v (setL v i ⟨t.roots ++ [x], t.sc, t.en⟩)
  | drop (i : Nat) (t : Ln) (r : List Int) (hi : v.lanes[i]? = some t) (he : t.en = false) (hs : ∀ w ∈ r, w ∈ t.roots) (hl : r.length ≤ t.roots.length) : Mv v (setL v i ⟨r, t.sc, t.en⟩)
  | ends (i : Nat) (t : Ln) (n : Int) (hi : v.lanes[i]? = some t) (he : t.en = false) (hs : Own t n) : Mv v (setL v i ⟨[n], t.sc, true⟩)
  | spawn (i : Nat) (t : Ln) (a b : Int) (hi : v.lanes[i]? = some t) (ha : Own t a) (hb : Own t b) (h8 : v.lanes.length < 8) : Mv v ⟨v.h, v.ph, v.sw, v.grey, v.gl, v.laid, v.lanes ++ [⟨[a, b], t.sc, false⟩]⟩
  | store (i : Nat) (t : Ln) (c : Nat) (x y : Cl) (w old n : Int) (l : List Nat) (y' : Cl) (hi : v.lanes[i]? = some t) (hw : w ∈ t.roots) (hc : refN w = some c) (hx : v.h[c]? = some x) (hu : usedB x = true) (hn : Own t n) (hl : Shd v [old, n] (if t.sc then [old] else [old, n]) l)
      (hy : (greyL v.h l)[c]? = some y) (hp : (old = x.a ∧ y' = ⟨y.k, y.c, n, y.b⟩) ∨ (old = x.b ∧ y' = ⟨y.k, y.c, y.a, n⟩)) : Mv v ⟨(greyL v.h l).set c y', v.ph, v.sw, v.grey ++ l.map Int.ofNat, v.gl, v.laid, v.lanes⟩
  | fill (i : Nat) (t : Ln) (c : Nat) (x : Cl) (k a b : Int) (l : List Nat) (hi : v.lanes[i]? = some t) (hx : v.h[c]? = some x) (hu : x.k = 0) (hk : 1 ≤ k ∧ k ≤ 3) (ha : Own t a) (hb : Own t b) (hl : Shd v [a, b] (if t.sc then [] else [a, b]) l) : Mv v ⟨(greyL v.h l).set c ⟨k, 2, a, b⟩, v.ph, v.sw, v.grey ++ l.map Int.ofNat, v.gl, v.laid, v.lanes⟩
  | lay (i : Nat) (t : Ln) (k : Nat) (g0 n : Int) (l : List Nat) (hi : v.lanes[i]? = some t) (hk : v.gl[k]? = some g0) (hn : Own t n) (hl : Shd v [g0, n] (if t.sc then [g0] else [g0, n]) l) : Mv v ⟨greyL v.h l, v.ph, v.sw, v.grey ++ l.map Int.ofNat, v.gl.set k n, v.laid, v.lanes⟩
  | root (k : Nat) (g : Int) (l : List Nat) (hk : v.gl[k]? = some g) (hla : v.laid = (k : Int)) (hl : Shd v [g] [g] l) : Mv v ⟨greyL v.h l, v.ph, v.sw, v.grey ++ l.map Int.ofNat, v.gl, v.laid + 1, v.lanes⟩
  | scan (i : Nat) (t : Ln) (l : List Nat) (hi : v.lanes[i]? = some t) (hl : Shd v t.roots t.roots l) : Mv v ⟨greyL v.h l, v.ph, v.sw, v.grey ++ l.map Int.ofNat, v.gl, v.laid, v.lanes.set i ⟨t.roots, true, t.en⟩⟩
  | into (c : Nat) (x : Cl) (r : List Int) (l : List Nat) (hv : v.grey = (c : Int) :: r) (hx : v.h[c]? = some x) (hl : Shd v [x.a, x.b] [x.a, x.b] l) : Mv v ⟨(greyL v.h l).set c ⟨x.k, 2, x.a, x.b⟩, v.ph, v.sw, r ++ l.map Int.ofNat, v.gl, v.laid, v.lanes⟩
theorem ref53 : refN 53 = none := by kernel_rfl
theorem fits53 (n : Nat) : fitsW n 53 = true := by
  have h : wd 53 = true := by kernel_rfl
  unfold fitsW
  rw [ref53, h]
  rfl
theorem ownw_fits {v : Vw} {G : List Nat} (h : Fm v G) {i : Nat} {t : Ln} (hi : v.lanes[i]? = some t) {x : Int} (hx : Own t x) : fitsW v.h.length x = true := by
  rcases hx with h1 | rfl
  · exact h.wl t (List.mem_of_getElem? hi) x h1
  · exact fits53 _
theorem src_fits {v : Vw} {G : List Nat} (h : Fm v G) {i : Nat} {t : Ln} (hi : v.lanes[i]? = some t) {x : Int} (hx : Src v t x) : fitsW v.h.length x = true := by
  rcases hx with h1 | rfl | ⟨c, y, w, _, _, hy, hu, h1⟩ | h1 | ⟨o, ho, _, h1⟩ | ⟨c, y, _, _, _, _, h1⟩
  · exact h.wl t (List.mem_of_getElem? hi) x h1
  · exact fits53 _
  · rcases h1 with rfl | rfl
    · exact (h.wc c y hy hu).1
    · exact (h.wc c y hy hu).2
  · exact h.wg x h1
  · exact h.wl o ho x h1
  · exact h1
theorem own_may {v : Vw} {i : Nat} {t : Ln} (hi : v.lanes[i]? = some t) (hs : t.sc = true) {x : Int} (hx : Own t x) : May v x := by
  rcases hx with h1 | rfl
  · exact may_own hi hs h1
  · intro d hr
    rw [ref53] at hr
    cases hr
theorem own_pass {v : Vw} {i : Nat} {t : Ln} (hi : v.lanes[i]? = some t) (hs : t.sc = true) {x : Int} (hx : Own t x) {d : Nat} (hd : refN x = some d) : passM v d = true := by
  rcases hx with h1 | rfl
  · exact pass_iff.2 (.inr (.inr ⟨i, t, hi, hs, x, h1, hd⟩))
  · rw [ref53] at hd
    cases hd
theorem src_may {v : Vw} {G : List Nat} (h : Fm v G) (hJ : Jr v) (h0 : ∀ x ∈ v.h, 0 ≤ x.c) {i : Nat} {t : Ln} (hi : v.lanes[i]? = some t) (hs : t.sc = true) {x : Int} (hx : Src v t x) : x ∈ t.roots ∨ May v x := by
  rcases hx with h1 | rfl | ⟨c, y, w, hw, hr, hy, hu, h1⟩ | h1 | ⟨o, ho, he, h1⟩ | ⟨c, y, hr, hy, _, h2, _⟩
  · exact .inl h1
  · exact .inr (own_may hi hs (.inr rfl))
  · have c1 := (h.hd y (List.mem_of_getElem? hy)).2
    have c2 := h0 y (List.mem_of_getElem? hy)
    exact .inr (may_cell hJ (pass_iff.2 (.inr (.inr ⟨i, t, hi, hs, w, hw, hr⟩))) hy hu (by omega) h1)
  · obtain ⟨j, hj⟩ := List.getElem?_of_mem h1
    exact .inr (may_glob hj)
  · obtain ⟨j, hj⟩ := List.getElem?_of_mem ho
    exact .inr (may_ended hj he h1)
  · refine .inr (fun d hd hw => ?_)
    rw [hr] at hd
    cases hd
    obtain ⟨z, hz, hzw⟩ := hw
    rw [hy] at hz
    cases hz
    unfold whiteB at hzw
    simp [h2] at hzw
theorem fm_lanes {v : Vw} {G : List Nat} (h : Fm v G) (M : List Ln) (hM : ∀ t ∈ M, ∀ w ∈ t.roots, fitsW v.h.length w = true) : Fm ⟨v.h, v.ph, v.sw, v.grey, v.gl, v.laid, M⟩ G := ⟨h.ph, h.sw, h.la, h.hd, h.wc, h.wg, hM, ⟨h.gy.e, h.gy.nd, h.gy.m⟩⟩
theorem fm_setL {v : Vw} {G : List Nat} (h : Fm v G) {i : Nat} {t : Ln} (ht : ∀ w ∈ t.roots, fitsW v.h.length w = true) : Fm (setL v i t) G := fm_lanes h _ (fun s hs => by
  rcases List.mem_or_eq_of_mem_set hs with h1 | rfl
  · exact h.wl s h1
  · exact ht)
/-- A cell is another one, as grey as it was. -/
theorem fm_cell {v : Vw} {G : List Nat} (h : Fm v G) {c : Nat} {x y : Cl} (hx : v.h[c]? = some x) (hg : greyB y = greyB x) (hk : y.k ≤ 3 ∧ y.c ≤ 2) (hf : fitsW v.h.length y.a = true ∧ fitsW v.h.length y.b = true) : Fm ⟨v.h.set c y, v.ph, v.sw, v.grey, v.gl, v.laid, v.lanes⟩ G := by
  have len : (v.h.set c y).length = v.h.length := List.length_set
  have hc := (List.getElem?_eq_some_iff.1 hx).1
  refine ⟨h.ph, by rw [len]; exact h.sw, h.la, fun z hz => ?_, fun d z hz hu => ?_, fun g hg => by rw [len]; exact h.wg g hg, fun t ht w hw => by rw [len]; exact h.wl t ht w hw, gy_set h.gy hx hg⟩
  · rcases List.mem_or_eq_of_mem_set hz with h1 | rfl
    · exact h.hd z h1
    · exact hk
  · rw [len]
    by_cases e : c = d
    · subst e
      rw [List.getElem?_set_self hc] at hz
      cases hz
      exact hf
    · rw [List.getElem?_set_ne e] at hz
      exact h.wc d z hz hu
end Go.Proofs.YtomdbcddokaagaaDoor

/- The moves keep the rule. -/
namespace Go.Proofs.YtomdbcddokaagaaDoor
open Go.RowKit

theorem mem_if {t : Ln} {a b w : Int} (h : w ∈ (if t.sc then [a] else [a, b])) : w = a ∨ w = b := by
  split at h
  · exact .inl (by simpa using h)
  · simpa using h
/-- What a cell is behind a shading. -/
theorem grey_at {h : List Cl} {l : List Nat} {c : Nat} {x y : Cl} (_hl : Whites h l) (hx : h[c]? = some x) (hy : (greyL h l)[c]? = some y) : y = ⟨x.k, if c ∈ l then 1 else x.c, x.a, x.b⟩ := by
  rw [greyL_get, hx] at hy
  by_cases e : c ∈ l
  · rw [if_pos e]
    simp only [Option.map_some, if_pos e] at hy
    exact (Option.some.inj hy).symm
  · rw [if_neg e]
    simp only [Option.map_some, if_neg e] at hy
    exact (Option.some.inj hy).symm
theorem grey_some {h : List Cl} {l : List Nat} {c : Nat} {x : Cl} (hx : h[c]? = some x) : ∃ y, (greyL h l)[c]? = some y := by
  rw [greyL_get, hx]
  exact ⟨_, rfl⟩
theorem grey_back {h : List Cl} {l : List Nat} {c : Nat} {y : Cl} (hy : (greyL h l)[c]? = some y) : ∃ x, h[c]? = some x := by
  rw [greyL_get] at hy
  obtain ⟨x, h1, _⟩ := Option.map_eq_some_iff.1 hy
  exact ⟨x, h1⟩
theorem mv_fm {v v' : Vw} {G : List Nat} (m : Mv v v') (h : Fm v G) : ∃ G', Fm v' G' := by
  cases m with
  | take i t x hi he hs =>
    refine ⟨G, fm_setL h (fun w hw => ?_)⟩
    rcases List.mem_append.1 hw with h1 | h1
    · exact h.wl t (List.mem_of_getElem? hi) w h1
    · rw [List.mem_singleton.1 h1]
      exact src_fits h hi hs
  | drop i t r hi he hs hl => exact ⟨G, fm_setL h (fun w hw => h.wl t (List.mem_of_getElem? hi) w (hs w hw))⟩
  | ends i t n hi he hs =>
    refine ⟨G, fm_setL h (fun w hw => ?_)⟩
    rw [List.mem_singleton.1 hw]
    exact ownw_fits h hi hs
  | spawn i t a b hi ha hb h8 =>
    refine ⟨G, fm_lanes h _ (fun s hs w hw => ?_)⟩
    rcases List.mem_append.1 hs with h1 | h1
    · exact h.wl s h1 w hw
    · rw [List.mem_singleton.1 h1] at hw
      rcases List.mem_cons.1 hw with rfl | hw
      · exact ownw_fits h hi ha
      · rw [List.mem_singleton.1 hw]
        exact ownw_fits h hi hb
  | store i t c x y w old n l y' hi hw hc hx hu hn hl hy hp =>
    have h1 := fm_shade h hl.wh hl.nd
    have hyx := grey_at hl.wh hx hy
    have len : (shV v l (v.grey ++ l.map Int.ofNat)).h.length = v.h.length := greyL_len l v.h
    have nf := ownw_fits h hi hn
    have of := h.wc c x hx hu
    have hyd := h1.hd y (List.mem_of_getElem? hy)
    refine ⟨G ++ l, fm_cell h1 hy ?_ ?_ ?_⟩
    · rcases hp with ⟨_, rfl⟩ | ⟨_, rfl⟩ <;> rfl
    · rcases hp with ⟨_, rfl⟩ | ⟨_, rfl⟩ <;> exact hyd
    · rw [len]
      have ya : y.a = x.a := by rw [hyx]
      have yb : y.b = x.b := by rw [hyx]
      rcases hp with ⟨_, rfl⟩ | ⟨_, rfl⟩
      · exact ⟨nf, by dsimp only; rw [yb]; exact of.2⟩
      · exact ⟨by dsimp only; rw [ya]; exact of.1, nf⟩
  | fill i t c x k a b l hi hx hu hk ha hb hl =>
    have h1 := fm_shade h hl.wh hl.nd
    obtain ⟨y, hy⟩ := grey_some (l := l) hx
    have hyx := grey_at hl.wh hx hy
    have len : (shV v l (v.grey ++ l.map Int.ofNat)).h.length = v.h.length := greyL_len l v.h
    refine ⟨G ++ l, fm_cell h1 hy ?_ ⟨hk.2, by show (2 : Int) ≤ 2; omega⟩ ?_⟩
    · unfold greyB usedB
      rw [hyx]
      simp [hu]
    · rw [len]
      exact ⟨ownw_fits h hi ha, ownw_fits h hi hb⟩
  | lay i t k g0 n l hi hk hn hl =>
    have h1 := fm_shade h hl.wh hl.nd
    have len : (greyL v.h l).length = v.h.length := greyL_len l v.h
    refine ⟨G ++ l, h1.ph, h1.sw, by show 0 ≤ v.laid ∧ v.laid ≤ ((v.gl.set k n).length : Int); rw [List.length_set]; exact h1.la, h1.hd, h1.wc, fun g hg => ?_, h1.wl, ⟨h1.gy.e, h1.gy.nd, h1.gy.m⟩⟩
    show fitsW (greyL v.h l).length g = true
    rw [len]
    rcases List.mem_or_eq_of_mem_set hg with h2 | rfl
    · exact h.wg g h2
    · exact ownw_fits h hi hn
  | root k g l hk hla hl =>
    have h1 := fm_shade h hl.wh hl.nd
    have hkl := (List.getElem?_eq_some_iff.1 hk).1
    exact ⟨G ++ l, h1.ph, h1.sw, by show 0 ≤ v.laid + 1 ∧ v.laid + 1 ≤ (v.gl.length : Int); omega, h1.hd, h1.wc, h1.wg, h1.wl, ⟨h1.gy.e, h1.gy.nd, h1.gy.m⟩⟩
  | scan i t l hi hl =>
    have h1 := fm_shade h hl.wh hl.nd
    refine ⟨G ++ l, fm_setL (i := i) (t := ⟨t.roots, true, t.en⟩) h1 (fun w hw => ?_)⟩
    exact h1.wl t (List.mem_of_getElem? (l := v.lanes) hi) w hw
  | into c x r l hv hx hl =>
    have hG := h.gy.e
    rw [hv] at hG
    cases G with
    | nil => cases hG
    | cons g0 G =>
      rw [List.map_cons] at hG
      injection hG with e1 e2
      have e3 : g0 = c := by
        have : (c : Int) = (g0 : Int) := e1
        omega
      subst e3
      have hgx : greyB x = true := by
        have := (h.gy.m g0).1 List.mem_cons_self
        unfold gr0 at this
        rw [hx] at this
        exact this
      have hcl : g0 ∉ l := fun hm => by
        obtain ⟨z, hz, hzw⟩ := hl.wh g0 hm
        rw [hx] at hz
        cases hz
        unfold whiteB at hzw
        unfold greyB at hgx
        simp at hzw hgx
        omega
      have g1 := gy_into (g := r) h.gy hx e2
      have hcb := (List.getElem?_eq_some_iff.1 hx).1
      have h0 : Fm ⟨v.h.set g0 ⟨x.k, 2, x.a, x.b⟩, v.ph, v.sw, r, v.gl, v.laid, v.lanes⟩ G := by
        have len : (v.h.set g0 ⟨x.k, 2, x.a, x.b⟩).length = v.h.length := List.length_set
        have hux : usedB x = true := by unfold greyB at hgx; rw [Bool.and_eq_true] at hgx; exact hgx.1
        have of := h.wc g0 x hx hux
        refine ⟨h.ph, by rw [len]; exact h.sw, h.la, fun z hz => ?_, fun d z hz hu => ?_, fun g hg => by rw [len]; exact h.wg g hg, fun t ht w hw => by rw [len]; exact h.wl t ht w hw, g1⟩
        · rcases List.mem_or_eq_of_mem_set hz with h1 | rfl
          · exact h.hd z h1
          · exact ⟨(h.hd x (List.mem_of_getElem? hx)).1, by show (2 : Int) ≤ 2; omega⟩
        · rw [len]
          by_cases e : g0 = d
          · subst e
            rw [List.getElem?_set_self hcb] at hz
            cases hz
            exact of
          · rw [List.getElem?_set_ne e] at hz
            exact h.wc d z hz hu
      have hwl : Whites (v.h.set g0 ⟨x.k, 2, x.a, x.b⟩) l := fun d hd => by
        obtain ⟨z, hz, hzw⟩ := hl.wh d hd
        exact ⟨z, by rw [List.getElem?_set_ne (fun e => hcl (by rw [e]; exact hd))]; exact hz, hzw⟩
      have h1 := fm_shade h0 hwl hl.nd
      refine ⟨G ++ l, ?_⟩
      have e : greyL (v.h.set g0 ⟨x.k, 2, x.a, x.b⟩) l = (greyL v.h l).set g0 ⟨x.k, 2, x.a, x.b⟩ := by
        refine List.ext_getElem? (fun j => ?_)
        rw [greyL_get]
        by_cases ej : g0 = j
        · subst ej
          rw [List.getElem?_set_self hcb, List.getElem?_set_self (by rw [greyL_len]; exact hcb)]
          simp [hcl]
        · rw [List.getElem?_set_ne ej, List.getElem?_set_ne ej, greyL_get]
      unfold shV at h1
      dsimp only at h1
      rw [e] at h1
      exact h1
end Go.Proofs.YtomdbcddokaagaaDoor

/- The moves keep the rule: claims 1 and 2. -/
namespace Go.Proofs.YtomdbcddokaagaaDoor
open Go.RowKit

theorem mv_jr {v v' : Vw} {G : List Nat} (m : Mv v v') (h : Fm v G) (hJ : Jr v) (h0 : ∀ x ∈ v.h, 0 ≤ x.c) : Jr v' := by
  cases m with
  | take i t x hi he hs =>
    refine jr_lane hJ hi he rfl (fun hsc w hw => ?_)
    rcases List.mem_append.1 hw with h1 | h1
    · exact .inl h1
    · rw [List.mem_singleton.1 h1]
      exact src_may h hJ h0 hi hsc hs
  | drop i t r hi he hs hl => exact jr_lane hJ hi he rfl (fun _ w hw => .inl (hs w hw))
  | ends i t n hi he hs =>
    refine jr_lane hJ hi he rfl (fun hsc w hw => ?_)
    rw [List.mem_singleton.1 hw]
    exact .inr (own_may hi hsc hs)
  | spawn i t a b hi ha hb h8 =>
    refine jr_spawn hJ (fun hsc w hw => ?_)
    rcases List.mem_cons.1 hw with rfl | hw
    · exact own_may hi hsc ha
    · rw [List.mem_singleton.1 hw]
      exact own_may hi hsc hb
  | store i t c x y w old n l y' hi hw hc hx hu hn hl hy hp =>
    have hyx := grey_at hl.wh hx hy
    have oldl : ∀ d, refN old = some d → WhiteAt v d → d ∈ l := fun d hd hw' => hl.al old (by split <;> simp) d hd hw'
    have newl : ∀ d, refN n = some d → WhiteAt v d → d ∈ l ∨ passM v d = true := fun d hd hw' => by
      cases hsc : t.sc with
      | true => exact .inr (own_pass hi hsc hn hd)
      | false => exact .inl (hl.al n (by rw [hsc]; simp) d hd hw')
    rcases hp with ⟨e1, e2⟩ | ⟨e1, e2⟩
    · have hj := jr_put (g := v.grey) (g' := v.grey ++ l.map Int.ofNat) (y := ⟨x.k, 0, n, x.b⟩) hJ hl.wh hx hu rfl (fun d h1 h2 h3 => ?_) (fun d h1 h2 h3 => ?_)
      · rw [e2, hyx]
        exact hj
      · rcases h1 with h1 | h1
        · exact oldl d (by rw [e1]; exact h1) h3
        · exact absurd (.inr h1) h2
      · rcases h1 with h1 | h1
        · exact newl d h1 h3
        · exact absurd (.inr h1) h2
    · have hj := jr_put (g := v.grey) (g' := v.grey ++ l.map Int.ofNat) (y := ⟨x.k, 0, x.a, n⟩) hJ hl.wh hx hu rfl (fun d h1 h2 h3 => ?_) (fun d h1 h2 h3 => ?_)
      · rw [e2, hyx]
        exact hj
      · rcases h1 with h1 | h1
        · exact absurd (.inl h1) h2
        · exact oldl d (by rw [e1]; exact h1) h3
      · rcases h1 with h1 | h1
        · exact absurd (.inl h1) h2
        · exact newl d h1 h3
  | fill i t c x k a b l hi hx hu hk ha hb hl =>
    refine jr_fill (g := v.grey) hJ hl.wh hx (by unfold usedB; simp [hu]) rfl (fun d hd hw => ?_)
    cases hsc : t.sc with
    | true =>
      rcases hd with hd | hd
      · exact .inr (own_pass hi hsc ha hd)
      · exact .inr (own_pass hi hsc hb hd)
    | false =>
      rcases hd with hd | hd
      · exact .inl (hl.al a (by rw [hsc]; simp) d hd hw)
      · exact .inl (hl.al b (by rw [hsc]; simp) d hd hw)
  | lay i t k g0 n l hi hk hn hl =>
    refine jr_lay hJ hl.wh hk (fun d hd hw => hl.al g0 (by split <;> simp) d hd hw) (fun d hd hw => ?_)
    cases hsc : t.sc with
    | true => exact .inr (own_pass hi hsc hn hd)
    | false => exact .inl (hl.al n (by rw [hsc]; simp) d hd hw)
  | root k g l hk hla hl => exact jr_root hJ hl.wh hk hla (fun d hd hw => hl.al g (by simp) d hd hw)
  | scan i t l hi hl => exact jr_scan hJ hl.wh hi (fun w hw d hd hwd => hl.al w hw d hd hwd)
  | into c x r l hv hx hl =>
    refine jr_into (g := v.grey) hJ hl.wh hx ?_ (fun d hd hw => ?_)
    · have hG := h.gy.e
      rw [hv] at hG
      cases G with
      | nil => cases hG
      | cons g0 G =>
        rw [List.map_cons] at hG
        injection hG with e1 e2
        have e3 : g0 = c := by
          have : (c : Int) = (g0 : Int) := e1
          omega
        subst e3
        have := (h.gy.m g0).1 List.mem_cons_self
        unfold gr0 at this
        rw [hx] at this
        exact this
    · rcases hd with hd | hd
      · exact hl.al x.a (by simp) d hd hw
      · exact hl.al x.b (by simp) d hd hw
/-- What a move leaves as it was, and how far things grow. -/
structure Nr (v v' : Vw) : Prop where
  h : v'.h.length = v.h.length
  gl : v'.gl.length = v.gl.length
  ln : v.lanes.length ≤ v'.lanes.length ∧ (v'.lanes.length ≤ v.lanes.length ∨ v'.lanes.length ≤ 8)
  rt : ∀ N : Nat, 2 ≤ N → (∀ t ∈ v.lanes, t.roots.length ≤ N) → ∀ t ∈ v'.lanes, t.roots.length ≤ N + 1
theorem Nr.set {v : Vw} {h : List Cl} {ph sw la : Int} {grey gl : List Int} {i : Nat} {t t' : Ln} (h1 : h.length = v.h.length) (h2 : gl.length = v.gl.length) (hi : v.lanes[i]? = some t) (hr : t'.roots.length ≤ t.roots.length + 1) : Nr v ⟨h, ph, sw, grey, gl, la, v.lanes.set i t'⟩ :=
  ⟨h1, h2, ⟨by show _ ≤ (v.lanes.set i t').length; rw [List.length_set]; exact Nat.le_refl _, .inl (by show (v.lanes.set i t').length ≤ _; rw [List.length_set]; exact Nat.le_refl _)⟩, fun N _ hN s hs => by
    rcases List.mem_or_eq_of_mem_set hs with h3 | rfl
    · have := hN s h3
      omega
    · have := hN t (List.mem_of_getElem? hi)
      omega⟩
theorem Nr.same {v : Vw} {h : List Cl} {ph sw la : Int} {grey gl : List Int} (h1 : h.length = v.h.length) (h2 : gl.length = v.gl.length) : Nr v ⟨h, ph, sw, grey, gl, la, v.lanes⟩ :=
  ⟨h1, h2, ⟨Nat.le_refl _, .inl (Nat.le_refl _)⟩, fun N _ hN s hs => by have := hN s hs; omega⟩
theorem mv_nr {v v' : Vw} (m : Mv v v') : Nr v v' := by
  cases m with
  | take i t x hi he hs => exact Nr.set rfl rfl hi (by simp)
  | drop i t r hi he hs hl => exact Nr.set rfl rfl hi (by dsimp only; omega)
  | ends i t n hi he hs => exact Nr.set rfl rfl hi (by simp)
  | spawn i t a b hi ha hb h8 =>
    refine ⟨rfl, rfl, ⟨by simp, .inr (by simp; omega)⟩, fun N h2 hN s hs => ?_⟩
    rcases List.mem_append.1 hs with h3 | h3
    · have := hN s h3
      omega
    · rw [List.mem_singleton.1 h3]
      simp
      omega
  | store i t c x y w old n l y' hi hw hc hx hu hn hl hy hp => exact Nr.same (by rw [List.length_set, greyL_len]) rfl
  | fill i t c x k a b l hi hx hu hk ha hb hl => exact Nr.same (by rw [List.length_set, greyL_len]) rfl
  | lay i t k g0 n l hi hk hn hl => exact Nr.same (greyL_len _ _) List.length_set
  | root k g l hk hla hl => exact Nr.same (greyL_len _ _) rfl
  | scan i t l hi hl => exact Nr.set (greyL_len _ _) rfl hi (by simp)
  | into c x r l hv hx hl => exact Nr.same (by rw [List.length_set, greyL_len]) rfl
end Go.Proofs.YtomdbcddokaagaaDoor
