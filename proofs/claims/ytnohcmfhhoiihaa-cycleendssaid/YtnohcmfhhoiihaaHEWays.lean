/- CycleEnds: which steps can come next, and what comes of them. -/
import Derived.Test.YtnohcmfhhoiihaaHEMath
namespace Go.Proofs.Ytnohcmfhhoiihaa
open Go.RowKit

/-- A step, and what is known of the state ahead of it; r: its rank. -/
inductive Wy (n g : Nat) (T : List Th) (gr lf : Nat) (th : Int) (st tl : Bool) : Nat → Nat → Nat → Nat → Nat → Nat → Cy → Int → Dn → Prop
  | begin : gr + lf = n → sm fP T = 0 → Wy n g T gr lf th st tl 0 0 0 0 0 0 ⟨0, 0, 0, 0, 5, true⟩ 0 ⟨18, 0, 0, 0⟩
  | root (steps last root : Nat) : root < g → last ≤ 1 → steps = 1 + root + sm fP T → gr + lf = n → Wy n g T gr lf th st tl steps last 0 root 0 0 ⟨1, root, 0, 0, 6, false⟩ 1 ⟨19, root, 0, 0⟩
  | ask (steps last k : Nat) (t : Th) : last ≤ 2 → steps = 1 + g + sm fP T → gr + lf = n → th = (k : Int) + 1 → T[k]? = some t → t.sc = false → t.st = false → t.tl = false → st = false → tl = false → Wy n g T gr lf th st tl steps last 0 g 0 0 ⟨1, g, 0, 0, 6, false⟩ 2 ⟨20, 0, (k : Int) + 1, 0⟩
  | thread (steps last k : Nat) (t : Th) : last ≤ 2 → steps = 1 + g + sm fP T → gr + lf = n → th = (k : Int) + 1 → T[k]? = some t → t.sc = false → t.st = true → st = true → Wy n g T gr lf th st tl steps last 0 g 0 0 ⟨1, g, 0, 0, 6, false⟩ 2 ⟨21, 0, (k : Int) + 1, 0⟩
  | scan (steps last : Nat) (s : Cy) : last ≤ 3 → steps + gr + lf = 1 + g + sm fP T + n → 0 < steps → 0 < gr → (s = ⟨1, g, 0, 0, 6, false⟩ ∧ th = 0) ∨ s = ⟨2, 0, 0, 0, 6, false⟩ → Wy n g T gr lf th st tl steps last 0 g 0 0 s 3 ⟨22, 0, 0, 0⟩
  | check (steps last : Nat) (s : Cy) : last ≤ 3 → steps + gr + lf = 1 + g + sm fP T + n → 0 < steps → gr = 0 → (s = ⟨1, g, 0, 0, 6, false⟩ ∧ th = 0) ∨ s = ⟨2, 0, 0, 0, 6, false⟩ → Wy n g T gr lf th st tl steps last 0 g 0 0 s 4 ⟨23, 0, 0, 0⟩
  | sweep (steps last swept freed : Nat) : swept < n → freed ≤ swept → last ≤ 5 → steps ≤ 2 + g + sm fP T + n + swept → gr = 0 → 0 < steps → Wy n g T gr lf th st tl steps last 1 g swept freed ⟨3, 0, swept, freed, 6, false⟩ 5 ⟨24, 0, 0, swept⟩
  | fin (steps last freed : Nat) : freed ≤ n → last ≤ 5 → steps ≤ 2 + g + sm fP T + n + n → 0 < steps → Wy n g T gr lf th st tl steps last 1 g n freed ⟨3, 0, n, freed, 6, false⟩ 6 ⟨25, 0, 0, 0⟩
/-- A thread that was told goes on: nothing can be done, till it lays. -/
def WyZ (n g : Nat) (T : List Th) (gr lf : Nat) (th : Int) (steps last checks root swept freed : Nat) (s : Cy) (M : Dn) : Prop :=
  ∃ (k : Nat) (t : Th), M = d0 ∧ th = (k : Int) + 1 ∧ T[k]? = some t ∧ t.sc = false ∧ t.tl = true ∧ root = g ∧ checks = 0 ∧ swept = 0 ∧ freed = 0 ∧ last ≤ 2 ∧ steps = 1 + g + sm fP T ∧ gr + lf = n ∧ s = ⟨1, g, 0, 0, 6, false⟩
theorem nx_of {ph gl sw fr bg : Int} {ak : Bool} {ce ag th : Int} {st tl gr : Bool} (hm : May ph gl sw fr bg ak) (hf : Fit gl sw ce ag th) : nextM ph gl sw fr bg ak ce ag th st tl gr = goM ph gl sw ak ce ag th st tl gr := if_pos ⟨decide_eq_true hm, decide_eq_true hf⟩
theorem st_of {ph gl sw fr bg : Int} {ak : Bool} {ce ag th : Int} {st tl gr back : Bool} {wh : Int} (hm : May ph gl sw fr bg ak) (hf : Fit gl sw ce ag th) (hw : (goM ph gl sw ak ce ag th st tl gr).wh = wh) : stepM ph gl sw fr bg ak ce ag th st tl gr back = stM ph gl sw fr bg ak back wh := by
  rw [← hw]
  exact if_pos ⟨decide_eq_true hm, decide_eq_true hf⟩
variable {n g gr lf i steps last checks root swept freed : Nat} {T : List Th} {s : Cy} {th : Int} {st tl : Bool}
theorem ArOk.nn (h : ArOk T th st tl) : 0 ≤ th := by
  rcases h with ⟨h, _⟩ | ⟨k, _, h, _⟩ <;> omega
theorem way (h : Iv n g T gr lf s i steps last checks root swept freed) (ha : ArOk T th st tl) :
    WyZ n g T gr lf th steps last checks root swept freed s (nextM s.ph s.gl s.sw s.fr s.bg s.ak n g th st tl (decide (0 < gr))) ∨ ∃ r, Wy n g T gr lf th st tl steps last checks root swept freed s r (nextM s.ph s.gl s.sw s.fr s.bg s.ak n g th st tl (decide (0 < gr))) := by
  have hn := ha.nn
  have h3 := h.n300
  have hps := h.ps
  cases hps with
  | idle e1 e2 =>
    refine .inr ⟨0, ?_⟩
    rw [show nextM (Cy.mk 0 0 0 0 5 true).ph _ _ _ _ _ n g th st tl _ = ⟨18, 0, 0, 0⟩ from (nx_of (by unfold May; simp) (by unfold Fit; dsimp only; omega)).trans rfl]
    exact .begin e1 e2
  | roots _ _ _ e1 e2 e3 e4 e5 =>
    by_cases hr : root < g
    · refine .inr ⟨1, ?_⟩
      rw [show nextM (Cy.mk 1 (root : Int) 0 0 6 false).ph _ _ _ _ _ n g th st tl _ = ⟨19, (root : Int), 0, 0⟩ from (nx_of (by unfold May; simp) (by unfold Fit; dsimp only; omega)).trans (by unfold goM; dsimp only; rw [if_neg (by decide), if_neg (by decide), if_pos ⟨rfl, by omega⟩])]
      exact .root _ _ _ hr (e3 hr) e4 e5
    · obtain rfl : root = g := by omega
      have nx : nextM (Cy.mk 1 (root : Int) 0 0 6 false).ph (Cy.mk 1 (root : Int) 0 0 6 false).gl (Cy.mk 1 (root : Int) 0 0 6 false).sw (Cy.mk 1 (root : Int) 0 0 6 false).fr (Cy.mk 1 (root : Int) 0 0 6 false).bg (Cy.mk 1 (root : Int) 0 0 6 false).ak n root th st tl (decide (0 < gr)) = if th ≠ 0 then thM th st tl else if decide (0 < gr) then ⟨22, 0, 0, 0⟩ else ⟨23, 0, 0, 0⟩ := by
        refine (nx_of (by unfold May; simp) (by unfold Fit; dsimp only; omega)).trans ?_
        unfold goM
        dsimp only
        rw [if_neg (by decide), if_neg (by decide), if_neg (by omega)]
        by_cases e : th = 0
        · rw [if_neg (fun x => x.2 e), if_neg (show ¬ (th ≠ 0) from fun x => x e)]
        · rw [if_pos ⟨rfl, e⟩, if_pos e]
      rw [nx]
      rcases ha with ⟨h0, _⟩ | ⟨k, t, hk, ht, hs, hst, htl⟩
      · subst h0
        rw [if_neg (by simp)]
        by_cases hg : 0 < gr
        · rw [if_pos (by simp [hg])]
          exact .inr ⟨3, .scan _ _ _ (by omega) (by omega) (by omega) hg (.inl ⟨rfl, rfl⟩)⟩
        · rw [if_neg (by simp [hg])]
          exact .inr ⟨4, .check _ _ _ (by omega) (by omega) (by omega) (by omega) (.inl ⟨rfl, rfl⟩)⟩
      · rw [if_pos (by omega)]
        subst hk
        cases st with
        | true => exact .inr ⟨2, .thread _ _ k t e2 e4 e5 rfl ht hs hst rfl⟩
        | false =>
          cases tl with
          | true => exact .inl ⟨k, t, rfl, rfl, ht, hs, htl, rfl, rfl, rfl, rfl, e2, e4, e5, rfl⟩
          | false => exact .inr ⟨2, .ask _ _ k t e2 e4 e5 rfl ht hs hst htl rfl rfl⟩
  | mark _ e1 e2 =>
    have nx : nextM (Cy.mk 2 0 0 0 6 false).ph (Cy.mk 2 0 0 0 6 false).gl (Cy.mk 2 0 0 0 6 false).sw (Cy.mk 2 0 0 0 6 false).fr (Cy.mk 2 0 0 0 6 false).bg (Cy.mk 2 0 0 0 6 false).ak n g th st tl (decide (0 < gr)) = if decide (0 < gr) then ⟨22, 0, 0, 0⟩ else ⟨23, 0, 0, 0⟩ := by
      refine (nx_of (by unfold May; simp) (by unfold Fit; dsimp only; omega)).trans ?_
      unfold goM
      dsimp only
      rw [if_neg (by decide), if_neg (by decide), if_neg (fun x => absurd x.1 (by decide)), if_neg (fun x => absurd x.1 (by decide))]
    rw [nx]
    by_cases hg : 0 < gr
    · rw [if_pos (by simp [hg])]
      exact .inr ⟨3, .scan _ _ _ (by omega) (by omega) (by omega) hg (.inr rfl)⟩
    · rw [if_neg (by simp [hg])]
      exact .inr ⟨4, .check _ _ _ (by omega) (by omega) (by omega) (by omega) (.inr rfl)⟩
  | sweep _ _ _ _ e1 e2 e3 e4 e5 e6 =>
    have nx : nextM (Cy.mk 3 0 (swept : Int) (freed : Int) 6 false).ph (Cy.mk 3 0 (swept : Int) (freed : Int) 6 false).gl (Cy.mk 3 0 (swept : Int) (freed : Int) 6 false).sw (Cy.mk 3 0 (swept : Int) (freed : Int) 6 false).fr (Cy.mk 3 0 (swept : Int) (freed : Int) 6 false).bg (Cy.mk 3 0 (swept : Int) (freed : Int) 6 false).ak n g th st tl (decide (0 < gr)) = if (swept : Int) < (n : Int) then ⟨24, 0, 0, swept⟩ else ⟨25, 0, 0, 0⟩ :=
      (nx_of (by unfold May; simp; omega) (by unfold Fit; dsimp only; omega)).trans (by unfold goM; dsimp only; rw [if_neg (by decide), if_pos rfl])
    rw [nx]
    by_cases hs : swept < n
    · rw [if_pos (by omega)]
      exact .inr ⟨5, .sweep _ _ _ _ hs e2 (by omega) e4 e5 e6⟩
    · obtain rfl : swept = n := by omega
      rw [if_neg (by omega)]
      exact .inr ⟨6, .fin _ _ _ e2 (by omega) e4 e6⟩
theorem Wy.rank {r : Int} {M : Dn} (h : Wy n g T gr lf th st tl steps last checks root swept freed s r M) :
    ((M.wh = 18 ∧ r = 0) ∨ (M.wh = 19 ∧ r = 1) ∨ (M.wh = 20 ∧ r = 2) ∨ (M.wh = 21 ∧ r = 2) ∨ (M.wh = 22 ∧ r = 3) ∨ (M.wh = 23 ∧ r = 4) ∨ (M.wh = 24 ∧ r = 5) ∨ (M.wh = 25 ∧ r = 6)) ∧ (last : Int) ≤ r ∧ ((steps = 0 ∧ r = 0) ∨ (0 < steps ∧ 0 < r)) := by
  cases h
  · exact ⟨by simp, by simp, by simp⟩
  · refine ⟨by simp, by omega, .inr ⟨by omega, by omega⟩⟩
  · refine ⟨by simp, by omega, .inr ⟨by omega, by omega⟩⟩
  · refine ⟨by simp, by omega, .inr ⟨by omega, by omega⟩⟩
  · refine ⟨by simp, by omega, .inr ⟨by omega, by omega⟩⟩
  · refine ⟨by simp, by omega, .inr ⟨by omega, by omega⟩⟩
  · refine ⟨by simp, by omega, .inr ⟨by omega, by omega⟩⟩
  · refine ⟨by simp, by omega, .inr ⟨by omega, by omega⟩⟩
theorem step_next {ph gl sw fr bg : Int} {ak : Bool} {ce ag th : Int} {st tl gr : Bool} (back : Bool) (h : (nextM ph gl sw fr bg ak ce ag th st tl gr).wh ≠ 0) : stepM ph gl sw fr bg ak ce ag th st tl gr back = stM ph gl sw fr bg ak back (nextM ph gl sw fr bg ak ce ag th st tl gr).wh := by
  unfold nextM at h ⊢
  unfold stepM
  by_cases e : mayB ph gl sw fr bg ak = true ∧ fitB gl sw ce ag th = true
  · rw [if_pos e, if_pos e]
  · rw [if_neg e] at h
    exact absurd rfl h
end Go.Proofs.Ytnohcmfhhoiihaa
