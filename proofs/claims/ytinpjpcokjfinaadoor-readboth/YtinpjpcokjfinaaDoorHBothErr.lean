/- Where the first source is wrong, both are: plain mathematics. -/
import Derived.Test.YtinpjpcokjfinaaDoorHBothMath
namespace Go.Proofs.YtinpjpcokjfinaaDoor

/-- An error that is not at the end is there, whatever stands behind. -/
theorem rd_err (z : Tok) (hz : z.kind = 9) (k : Nat) : ∀ (m : Nat) (q : List Tok) (o c : Nat) (e p : Int), (∀ x ∈ q, x.kind ≠ 9) → rd k m (q ++ [z]) o c = .bad e p → e = 0 ∨ p = z.pos ∨ ∀ R, rd k m (q ++ R) o c = .bad e p := by
  induction k with
  | zero => intro m q o c e p _ h; simp only [rd] at h; cases h; exact .inl rfl
  | succ k ih =>
    intro m q o c e p hq h
    have moreL : ∀ (m' : Nat), q ≠ [] → more (rd k) m' (q ++ [z]) o c = .bad e p → e = 0 ∨ p = z.pos ∨ ∀ R, more (rd k) m' (q ++ R) o c = .bad e p := by
      intro m' hne h
      cases h1 : rd k 0 (q ++ [z]) o c with
      | bad e1 p1 =>
        unfold more at h
        rw [h1] at h
        simp only [Res.then] at h
        cases h
        rcases ih 0 q o c _ _ hq h1 with h' | h' | h'
        · exact .inl h'
        · exact .inr (.inl h')
        · refine .inr (.inr fun R => ?_)
          unfold more; rw [h' R]; rfl
      | ok f1 d1 r1 c1 =>
        have hg := rd_good _ _ _ _ _ _ _ _ _ h1
        obtain ⟨qa, ea, hp, _⟩ := hg.suf
        obtain ⟨q2, z2, e2, hz2, hq2⟩ := hg.ended (by decide) ⟨q, z, rfl, hz, hq⟩
        have e3 : q ++ [z] = (qa ++ q2) ++ [z2] := by rw [List.append_assoc, ← e2, ← ea]
        obtain ⟨e4, e5⟩ := List.append_inj' e3 rfl
        have e6 : z = z2 := by simpa using e5
        subst e6
        unfold more at h
        rw [h1] at h
        simp only [Res.then] at h
        have h2 : rd k m' (q2 ++ [z]) o c1 = .bad e p := by
          rw [← e2]
          cases hx : rd k m' r1 o c1 with
          | ok => rw [hx] at h; cases h
          | bad => rw [hx] at h; cases h; rfl
        rcases ih m' q2 o c1 e p hq2 h2 with h' | h' | h'
        · exact .inl h'
        · exact .inr (.inl h')
        · refine .inr (.inr fun R => ?_)
          rw [ea] at h1
          have h1' := rd_local k 0 qa r1 o c f1 d1 c1 (by decide) h1 (q2 ++ R)
          rw [e4, List.append_assoc]
          unfold more; rw [h1']; simp only [Res.then]; rw [h' R]; rfl
    cases q with
    | nil =>
      simp only [List.nil_append, rd] at h
      by_cases hm : m = 0
      · rw [if_pos hm] at h
        unfold one at h
        rw [if_neg (by omega), if_neg (by omega), if_neg (by rw [hz]; decide)] at h
        cases h
        exact .inr (.inl rfl)
      · rw [if_neg hm] at h
        unfold lst at h
        by_cases h3 : m = 3
        · rw [if_pos h3, if_pos hz] at h; cases h
        rw [if_neg h3, if_neg (by omega), if_neg (by omega)] at h
        unfold more at h
        cases k with
        | zero => simp only [rd, Res.then] at h; cases h; exact .inl rfl
        | succ k =>
          simp only [rd, if_true] at h
          unfold one at h
          rw [if_neg (by omega), if_neg (by omega), if_neg (by rw [hz]; decide)] at h
          simp only [Res.then] at h
          cases h
          exact .inr (.inl rfl)
    | cons t q =>
      have ht := hq t (List.mem_cons_self ..)
      have hq1 : ∀ x ∈ q, x.kind ≠ 9 := fun x hx => hq x (List.mem_cons_of_mem _ hx)
      simp only [List.cons_append, rd] at h moreL ⊢
      by_cases hm : m = 0
      · simp only [if_pos hm] at h ⊢
        unfold one at h ⊢
        by_cases hk : t.kind = 1
        · simp only [if_pos hk] at h ⊢
          by_cases ho : o = 100
          · simp only [if_pos ho] at h ⊢; cases h; exact .inr (.inr fun _ => rfl)
          simp only [if_neg ho] at h ⊢
          by_cases hc : 10000 < c + 1
          · simp only [if_pos hc] at h ⊢; cases h; exact .inr (.inr fun _ => rfl)
          simp only [if_neg hc] at h ⊢
          cases h1 : rd k 1 (q ++ [z]) (o + 1) (c + 1) with
          | ok => rw [h1] at h; cases h
          | bad e1 p1 =>
            rw [h1] at h
            cases h
            rcases ih 1 q _ _ _ _ hq1 h1 with h' | h' | h'
            · exact .inl h'
            · exact .inr (.inl h')
            · exact .inr (.inr fun R => by rw [h' R]; rfl)
        simp only [if_neg hk] at h ⊢
        by_cases hk3 : t.kind = 3
        · simp only [if_pos hk3] at h ⊢
          by_cases ho : o = 100
          · simp only [if_pos ho] at h ⊢; cases h; exact .inr (.inr fun _ => rfl)
          simp only [if_neg ho] at h ⊢
          by_cases hc : 10000 < c + 2
          · simp only [if_pos hc] at h ⊢; cases h; exact .inr (.inr fun _ => rfl)
          simp only [if_neg hc] at h ⊢
          cases h1 : rd k 0 (q ++ [z]) (o + 1) (c + 2) with
          | ok => rw [h1] at h; cases h
          | bad e1 p1 =>
            rw [h1] at h
            cases h
            rcases ih 0 q _ _ _ _ hq1 h1 with h' | h' | h'
            · exact .inl h'
            · exact .inr (.inl h')
            · exact .inr (.inr fun R => by rw [h' R]; rfl)
        simp only [if_neg hk3] at h ⊢
        by_cases hl : isLeaf t.kind = true
        · simp only [if_pos hl] at h ⊢
          by_cases hc : 10000 < c + 1
          · simp only [if_pos hc] at h ⊢; cases h; exact .inr (.inr fun _ => rfl)
          · simp only [if_neg hc] at h; cases h
        · simp only [if_neg hl] at h ⊢; cases h; exact .inr (.inr fun _ => rfl)
      · simp only [if_neg hm] at h ⊢
        unfold lst at h ⊢
        by_cases h3 : m = 3
        · simp only [if_pos h3, if_neg ht] at h ⊢
          exact moreL 3 (by simp) h
        simp only [if_neg h3] at h ⊢
        by_cases hk : t.kind = 2
        · simp only [if_pos hk] at h; cases h
        simp only [if_neg hk] at h ⊢
        by_cases hk4 : t.kind = 4
        · simp only [if_pos hk4] at h ⊢
          by_cases h1 : m = 1
          · simp only [if_pos h1] at h ⊢; cases h; exact .inr (.inr fun _ => rfl)
          simp only [if_neg h1] at h ⊢
          cases hx : rd k 0 (q ++ [z]) o c with
          | bad e1 p1 =>
            rw [hx] at h
            cases h
            rcases ih 0 q _ _ _ _ hq1 hx with h' | h' | h'
            · exact .inl h'
            · exact .inr (.inl h')
            · exact .inr (.inr fun R => by rw [h' R]; rfl)
          | ok f1 d1 r1 c1 =>
            rw [hx] at h
            have hg := rd_good _ _ _ _ _ _ _ _ _ hx
            obtain ⟨qa, ea, hp, _⟩ := hg.suf
            obtain ⟨q2, z2, e2, hz2, hq2⟩ := hg.ended (by decide) ⟨q, z, rfl, hz, hq1⟩
            have e3 : q ++ [z] = (qa ++ q2) ++ [z2] := by rw [List.append_assoc, ← e2, ← ea]
            obtain ⟨e4, e5⟩ := List.append_inj' e3 rfl
            have e6 : z = z2 := by simpa using e5
            subst e6
            subst e2
            cases q2 with
            | nil =>
              simp only [List.nil_append, Res.tail] at h
              rw [if_neg (by omega)] at h
              cases h
              exact .inr (.inl rfl)
            | cons t1 q2 =>
              simp only [List.cons_append, Res.tail] at h
              by_cases h2 : t1.kind = 2
              · rw [if_pos h2] at h; cases h
              · rw [if_neg h2] at h
                cases h
                refine .inr (.inr fun R => ?_)
                rw [ea] at hx
                have hx' := rd_local k 0 qa _ o c f1 d1 c1 (by decide) hx ((t1 :: q2) ++ R)
                rw [e4, List.append_assoc, hx']
                simp only [List.cons_append, Res.tail, if_neg h2]
        · simp only [if_neg hk4] at h ⊢
          exact moreL 2 (by simp) h
theorem rdf_err {z : Tok} (hz : z.kind = 9) {m : Nat} {q : List Tok} {o c : Nat} {e p : Int} (hq : ∀ x ∈ q, x.kind ≠ 9) (h : rdf m (q ++ [z]) o c = .bad e p) (he : e ≠ 0) (hp : p ≠ z.pos) (R : List Tok) : rdf m (q ++ R) o c = .bad e p := by
  have h1 : rd (2 * (q ++ [z]).length + 2 * (q ++ R).length + mz m + 1) m (q ++ [z]) o c = .bad e p := by rw [rdf_eq (by omega)]; exact h
  rcases rd_err z hz _ m q o c e p hq h1 with h' | h' | h'
  · exact absurd h' he
  · exact absurd h' hp
  · have := h' R
    rwa [rdf_eq (by omega)] at this
end Go.Proofs.YtinpjpcokjfinaaDoor
