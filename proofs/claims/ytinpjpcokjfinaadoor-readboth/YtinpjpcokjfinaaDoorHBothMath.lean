/- Two sources read as both: plain mathematics. -/
import Derived.Test.YtinpjpcokjfinaaDoorGK
namespace Go.Proofs.YtinpjpcokjfinaaDoor

theorem app_inj {q q' r : List Tok} (h : q ++ r = q' ++ r) : q = q' := List.append_cancel_right h
theorem list_ok {x : Res} {f : Fo} {d : Bool} {r : List Tok} {c : Nat} (h : x.list = .ok f d r c) : ∃ f1 d1, x = .ok f1 d1 r c ∧ f = .cons 5 0 [] f1 d1 .nil ∧ d = false := by
  cases x with
  | bad e p => cases h
  | ok f1 d1 r1 c1 => cases h; exact ⟨_, _, rfl, rfl, rfl⟩
theorem quote_ok {x : Res} {f : Fo} {d : Bool} {r : List Tok} {c : Nat} (h : x.quote = .ok f d r c) : ∃ f1 d1, x = .ok f1 d1 r c ∧ f = .cons 5 0 [] (.cons 2 0 quoteT .nil false f1) false .nil ∧ d = false := by
  cases x with
  | bad e p => cases h
  | ok f1 d1 r1 c1 => cases h; exact ⟨_, _, rfl, rfl, rfl⟩
theorem tail_ok {x : Res} {f : Fo} {d : Bool} {r : List Tok} {c : Nat} (h : x.tail = .ok f d r c) : ∃ f1 d1 t1, x = .ok f1 d1 (t1 :: r) c ∧ t1.kind = 2 ∧ f = (tailOf f1).1 ∧ d = (tailOf f1).2 := by
  cases x with
  | bad e p => cases h
  | ok f1 d1 r1 c1 =>
    cases r1 with
    | nil => cases h
    | cons t1 r1 =>
      simp only [Res.tail] at h
      split at h
      · rename_i h2; cases h; exact ⟨_, _, _, rfl, h2, rfl, rfl⟩
      · cases h
theorem more_ok {R : Nat → List Tok → Nat → Nat → Res} {m : Nat} {ts : List Tok} {o c : Nat} {f : Fo} {d : Bool} {r : List Tok} {c' : Nat} (h : more R m ts o c = .ok f d r c') :
    ∃ f1 d1 r1 c1 f2, R 0 ts o c = .ok f1 d1 r1 c1 ∧ R m r1 o c1 = .ok f2 d r c' ∧ f = f1.app f2 := by
  unfold more at h
  cases h1 : R 0 ts o c with
  | bad e p => rw [h1] at h; cases h
  | ok f1 d1 r1 c1 =>
    rw [h1] at h
    simp only [Res.then] at h
    cases h2 : R m r1 o c1 with
    | bad e p => rw [h2] at h; cases h
    | ok f2 d2 r2 c2 => rw [h2] at h; cases h; exact ⟨_, _, _, _, _, rfl, h2, rfl⟩
theorem more_is {R : Nat → List Tok → Nat → Nat → Res} {m : Nat} {ts r1 r : List Tok} {o c c1 c' : Nat} {f1 f2 : Fo} {d1 d : Bool} (h1 : R 0 ts o c = .ok f1 d1 r1 c1) (h2 : R m r1 o c1 = .ok f2 d r c') : more R m ts o c = .ok (f1.app f2) d r c' := by
  unfold more; rw [h1]; simp only [Res.then]; rw [h2]; rfl

/-- A reading takes what stands ahead, whatever stands behind. -/
theorem rd_local (k : Nat) : ∀ (m : Nat) (q r : List Tok) (o c : Nat) (f : Fo) (d : Bool) (c' : Nat), m ≠ 3 → rd k m (q ++ r) o c = .ok f d r c' → ∀ r', rd k m (q ++ r') o c = .ok f d r' c' := by
  induction k with
  | zero => intro m q r o c f d c' _ h; simp [rd] at h
  | succ k ih =>
    intro m q r o c f d c' hm3 h r'
    have moreL : ∀ (m' : Nat), m' ≠ 3 → more (rd k) m' (q ++ r) o c = .ok f d r c' → more (rd k) m' (q ++ r') o c = .ok f d r' c' := by
      intro m' hm' h
      obtain ⟨f1, d1, r1, c1, f2, h1, h2, rfl⟩ := more_ok h
      obtain ⟨qa, ea, _⟩ := (rd_good _ _ _ _ _ _ _ _ _ h1).suf
      obtain ⟨qb, eb, _⟩ := (rd_good _ _ _ _ _ _ _ _ _ h2).suf
      have hq : q = qa ++ qb := app_inj (r := r) (by rw [ea, eb, List.append_assoc])
      rw [ea] at h1
      have h1' := ih 0 qa r1 o c f1 d1 c1 (by decide) h1 (qb ++ r')
      rw [eb] at h2
      have h2' := ih m' qb r o c1 f2 d c' hm' h2 r'
      rw [hq, List.append_assoc]
      exact more_is h1' h2'
    obtain ⟨q0, e0, hp, _⟩ := (rd_good _ _ _ _ _ _ _ _ _ h).suf
    have hq0 : q = q0 := app_inj e0
    subst hq0
    cases q with
    | nil => simp at hp
    | cons t q =>
      simp only [List.cons_append, rd] at h moreL ⊢
      by_cases hm : m = 0
      · rw [if_pos hm] at h ⊢
        unfold one at h ⊢
        by_cases hk : t.kind = 1
        · rw [if_pos hk] at h ⊢
          by_cases ho : o = 100
          · rw [if_pos ho] at h; cases h
          rw [if_neg ho] at h ⊢
          by_cases hc : 10000 < c + 1
          · rw [if_pos hc] at h; cases h
          rw [if_neg hc] at h ⊢
          obtain ⟨f1, d1, h1, rfl, rfl⟩ := list_ok h
          rw [ih 1 q r _ _ _ _ _ (by decide) h1 r']; rfl
        rw [if_neg hk] at h ⊢
        by_cases hk3 : t.kind = 3
        · rw [if_pos hk3] at h ⊢
          by_cases ho : o = 100
          · rw [if_pos ho] at h; cases h
          rw [if_neg ho] at h ⊢
          by_cases hc : 10000 < c + 2
          · rw [if_pos hc] at h; cases h
          rw [if_neg hc] at h ⊢
          obtain ⟨f1, d1, h1, rfl, rfl⟩ := quote_ok h
          rw [ih 0 q r _ _ _ _ _ (by decide) h1 r']; rfl
        rw [if_neg hk3] at h ⊢
        by_cases hl : isLeaf t.kind = true
        · rw [if_pos hl] at h ⊢
          by_cases hc : 10000 < c + 1
          · rw [if_pos hc] at h; cases h
          rw [if_neg hc] at h ⊢
          simp only [Res.ok.injEq] at h ⊢
          obtain ⟨h1, h2, h3, h4⟩ := h
          have : q = [] := by
            have := congrArg List.length h3
            simp at this; exact this
          subst this
          exact ⟨h1, h2, rfl, h4⟩
        · rw [if_neg hl] at h; cases h
      · rw [if_neg hm] at h ⊢
        unfold lst at h ⊢
        rw [if_neg hm3] at h ⊢
        by_cases hk : t.kind = 2
        · rw [if_pos hk] at h ⊢
          simp only [Res.ok.injEq] at h ⊢
          obtain ⟨h1, h2, h3, h4⟩ := h
          have : q = [] := by
            have := congrArg List.length h3
            simp at this; exact this
          subst this
          exact ⟨h1, h2, rfl, h4⟩
        rw [if_neg hk] at h ⊢
        by_cases hk4 : t.kind = 4
        · rw [if_pos hk4] at h ⊢
          by_cases h1 : m = 1
          · rw [if_pos h1] at h; cases h
          rw [if_neg h1] at h ⊢
          obtain ⟨f1, d1, t1, hx, h2, rfl, rfl⟩ := tail_ok h
          obtain ⟨qa, ea, _⟩ := (rd_good _ _ _ _ _ _ _ _ _ hx).suf
          have hq : q = qa ++ [t1] := app_inj (r := r) (by rw [ea]; simp)
          rw [ea] at hx
          have := ih 0 qa (t1 :: r) o c f1 d1 c' (by decide) hx (t1 :: r')
          rw [hq, show (qa ++ [t1]) ++ r' = qa ++ (t1 :: r') by simp, this]
          simp only [Res.tail, if_pos h2]
        · rw [if_neg hk4] at h ⊢
          exact moreL 2 (by decide) h

/-- A count that begins higher: the same, or too much. -/
theorem rd_count (k : Nat) : ∀ (m : Nat) (ts : List Tok) (o c : Nat) (f : Fo) (d : Bool) (r : List Tok) (c' e : Nat), rd k m ts o c = .ok f d r c' → rd k m ts o (c + e) = .ok f d r (c' + e) ∨ ∃ p, rd k m ts o (c + e) = .bad 62 p := by
  induction k with
  | zero => intro m ts o c f d r c' e h; simp [rd] at h
  | succ k ih =>
    intro m ts o c f d r c' e h
    cases ts with
    | nil => simp [rd] at h
    | cons t ts =>
      have moreL : ∀ (m' : Nat), more (rd k) m' (t :: ts) o c = .ok f d r c' → more (rd k) m' (t :: ts) o (c + e) = .ok f d r (c' + e) ∨ ∃ p, more (rd k) m' (t :: ts) o (c + e) = .bad 62 p := by
        intro m' h
        obtain ⟨f1, d1, r1, c1, f2, h1, h2, rfl⟩ := more_ok h
        rcases ih 0 _ o c f1 d1 r1 c1 e h1 with h1' | ⟨p, h1'⟩
        · rcases ih m' _ o c1 f2 d r c' e h2 with h2' | ⟨p, h2'⟩
          · exact .inl (more_is h1' h2')
          · refine .inr ⟨p, ?_⟩
            unfold more; rw [h1']; simp only [Res.then]; rw [h2']; rfl
        · refine .inr ⟨p, ?_⟩
          unfold more; rw [h1']; rfl
      simp only [rd] at h ⊢
      by_cases hm : m = 0
      · rw [if_pos hm] at h ⊢
        unfold one at h ⊢
        by_cases hk : t.kind = 1
        · rw [if_pos hk] at h ⊢
          by_cases ho : o = 100
          · rw [if_pos ho] at h; cases h
          rw [if_neg ho] at h ⊢
          by_cases hc : 10000 < c + 1
          · rw [if_pos hc] at h; cases h
          rw [if_neg hc] at h
          by_cases hc2 : 10000 < c + e + 1
          · rw [if_pos hc2]; exact .inr ⟨_, rfl⟩
          rw [if_neg hc2]
          obtain ⟨f1, d1, h1, rfl, rfl⟩ := list_ok h
          rw [show c + e + 1 = c + 1 + e by omega]
          rcases ih 1 _ _ _ _ _ _ _ e h1 with h' | ⟨p, h'⟩
          · rw [h']; exact .inl rfl
          · rw [h']; exact .inr ⟨p, rfl⟩
        rw [if_neg hk] at h ⊢
        by_cases hk3 : t.kind = 3
        · rw [if_pos hk3] at h ⊢
          by_cases ho : o = 100
          · rw [if_pos ho] at h; cases h
          rw [if_neg ho] at h ⊢
          by_cases hc : 10000 < c + 2
          · rw [if_pos hc] at h; cases h
          rw [if_neg hc] at h
          by_cases hc2 : 10000 < c + e + 2
          · rw [if_pos hc2]; exact .inr ⟨_, rfl⟩
          rw [if_neg hc2]
          obtain ⟨f1, d1, h1, rfl, rfl⟩ := quote_ok h
          rw [show c + e + 2 = c + 2 + e by omega]
          rcases ih 0 _ _ _ _ _ _ _ e h1 with h' | ⟨p, h'⟩
          · rw [h']; exact .inl rfl
          · rw [h']; exact .inr ⟨p, rfl⟩
        rw [if_neg hk3] at h ⊢
        by_cases hl : isLeaf t.kind = true
        · rw [if_pos hl] at h ⊢
          by_cases hc : 10000 < c + 1
          · rw [if_pos hc] at h; cases h
          rw [if_neg hc] at h
          by_cases hc2 : 10000 < c + e + 1
          · rw [if_pos hc2]; exact .inr ⟨_, rfl⟩
          rw [if_neg hc2]
          cases h
          exact .inl (by rw [show c + e + 1 = c + 1 + e by omega])
        · rw [if_neg hl] at h; cases h
      · rw [if_neg hm] at h ⊢
        unfold lst at h ⊢
        by_cases h3 : m = 3
        · rw [if_pos h3] at h ⊢
          by_cases h9 : t.kind = 9
          · rw [if_pos h9] at h ⊢
            cases h
            exact .inl rfl
          · rw [if_neg h9] at h ⊢
            exact moreL 3 h
        rw [if_neg h3] at h ⊢
        by_cases hk : t.kind = 2
        · rw [if_pos hk] at h ⊢
          cases h
          exact .inl rfl
        rw [if_neg hk] at h ⊢
        by_cases hk4 : t.kind = 4
        · rw [if_pos hk4] at h ⊢
          by_cases h1 : m = 1
          · rw [if_pos h1] at h; cases h
          rw [if_neg h1] at h ⊢
          obtain ⟨f1, d1, t1, hx, h2, rfl, rfl⟩ := tail_ok h
          rcases ih 0 _ _ _ _ _ _ _ e hx with h' | ⟨p, h'⟩
          · rw [h']
            refine .inl ?_
            simp only [Res.tail, if_pos h2]
          · rw [h']; exact .inr ⟨p, rfl⟩
        · rw [if_neg hk4] at h ⊢
          exact moreL 2 h
theorem rdf_count {m : Nat} {ts : List Tok} {o c : Nat} {f : Fo} {d : Bool} {r : List Tok} {c' : Nat} (e : Nat) (h : rdf m ts o c = .ok f d r c') : rdf m ts o (c + e) = .ok f d r (c' + e) ∨ ∃ p, rdf m ts o (c + e) = .bad 62 p := rd_count _ m ts o c f d r c' e h
theorem rdf_local {m : Nat} {q r : List Tok} {o c : Nat} {f : Fo} {d : Bool} {c' : Nat} (hm : m ≠ 3) (h : rdf m (q ++ r) o c = .ok f d r c') (r' : List Tok) : rdf m (q ++ r') o c = .ok f d r' c' := by
  have h1 : rd (2 * (q ++ r).length + 2 * (q ++ r').length + mz m + 1) m (q ++ r) o c = .ok f d r c' := by rw [rdf_eq (by omega)]; exact h
  have h2 := rd_local _ m q r o c f d c' hm h1 r'
  rwa [rdf_eq (by omega)] at h2

/-- All to the end: then what follows instead of the end. -/
theorem all_local (z : Tok) (hz : z.kind = 9) : ∀ (n : Nat) (q : List Tok) (o c : Nat) (f : Fo) (d : Bool) (r : List Tok) (c' : Nat), q.length ≤ n → (∀ x ∈ q, x.kind ≠ 9) → rdf 3 (q ++ [z]) o c = .ok f d r c' → ∀ R, R ≠ [] → rdf 3 (q ++ R) o c = (rdf 3 R o c').behind f
  | n, [], o, c, f, d, r, c', _, _, h, R, _ => by
    rw [List.nil_append, rdf_lst (by decide)] at h
    unfold lst at h
    rw [if_pos rfl, if_pos hz] at h
    cases h
    rw [List.nil_append]
    cases rdf 3 R o c <;> rfl
  | 0, t :: q, _, _, _, _, _, _, hn, _, _, _, _ => by simp at hn
  | n + 1, t :: q, o, c, f, d, r, c', hn, hq, h, R, hR => by
    have ht := hq t (List.mem_cons_self ..)
    rw [List.cons_append, rdf_lst (by decide)] at h ⊢
    unfold lst at h ⊢
    rw [if_pos rfl, if_neg ht] at h ⊢
    obtain ⟨f1, d1, r1, c1, f2, h1, h2, rfl⟩ := more_ok h
    have hE : Ended (t :: (q ++ [z])) := ⟨t :: q, z, rfl, hz, hq⟩
    have hg := rdf_good h1
    obtain ⟨qa, ea, hp, _⟩ := hg.suf
    obtain ⟨q2, z2, e2, hz2, hq2⟩ := hg.ended (by decide) hE
    have hz3 : t :: q = qa ++ q2 ∧ z = z2 := by
      have e3 : (t :: q) ++ [z] = (qa ++ q2) ++ [z2] := by rw [List.append_assoc, ← e2, ← ea]; rfl
      have := List.append_inj' e3 rfl
      exact ⟨this.1, by simpa using this.2⟩
    obtain ⟨e4, rfl⟩ := hz3
    subst e2
    rw [ea] at h1
    have h1' := rdf_local (by decide) h1 (q2 ++ R)
    have hl : q2.length ≤ n := by
      have := congrArg List.length e4
      simp only [List.length_cons, List.length_append] at this hn
      omega
    have ih := all_local z hz n q2 o c1 f2 d r c' hl hq2 h2 R hR
    have e5 : t :: (q ++ R) = qa ++ (q2 ++ R) := by rw [← List.append_assoc, ← e4]; rfl
    rw [e5]
    unfold more
    rw [h1']
    simp only [Res.then]
    rw [ih]
    cases rdf 3 R o c' with
    | bad e p => rfl
    | ok f3 d3 r3 c3 => simp only [Res.behind, Fo.app_assoc]
end Go.Proofs.YtinpjpcokjfinaaDoor
