/- Two sources; a source with gaps: what Read tells. -/
import Derived.Test.YtinpjpcokjfinaaDoorHBothErr
import Derived.Test.YtinpjpcokjfinaaDoorHPartMath
namespace Go.Proofs.YtinpjpcokjfinaaDoor

theorem rd_nz (k : Nat) : ∀ (m : Nat) (ts : List Tok) (o c : Nat) (e p : Int), 2 * ts.length + mz m < k → Ended ts → rd k m ts o c = .bad e p → e ≠ 0 := by
  induction k with
  | zero => intro m ts o c e p h; omega
  | succ k ih =>
    intro m ts o c e p hk hE h
    cases ts with
    | nil => exact absurd rfl hE.ne
    | cons t ts =>
      simp only [List.length_cons] at hk
      have moreN : ∀ m', m' ≠ 0 → m ≠ 0 → more (rd k) m' (t :: ts) o c = .bad e p → e ≠ 0 := by
        intro m' hm' hm h
        have e1 : mz m = 1 := if_neg hm
        unfold more at h
        cases h1 : rd k 0 (t :: ts) o c with
        | bad e1 p1 =>
          rw [h1] at h
          cases h
          exact ih 0 _ o c _ _ (by simp only [mz0, List.length_cons]; omega) hE h1
        | ok f1 d1 r1 c1 =>
          rw [h1] at h
          simp only [Res.then] at h
          have hg := rd_good _ _ _ _ _ _ _ _ _ h1
          obtain ⟨q, eq, hp, _⟩ := hg.suf
          have hl : r1.length ≤ ts.length := by
            have := congrArg List.length eq
            simp at this; omega
          cases h2 : rd k m' r1 o c1 with
          | ok => rw [h2] at h; cases h
          | bad e2 p2 =>
            rw [h2] at h
            cases h
            exact ih m' r1 o c1 _ _ (by have : mz m' = 1 := if_neg hm'; omega) (hg.ended (by decide) hE) h2
      simp only [rd] at h
      by_cases hm : m = 0
      · subst hm
        rw [if_pos rfl] at h
        have e0 : mz 0 = 0 := rfl
        unfold one at h
        by_cases hk1 : t.kind = 1
        · rw [if_pos hk1] at h
          split at h; · cases h; decide
          split at h; · cases h; decide
          cases h1 : rd k 1 ts (o + 1) (c + 1) with
          | ok => rw [h1] at h; cases h
          | bad e1 p1 =>
            rw [h1] at h
            cases h
            exact ih 1 ts _ _ _ _ (by simp only [mz1]; omega) (hE.tail (by omega)) h1
        rw [if_neg hk1] at h
        by_cases hk3 : t.kind = 3
        · rw [if_pos hk3] at h
          split at h; · cases h; decide
          split at h; · cases h; decide
          cases h1 : rd k 0 ts (o + 1) (c + 2) with
          | ok => rw [h1] at h; cases h
          | bad e1 p1 =>
            rw [h1] at h
            cases h
            exact ih 0 ts _ _ _ _ (by simp only [mz0]; omega) (hE.tail (by omega)) h1
        rw [if_neg hk3] at h
        split at h
        · split at h
          · cases h; decide
          · cases h
        · cases h; decide
      · rw [if_neg hm] at h
        have e1 : mz m = 1 := if_neg hm
        unfold lst at h
        split at h
        · split at h
          · cases h
          · exact moreN 3 (by decide) hm h
        split at h; · cases h
        rename_i h2
        split at h
        · rename_i hk4
          split at h; · cases h; decide
          cases h1 : rd k 0 ts o c with
          | bad e1 p1 =>
            rw [h1] at h
            cases h
            exact ih 0 ts _ _ _ _ (by simp only [mz0]; omega) (hE.tail (by omega)) h1
          | ok f1 d1 r1 c1 =>
            rw [h1] at h
            have hEr := (rd_good _ _ _ _ _ _ _ _ _ h1).ended (by decide) (hE.tail (by omega))
            cases r1 with
            | nil => exact absurd rfl hEr.ne
            | cons t1 r1 =>
              simp only [Res.tail] at h
              split at h
              · cases h
              · cases h; decide
        · exact moreN 2 (by decide) hm h
theorem rdf_nz {m : Nat} {ts : List Tok} {o c : Nat} {e p : Int} (hE : Ended ts) (h : rdf m ts o c = .bad e p) : e ≠ 0 := rd_nz _ m ts o c e p (Nat.lt_succ_self _) hE h

theorem begE_vals (l : List UInt8) : begE l = 0 ∨ begE l = 50 ∨ begE l = 51 ∨ begE l = 52 := by
  cases l with
  | nil => exact .inl rfl
  | cons b r =>
    simp only [begE, wordE]
    repeat' split
    all_goals simp
theorem items_vals (l : List UInt8) : ∀ x ∈ items l, x.2 ≠ 60 := by
  by_cases h : 65536 < l.length
  · unfold items
    rw [if_pos h]
    intro x hx
    simp at hx
    rw [hx]; decide
  · rw [items_sc l (by omega), sc_map l.length l.length l (Nat.le_refl _)]
    intro x hx
    obtain ⟨a, _, rfl⟩ := List.mem_map.1 hx
    have := begE_vals a
    show begE a ≠ 60
    omega
theorem lexErr_mem {xs : List (Tok × Int)} (h : lexErr xs ≠ 0) : ∃ x ∈ xs, lexErr xs = x.2 := by
  unfold lexErr at h ⊢
  cases hw : xs.dropWhile (fun x => x.2 == 0) with
  | nil => rw [hw] at h; exact absurd rfl h
  | cons y r =>
    refine ⟨y, ?_, rfl⟩
    exact (List.dropWhile_sublist _).subset (by rw [hw]; exact List.mem_cons_self ..)

/-- The end's place is the source's length. -/
theorem sc_end (N : Nat) (l : List UInt8) : ∀ x ∈ sc N l, x.1.kind = 9 → x.1.pos = N := by
  intro x hx hk
  rw [sc_map N l.length l (Nat.le_refl _)] at hx
  obtain ⟨a, _, rfl⟩ := List.mem_map.1 hx
  have h9 : ((begT a).kind == 9) = true := by rw [beq_iff_eq]; exact hk
  rw [begT_kind9] at h9
  have ha : a = [] := by simpa using h9
  subst ha
  show ((N : Int) - 0) = N
  omega

/-- A source that is read: its tokens. -/
theorem toks_of {s : List UInt8} (hl : s.length ≤ 65536) (h : lexErr (items s) = 0) : ∃ q z, (items s).map Prod.fst = q ++ [z] ∧ z.kind = 9 ∧ z.pos = (s.length : Int) ∧ (∀ x ∈ q, x.kind ≠ 9) ∧ fine (items s) ∧ ((items s).dropLast).map Prod.fst = q := by
  have hf := lexErr_zero h
  obtain ⟨q, z, h1, h2, h3⟩ := items_ended s hf
  refine ⟨q, z, h1, h2, ?_, h3, hf, ?_⟩
  · have hz : z ∈ (items s).map Prod.fst := by rw [h1]; simp
    obtain ⟨x, hx, rfl⟩ := List.mem_map.1 hz
    rw [items_sc s hl] at hx
    exact sc_end _ _ x hx h2
  · have := congrArg List.dropLast h1
    rw [List.dropLast_concat] at this
    rw [← this, List.map_dropLast]
theorem joined_items (l t : List UInt8) (h : l.length + t.length + 1 ≤ 65536) :
    items (l ++ 10 :: t) = if fineB (items l) then (items l).dropLast ++ (items t).map (shift (l.length + 1 : Nat)) else items l := by
  rw [items_sc l (by omega), items_sc t (by omega), items_sc (l ++ 10 :: t) (by simp; omega)]
  have e : (l ++ 10 :: t).length = l.length + 1 + t.length := by simp; omega
  rw [e, sc_join l.length t l.length l (Nat.le_refl _)]
  have := sc_shift t.length (l.length + 1) t.length t (Nat.le_refl _)
  rw [show t.length + (l.length + 1) = l.length + 1 + t.length from by omega] at this
  rw [this]
theorem fineB_of {xs : List (Tok × Int)} (h : fine xs) : fineB xs = true := by
  simp only [fineB, List.all_eq_true, beq_iff_eq]; exact h
/-- The tokens of both. -/
theorem joined_toks {s t : List UInt8} (h : s.length + t.length + 1 ≤ 65536) (hs : fine (items s)) (ht : fine (items t)) :
    fine (items (s ++ 10 :: t)) ∧ (items (s ++ 10 :: t)).map Prod.fst = ((items s).dropLast).map Prod.fst ++ ((items t).map Prod.fst).map (fun x => put x (x.pos + (s.length + 1 : Nat))) := by
  have e := joined_items s t h
  rw [fineB_of hs, if_pos rfl] at e
  constructor
  · intro x hx
    rw [e] at hx
    rcases List.mem_append.1 hx with hx | hx
    · exact hs x (List.dropLast_subset _ hx)
    · obtain ⟨y, hy, rfl⟩ := List.mem_map.1 hx
      exact ht y hy
  · rw [e, List.map_append, List.map_map, List.map_map]
    rfl
theorem bare_shift (T : List Tok) (n : Nat) : (T.map (fun x => put x (x.pos + n))).map bare = T.map bare := by
  rw [List.map_map]; rfl

theorem readOf_zero {l : List UInt8} (h : (readOf l).2.1 = 0) : fine (items l) ∧ ∃ d r c, rdf 3 ((items l).map Prod.fst) 0 0 = .ok (readOf l).1 d r c := by
  by_cases hx : lexErr (items l) = 0
  · have hf := lexErr_zero hx
    refine ⟨hf, ?_⟩
    have e := readOf_fine hf
    cases hr : rdf 3 ((items l).map Prod.fst) 0 0 with
    | bad e1 p1 =>
      rw [hr] at e
      rw [e] at h
      exact absurd h (rdf_nz (items_ended l hf) hr)
    | ok f d r c => rw [hr] at e; rw [e]; exact ⟨_, _, _, rfl⟩
  · exfalso
    unfold readOf at h
    rw [if_neg hx] at h
    exact hx h
theorem small_of_fine {l : List UInt8} (h : fine (items l)) : l.length ≤ 65536 := by
  rcases Nat.lt_or_ge 65536 l.length with h1 | h1
  · unfold items at h
    rw [if_pos h1] at h
    exact absurd (h _ (List.mem_cons_self ..)) (by decide)
  · exact h1

/-- BOTH: one behind the other, or too much. -/
theorem both_ok {s t : List UInt8} (h : s.length + t.length + 1 ≤ 65536) (hs : (readOf s).2.1 = 0) (ht : (readOf t).2.1 = 0) :
    readOf (s ++ 10 :: t) = ((readOf s).1.app (readOf t).1, 0, 0) ∨ ∃ p, readOf (s ++ 10 :: t) = (.nil, 62, p) := by
  obtain ⟨fs, d1, r1, c1, h1⟩ := readOf_zero hs
  obtain ⟨ft, d2, r2, c2, h2⟩ := readOf_zero ht
  obtain ⟨q, z, e1, hz, hp, hq, _, e2⟩ := toks_of (s := s) (by omega) (lexErr_fine fs).1
  obtain ⟨hf, hT⟩ := joined_toks h fs ft
  rw [e2] at hT
  have hR := readOf_fine hf
  rw [e1] at h1
  have hne : ((items t).map Prod.fst).map (fun x => put x (x.pos + (s.length + 1 : Nat))) ≠ [] := by simp [items_ne]
  have ha := all_local z hz q.length q 0 0 _ d1 r1 c1 (Nat.le_refl _) hq h1 _ hne
  rw [hT, ha] at hR
  have hb := rdf_bare 3 (((items t).map Prod.fst).map (fun x => put x (x.pos + (s.length + 1 : Nat)))) 0 c1
  rw [bare_shift, rdf_bare] at hb
  rcases rdf_count c1 h2 with h3 | ⟨p, h3⟩
  · rw [Nat.zero_add] at h3
    rw [h3] at hb
    cases hx : rdf 3 (((items t).map Prod.fst).map (fun x => put x (x.pos + (s.length + 1 : Nat)))) 0 c1 with
    | bad e p => rw [hx] at hb; cases hb
    | ok f d r c =>
      rw [hx] at hb hR
      simp only [Res.bare, Res.ok.injEq] at hb
      rw [← hb.1] at hR
      exact .inl hR
  · rw [Nat.zero_add] at h3
    rw [h3] at hb
    cases hx : rdf 3 (((items t).map Prod.fst).map (fun x => put x (x.pos + (s.length + 1 : Nat)))) 0 c1 with
    | ok f d r c => rw [hx] at hb; cases hb
    | bad e p' =>
      rw [hx] at hb hR
      simp only [Res.bare, Res.bad.injEq] at hb
      rw [← hb.1] at hR
      exact .inr ⟨p', hR⟩
/-- An error of the first source is one of both. -/
theorem both_err {s t : List UInt8} (h : s.length + t.length + 1 ≤ 65536) (hs : (readOf s).2.1 = 60) (hp : (readOf s).2.2 < s.length) (ft : fine (items t)) :
    (readOf (s ++ 10 :: t)).2 = (60, (readOf s).2.2) := by
  by_cases hx : lexErr (items s) = 0
  · have fs := lexErr_zero hx
    obtain ⟨q, z, e1, hz, hpz, hq, _, e2⟩ := toks_of (s := s) (by omega) hx
    obtain ⟨hf, hT⟩ := joined_toks h fs ft
    rw [e2] at hT
    have hR := readOf_fine hf
    have hR1 := readOf_fine fs
    cases hr : rdf 3 ((items s).map Prod.fst) 0 0 with
    | ok f d r c => rw [hr] at hR1; rw [hR1] at hs; cases hs
    | bad e p =>
      rw [hr] at hR1
      rw [hR1] at hs hp ⊢
      dsimp only at hs hp
      rw [e1] at hr
      have := rdf_err hz hq hr (by omega) (by omega) (((items t).map Prod.fst).map (fun x => put x (x.pos + (s.length + 1 : Nat))))
      rw [hT, this] at hR
      rw [hR, hs]
  · exfalso
    obtain ⟨x, hxm, hxe⟩ := lexErr_mem hx
    have := items_vals s x hxm
    unfold readOf at hs
    rw [if_neg hx] at hs
    dsimp only at hs
    omega

/-! Gaps. -/
theorem leave_true_nil : ∀ (l : List UInt8), leave false l = [] → leave true l = []
  | [], _ => rfl
  | b :: r, h => by
    have hT : ∀ r' : List UInt8, leave true r' = [] → leave true r' = [] := fun _ h => h
    simp only [leave] at h ⊢
    split at h
    · rename_i hb
      split
      · exact h
      · exact leave_true_nil r h
    · split at h
      · split
        · rename_i h1 h2; omega
        · exact h
      · cases h
theorem gap_leave {gap : List UInt8} (h : leave false gap = []) (c : Bool) (z : List UInt8) : leave c (gap ++ 10 :: z) = leave false z := by
  rw [leave_join]
  cases c
  · rw [if_pos h]
  · rw [if_pos (leave_true_nil gap h)]
/-- What is passed by may stand ahead of anything. -/
theorem leave_pass : ∀ (x a : List UInt8) (c : Bool), leave c (x ++ a) = a → leave false a = a → ∃ c', ∀ z, leave c (x ++ z) = leave c' z
  | [], a, c, _, _ => ⟨c, fun _ => rfl⟩
  | b :: x, a, c, h, ha => by
    cases c
    · simp only [List.cons_append, leave] at h ⊢
      by_cases hb : isB b = true
      · simp only [if_pos hb] at h ⊢
        exact leave_pass x a false h ha
      · simp only [if_neg hb] at h ⊢
        by_cases h59 : b.toNat = 59
        · simp only [if_pos h59] at h ⊢
          exact leave_pass x a true h ha
        · simp only [if_neg h59] at h
          have := congrArg List.length h
          simp at this
          omega
    · simp only [List.cons_append, leave] at h ⊢
      by_cases h10 : b.toNat = 10
      · simp only [if_pos h10] at h ⊢
        exact leave_pass x a false h ha
      · simp only [if_neg h10] at h ⊢
        exact leave_pass x a true h ha
theorem gap_head {gap : List UInt8} (h : leave false gap = []) (z : List UInt8) : ∀ c, (gap ++ 10 :: z).head? = some c → isW c = false := by
  intro c hc
  cases gap with
  | nil =>
    simp at hc; rw [← hc]; decide
  | cons b r =>
    simp at hc
    subst hc
    simp only [leave] at h
    by_cases hb : isB b = true
    · simp only [isB, isBI, Bool.or_eq_true, beq_iff_eq] at hb
      simp only [isW, isWI, Bool.and_eq_false_iff, decide_eq_false_iff_not, bne_eq_false_iff_eq]
      omega
    · rw [if_neg hb] at h
      by_cases h59 : b.toNat = 59
      · simp only [isW, isWI, Bool.and_eq_false_iff, decide_eq_false_iff_not, bne_eq_false_iff_eq]
        omega
      · rw [if_neg h59] at h; cases h

theorem lx_congr {l l' : List UInt8} (h : leave false l = leave false l') : lx l = lx l' := by
  have h1 : last l = last l' := by unfold last er0; rw [h]
  have h2 : nx0 l = nx0 l' := by unfold nx0; rw [h]
  rw [lx_eq, lx_eq l', h, h1, h2]
/-- A source's tokens, each up to the next one, with gaps behind. -/
def spr (gap : List UInt8) : List (List UInt8) → List UInt8
  | a :: b :: r => a.take (a.length - b.length) ++ (gap ++ (10 :: spr gap (b :: r)))
  | _ => []
theorem spr_lx {gap : List UInt8} (hg : leave false gap = []) : ∀ (q : List (List UInt8)), linked (q ++ [[]]) → (∀ a ∈ q, a ≠ [] ∧ begE a = 0) → lx (spr gap (q ++ [[]])) = z0 ((q ++ [[]]).map begT)
  | [], _, _ => by
    show lx [] = _
    rw [lx_nil]; rfl
  | a :: q, hl, hq => by
    obtain ⟨hne, he⟩ := hq a (List.mem_cons_self ..)
    obtain ⟨b, r, hbr⟩ : ∃ b r, q ++ [[]] = b :: r := by
      cases q with
      | nil => exact ⟨[], [], rfl⟩
      | cons x q => exact ⟨x, q ++ [[]], rfl⟩
    have ih := spr_lx hg q (by simpa using hl.2.2) (fun x hx => hq x (List.mem_cons_of_mem _ hx))
    rw [List.cons_append] at hl ⊢
    rw [hbr] at hl ih ⊢
    obtain ⟨hfa, ⟨_, _, hb⟩, _⟩ := hl
    have hbs := begS_le a
    have hfb : leave false b = b := by rw [hb, leave_false_idem]
    have hdrop := leave_drop false (a.drop (begS a))
    rw [← hb] at hdrop
    -- the piece is the token and what is passed by
    obtain ⟨x, hx⟩ : ∃ x, a.drop (begS a) = x ++ b := by
      refine ⟨(a.drop (begS a)).take ((a.drop (begS a)).length - b.length), ?_⟩
      conv => lhs; rw [← List.take_append_drop ((a.drop (begS a)).length - b.length) (a.drop (begS a))]
      rw [← hdrop]
    have hpiece : a.take (a.length - b.length) = part a ++ x := by
      have e : a = part a ++ (x ++ b) := by rw [← hx]; unfold part; rw [List.take_append_drop]
      have el : a.length - b.length = (part a ++ x).length := by
        have := congrArg List.length e
        simp only [List.length_append] at this ⊢
        omega
      rw [el]
      obtain ⟨p, hp⟩ : ∃ p, part a = p := ⟨_, rfl⟩
      rw [hp] at e ⊢
      rw [e, ← List.append_assoc, List.take_left]
    have hpass : leave false (x ++ b) = b := by rw [← hx, ← hb]
    obtain ⟨c', hc'⟩ := leave_pass x b false hpass hfb
    have hhead : ∀ c, (x ++ (gap ++ 10 :: spr gap (b :: r))).head? = some c → isW c = false := by
      intro c hc
      cases x with
      | nil => exact gap_head hg _ c hc
      | cons y x =>
        simp at hc
        subst hc
        have h1 := hc' [98]
        simp only [List.cons_append, leave] at hpass
        by_cases hb1 : isB y = true
        · simp only [isB, isBI, Bool.or_eq_true, beq_iff_eq] at hb1
          simp only [isW, isWI, Bool.and_eq_false_iff, decide_eq_false_iff_not, bne_eq_false_iff_eq]
          omega
        · rw [if_neg hb1] at hpass
          by_cases h59 : y.toNat = 59
          · simp only [isW, isWI, Bool.and_eq_false_iff, decide_eq_false_iff_not, bne_eq_false_iff_eq]
            omega
          · rw [if_neg h59] at hpass
            have := congrArg List.length hpass
            simp at this
            omega
    obtain ⟨p1, p2, p3, p4, p5, _⟩ := part_beg a hne hfa he (x ++ (gap ++ 10 :: spr gap (b :: r))) hhead
    have htext : spr gap (a :: b :: r) = part a ++ (x ++ (gap ++ 10 :: spr gap (b :: r))) := by
      show a.take (a.length - b.length) ++ _ = _
      rw [hpiece, List.append_assoc]
    have hlast : last (spr gap (a :: b :: r)) = false := by
      unfold last er0
      rw [htext, p2, p4]
      simp [p1]
    have hnx : leave false (nx0 (spr gap (a :: b :: r))) = leave false (spr gap (b :: r)) := by
      unfold nx0
      rw [htext, p2, p5, List.drop_left, hc', gap_leave hg]
    rw [lx_eq, hlast, htext, p2, p3, p4]
    have hlx : lx (nx0 (part a ++ (x ++ (gap ++ 10 :: spr gap (b :: r))))) = lx (spr gap (b :: r)) := by
      rw [← htext]
      exact lx_congr hnx
    rw [if_neg (by simp), hlx, ih]
    show (bare (begT a), 0) :: _ = _
    have hbare : bare (begT a) = begT a := by
      cases a with
      | nil => rfl
      | cons d t =>
        simp only [begT]
        split; · rfl
        split; · rfl
        split; · rfl
        split
        · exact word_bare _
        · rfl
    rw [hbare]
    simp [z0]
/-- GAPS change no datum. -/
theorem gap_read {s gap : List UInt8} (hs : (readOf s).2.1 = 0) (hg : leave false gap = []) (hl : (spr gap (ssc s)).length ≤ 65536) : readOf (spr gap (ssc s)) = ((readOf s).1, 0, 0) := by
  obtain ⟨fs, d, r, c, h1⟩ := readOf_zero hs
  have hsl := small_of_fine fs
  obtain ⟨q, a, e1, ha, hq⟩ := ssc_ends s.length s (Nat.le_refl _)
  have hsc := sc_map s.length s.length s (Nat.le_refl _)
  rw [items_sc s hsl, hsc] at fs h1
  have ha0 : a = [] := by
    rcases ha with ha | ha
    · exact ha
    · exfalso
      have := fs (tokAt s.length a) (List.mem_map_of_mem (by rw [e1]; simp))
      exact ha this
  subst ha0
  have hlk := ssc_linked s.length s (Nat.le_refl _)
  rw [e1] at hlk h1 hl ⊢
  have hlx := spr_lx hg q hlk hq
  have hk : (((q ++ [[]]).map (tokAt s.length)).map Prod.fst).map bare = (q ++ [[]]).map begT := by
    rw [List.map_map, List.map_map]
    apply List.map_congr_left
    intro x hx
    show bare (put (begT x) _) = _
    rw [bare_put]
    cases x with
    | nil => rfl
    | cons d t =>
      simp only [begT]
      split; · rfl
      split; · rfl
      split; · rfl
      split
      · exact word_bare _
      · rfl
  have hb := rdf_bare 3 (((q ++ [[]]).map (tokAt s.length)).map Prod.fst) 0 0
  rw [hk, h1] at hb
  exact read_ok hl hlx hb
end Go.Proofs.YtinpjpcokjfinaaDoor
