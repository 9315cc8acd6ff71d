/- The tokens of a source, without fuel; two sources with a new line between.; The tokens of the text of data: plain mathematics.; What is written is read again: plain mathematics. -/
import Derived.Test.YtkgnigloboajcaaGreatDoorK01
import Derived.Test.YtkgnigloboajcaaGreatDoorK13
import Derived.Lib.ItoaNum
/- The tokens of a source, without fuel; two sources with a new line between. -/
namespace Go.Proofs.YtkgnigloboajcaaGreatDoor

def sc (N : Nat) (l : List UInt8) : List (Tok × Int) := scan N (l.length + 1) l

end Go.Proofs.YtkgnigloboajcaaGreatDoor

/- The tokens of the text of data: plain mathematics. -/
namespace Go.Proofs.YtkgnigloboajcaaGreatDoor

/-- A token without its place. -/
def bare (t : Tok) : Tok := put t 0
def bareI (x : Tok × Int) : Tok × Int := (bare x.1, x.2)
/-- The tokens of a text, without their places. -/
def lx (l : List UInt8) : List (Tok × Int) := (sc 0 l).map bareI
def z0 (ks : List Tok) : List (Tok × Int) := ks.map fun t => (t, 0)
/-- No word goes on here. -/
def stop (z : List UInt8) : Prop := z.takeWhile isW = []

/-! Numbers. -/
theorem sym_spec {t : List UInt8} (h : symB t = true) : t.all isW = true ∧ t ≠ [] ∧ word t = ⟨6, t, 0, 0⟩ ∧ wordE t = 0 := by
  simp only [symB, Bool.and_eq_true, beq_iff_eq] at h
  obtain ⟨hE, hK, hS⟩ := h
  cases t with
  | nil => simp [begT, tk] at hK
  | cons b r =>
    simp only [begT, begE, begS] at hE hK hS
    by_cases h1 : b.toNat = 40
    · simp [h1, tk] at hK
    by_cases h2 : b.toNat = 41
    · simp [h2, tk] at hK
    by_cases h3 : b.toNat = 39
    · simp [h3, tk] at hK
    by_cases h4 : isW b = true
    · rw [if_neg h1, if_neg h2, if_neg h3, if_pos h4] at hE hK hS
      have hl : ((b :: r).takeWhile isW).length = (b :: r).length := by omega
      have ht : (b :: r).takeWhile isW = b :: r := List.IsPrefix.eq_of_length (List.takeWhile_prefix _) hl
      rw [ht] at hE hK
      refine ⟨?_, by simp, ?_, hE⟩
      · rw [← ht]
        exact List.all_takeWhile
      · unfold word at hK ⊢
        split at hK; · cases hK
        split at hK; · cases hK
        split at hK; · cases hK
        split at hK
        · split at hK <;> cases hK
        · split at hK
          · cases hK
          · rename_i e1 e2 e3 e4 e5
            rw [if_neg e1, if_neg e2, if_neg e3, if_neg e4, if_neg e5]
    · simp [h1, h2, h3, h4, tk] at hK

/-! The tokens of data. -/
def kidsK (d : Bool) : List (List Tok) → List Tok
  | [] => []
  | x :: r => (if d && r.isEmpty then [tk 4] else []) ++ (x ++ kidsK d r)
def oneK (k n : Int) (t : List UInt8) (s : Fo) (d : Bool) (ts : List (List Tok)) : List Tok :=
  if k = 1 then [⟨5, [], n, 0⟩] else if k = 2 then [⟨6, t, 0, 0⟩] else if k = 3 then [tk 7] else if k = 4 then [tk 8]
  else if isQ s d then tk 3 :: ts.getD 1 [] else tk 1 :: (kidsK d ts ++ [tk 2])
def textsK : Fo → List (List Tok)
  | .nil => []
  | .cons k n t s d r => oneK k n t s d (textsK s) :: textsK r
/-- Are all of them data? -/
def allD : Fo → Bool
  | .nil => true
  | .cons k n t s d r => isDat k n t s d && (allD s && allD r)

/-- A text that is cut into these tokens, whatever stops it. -/
def Cut (x : List UInt8) (ks : List Tok) : Prop := ∀ z, stop z → lx (x ++ z) = z0 ks ++ lx z
theorem isQ_spec {s : Fo} {d : Bool} (h : isQ s d = true) : d = false ∧ ∃ k n t s1 d1, s = .cons 2 0 quoteB .nil false (.cons k n t s1 d1 .nil) := by
  unfold isQ at h
  split at h
  · rename_i k n t s1 d1 k' n' t' s1' d1'
    simp only [sameB, Bool.and_eq_true, Bool.not_eq_true', beq_iff_eq, decide_eq_true_eq, Fo.same_iff] at h
    obtain ⟨hd, rfl, rfl, rfl, rfl, rfl⟩ := h
    exact ⟨hd, _, _, _, _, _, rfl⟩
  · cases h
theorem isDat_num {n : Int} {t : List UInt8} {s : Fo} {d : Bool} (h : isDat 1 n t s d = true) : fits n = true ∧ t = [] ∧ s = .nil ∧ d = false := by
  simp only [isDat, if_true, sameB, Bool.and_eq_true, beq_iff_eq, decide_eq_true_eq, Fo.same_iff] at h
  obtain ⟨⟨_, _, rfl, rfl, rfl⟩, h1, h2⟩ := h
  refine ⟨?_, rfl, rfl, rfl⟩
  simp only [fits, Bool.and_eq_true, decide_eq_true_eq]; omega
theorem isDat_sym {n : Int} {t : List UInt8} {s : Fo} {d : Bool} (h : isDat 2 n t s d = true) : symB t = true ∧ n = 0 ∧ s = .nil ∧ d = false := by
  have h2 : ¬ ((2 : Int) = 1) := by decide
  simp only [isDat, if_neg h2, if_true, sameB, Bool.and_eq_true, beq_iff_eq, decide_eq_true_eq, Fo.same_iff] at h
  obtain ⟨⟨_, rfl, _, rfl, rfl⟩, h1⟩ := h
  exact ⟨h1, rfl, rfl, rfl⟩
theorem isDat_lf {k n : Int} {t : List UInt8} {s : Fo} {d : Bool} (hk : k = 3 ∨ k = 4) (h : isDat k n t s d = true) : n = 0 ∧ t = [] ∧ s = .nil ∧ d = false := by
  have h1 : ¬ k = 1 := by omega
  have h2 : ¬ k = 2 := by omega
  simp only [isDat, if_neg h1, if_neg h2, if_pos hk, sameB, Bool.and_eq_true, beq_iff_eq, decide_eq_true_eq, Fo.same_iff] at h
  obtain ⟨_, rfl, rfl, rfl, rfl⟩ := h
  exact ⟨rfl, rfl, rfl, rfl⟩
theorem isDat_kind {k n : Int} {t : List UInt8} {s : Fo} {d : Bool} (h : isDat k n t s d = true) : k = 1 ∨ k = 2 ∨ k = 3 ∨ k = 4 ∨ k = 5 := by
  unfold isDat at h
  split at h; · omega
  split at h; · omega
  split at h; · omega
  split at h; · omega
  cases h
theorem isDat_list {n : Int} {t : List UInt8} {s : Fo} {d : Bool} (h : isDat 5 n t s d = true) : n = 0 ∧ t = [] ∧ (d = true → hasT s = true) := by
  have h1 : ¬ (5 : Int) = 1 := by omega
  have h2 : ¬ (5 : Int) = 2 := by omega
  have h3 : ¬ ((5 : Int) = 3 ∨ (5 : Int) = 4) := by omega
  simp only [isDat, if_neg h1, if_neg h2, if_neg h3, if_true, Bool.and_eq_true, beq_iff_eq, decide_eq_true_eq, Bool.or_eq_true, Bool.not_eq_true'] at h
  exact ⟨h.1, h.2.1, fun hd => h.2.2.resolve_left (by simp [hd])⟩

end Go.Proofs.YtkgnigloboajcaaGreatDoor

/- What is written is read again: plain mathematics. -/
namespace Go.Proofs.YtkgnigloboajcaaGreatDoor

/-! Places do not matter. -/
def Res.bare : Res → Res
  | .ok f d r c => .ok f d (r.map Go.Proofs.YtkgnigloboajcaaGreatDoor.bare) c
  | .bad e _ => .bad e 0
/-! How deep. -/
def dep (L : Nat) : Fo → Nat
  | .nil => 0
  | .cons k _ _ s _ r => max (if k = 5 then max (L + 1) (dep (L + 1) s) else dep L s) (dep L r)
theorem ext_is : ∀ (f : Fo) (L c p : Nat), ext f L (c, p) = if allD f then some (c + f.size, max p (dep L f)) else none
  | .nil, L, c, p => by simp [ext, allD, Fo.size, dep]
  | .cons k n t s d r, L, c, p => by
    have hA : allD (.cons k n t s d r) = (isDat k n t s d && (allD s && allD r)) := rfl
    have hX : ext (.cons k n t s d r) L (c, p) = if isDat k n t s d then (ext s (if k = 5 then L + 1 else L) (c + 1, if k = 5 then max p (L + 1) else p)).bind (ext r L) else none := rfl
    rw [hA, hX, ext_is s]
    cases isDat k n t s d
    · rfl
    · cases allD s
      · rfl
      · show ext r L _ = if allD r = true then _ else none
        rw [ext_is r]
        cases allD r
        · rfl
        · simp only [if_true, Option.some.injEq, Prod.mk.injEq, Fo.size, dep]
          refine ⟨by omega, ?_⟩
          split <;> omega
theorem chk_zero {f : Fo} : chk f = 0 ↔ allD f = true ∧ dep 0 f ≤ 100 ∧ f.size ≤ 10000 := by
  unfold chk
  rw [ext_is]
  cases h : allD f
  · simp
  · simp only [if_true]
    split
    · simp; omega
    · split
      · simp; omega
      · simp; omega

/-- What comes is good, or too deep, or too much. -/
def Tries (res good : Res) (o c : Nat) : Prop := res = good ∨ (∃ p, res = .bad 61 p ∧ 100 < o) ∨ (∃ p, res = .bad 62 p ∧ 10000 < c)
theorem Tries.mono {res good : Res} {o c o' c' : Nat} (h : Tries res good o c) (ho : o ≤ o') (hc : c ≤ c') : Tries res good o' c' := by
  rcases h with h | ⟨p, h, h'⟩ | ⟨p, h, h'⟩
  · exact .inl h
  · exact .inr (.inl ⟨p, h, by omega⟩)
  · exact .inr (.inr ⟨p, h, by omega⟩)
/-- One datum's tokens are read as it. -/
def One (k n : Int) (t : List UInt8) (s : Fo) (d : Bool) : Prop := ∀ (o c : Nat) (rest : List Tok), o ≤ 100 →
  Tries (rdf 0 (oneK k n t s d (textsK s) ++ rest) o c) (.ok (.cons k n t s d .nil) false rest (c + s.size + 1)) (dep o (.cons k n t s d .nil)) (c + s.size + 1)
def Each : Fo → Prop
  | .nil => True
  | .cons k n t s d r => One k n t s d ∧ Each r
theorem oneK_head {k n : Int} {t : List UInt8} {s : Fo} {d : Bool} (ts : List (List Tok)) : ∃ a r, oneK k n t s d ts = a :: r ∧ a.kind ≠ 2 ∧ a.kind ≠ 4 ∧ a.kind ≠ 9 := by
  unfold oneK
  split; · exact ⟨_, _, rfl, show (5 : Int) ≠ 2 by decide, show (5 : Int) ≠ 4 by decide, show (5 : Int) ≠ 9 by decide⟩
  split; · exact ⟨_, _, rfl, show (6 : Int) ≠ 2 by decide, show (6 : Int) ≠ 4 by decide, show (6 : Int) ≠ 9 by decide⟩
  split; · exact ⟨_, _, rfl, by decide, by decide, by decide⟩
  split; · exact ⟨_, _, rfl, by decide, by decide, by decide⟩
  split
  · exact ⟨_, _, rfl, by decide, by decide, by decide⟩
  · exact ⟨_, _, rfl, by decide, by decide, by decide⟩

theorem dep_cons (k n : Int) (t : List UInt8) (s : Fo) (d : Bool) (r : Fo) (L : Nat) : dep L (.cons k n t s d r) = max (dep L (.cons k n t s d .nil)) (dep L r) := by
  simp only [dep]; omega

/-- A datum, and then the others. -/
theorem more_tries {m : Nat} {k n : Int} {t : List UInt8} {s : Fo} {d : Bool} {r : Fo} {R rest : List Tok} {dd : Bool} {o c : Nat} (h1 : One k n t s d) (ho : o ≤ 100)
    (h2 : Tries (rdf m R o (c + s.size + 1)) (.ok r dd rest (c + s.size + 1 + r.size)) (dep o r) (c + s.size + 1 + r.size)) :
    Tries (more rdf m (oneK k n t s d (textsK s) ++ R) o c) (.ok (.cons k n t s d r) dd rest (c + (Fo.cons k n t s d r).size)) (dep o (.cons k n t s d r)) (c + (Fo.cons k n t s d r).size) := by
  have hd := dep_cons k n t s d r o
  have hz : (Fo.cons k n t s d r).size = s.size + r.size + 1 := rfl
  unfold more
  rcases h1 o c R ho with h | ⟨p, h, h'⟩ | ⟨p, h, h'⟩
  · rw [h]
    simp only [Res.then]
    rcases h2 with h2 | ⟨p, h2, h'⟩ | ⟨p, h2, h'⟩
    · rw [h2]
      exact .inl (by simp only [Res.behind, Fo.app, hz]; congr 1; omega)
    · rw [h2]; exact .inr (.inl ⟨p, rfl, by omega⟩)
    · rw [h2]; exact .inr (.inr ⟨p, rfl, by omega⟩)
  · rw [h]; exact .inr (.inl ⟨p, rfl, by omega⟩)
  · rw [h]; exact .inr (.inr ⟨p, rfl, by omega⟩)

theorem lst_more {m : Nat} (hm : m = 1 ∨ m = 2) {k n : Int} {t : List UInt8} {s : Fo} {d : Bool} (R : List Tok) (o c : Nat) :
    rdf m (oneK k n t s d (textsK s) ++ R) o c = more rdf 2 (oneK k n t s d (textsK s) ++ R) o c := by
  obtain ⟨a, r, h, h1, h2, h3⟩ := @oneK_head k n t s d (textsK s)
  rw [h, List.cons_append, rdf_lst (by omega)]
  unfold lst
  rw [if_neg (by omega), if_neg h1, if_neg h2]
theorem close_is {m : Nat} (hm : m = 1 ∨ m = 2) (rest : List Tok) (o c : Nat) : rdf m (tk 2 :: rest) o c = .ok .nil false rest c := by
  rw [rdf_lst (by omega)]
  unfold lst
  rw [if_neg (by omega), if_pos (show (tk 2).kind = 2 from rfl)]
/-- Kids behind each other, then something that is read as they go on. -/
theorem row_then {m : Nat} (hm : m = 1 ∨ m = 2) : ∀ (f : Fo), Each f → ∀ (g : Fo) (dd : Bool) (R rest : List Tok) (o c : Nat), o ≤ 100 → (f = .nil → m = 2) →
    Tries (rdf 2 R o (c + f.size)) (.ok g dd rest (c + f.size + g.size)) (dep o g) (c + f.size + g.size) →
    Tries (rdf m ((textsK f).flatten ++ R) o c) (.ok (f.app g) dd rest (c + f.size + g.size)) (max (dep o f) (dep o g)) (c + f.size + g.size)
  | .nil, _, g, dd, R, rest, o, c, ho, hf, h => by
    rw [hf rfl]
    simp only [Fo.size, dep] at h ⊢
    exact Tries.mono h (by omega) (Nat.le_refl _)
  | .cons k n t s d r, ⟨h1, h2⟩, g, dd, R, rest, o, c, ho, _, h => by
    simp only [textsK, List.flatten_cons, List.append_assoc]
    rw [lst_more hm]
    have e : c + (Fo.cons k n t s d r).size = c + s.size + 1 + r.size := by simp only [Fo.size]; omega
    rw [e] at h ⊢
    have ih := row_then (.inr rfl) r h2 g dd R rest o (c + s.size + 1) ho (fun _ => rfl) h
    have hd := dep_cons k n t s d r o
    unfold more
    rcases h1 o c ((textsK r).flatten ++ R) ho with h | ⟨p, h, h'⟩ | ⟨p, h, h'⟩
    · rw [h]
      simp only [Res.then]
      rcases ih with h2 | ⟨p, h2, h'⟩ | ⟨p, h2, h'⟩
      · rw [h2]; exact .inl rfl
      · rw [h2]; exact .inr (.inl ⟨p, rfl, by omega⟩)
      · rw [h2]; exact .inr (.inr ⟨p, rfl, by omega⟩)
    · rw [h]; exact .inr (.inl ⟨p, rfl, by omega⟩)
    · rw [h]; exact .inr (.inr ⟨p, rfl, by omega⟩)
theorem kidsK_false (l : List (List Tok)) : kidsK false l = l.flatten := by
  induction l with
  | nil => rfl
  | cons x r ih => simp [kidsK, ih]

/-- A row of kids up to its bracket. -/
theorem row_tries (dd : Bool) {m : Nat} (hm : m = 1 ∨ m = 2) : ∀ (f : Fo), Each f → ∀ (z : Int) (o c : Nat) (rest : List Tok), o ≤ 100 → (dd = true → lastK z f ≠ 5 ∧ 1 ≤ f.len ∧ (m = 1 → 2 ≤ f.len)) →
    Tries (rdf m (kidsK dd (textsK f) ++ tk 2 :: rest) o c) (.ok f dd rest (c + f.size)) (dep o f) (c + f.size)
  | .nil, _, z, o, c, rest, ho, hd => by
    cases dd
    · exact .inl (close_is hm rest o c)
    · exact absurd (hd rfl).2.1 (by simp [Fo.len])
  | .cons k n t s d r, ⟨h1, h2⟩, z, o, c, rest, ho, hd => by
    cases dd with
    | false =>
      rw [kidsK_false]
      have := row_then hm (.cons k n t s d r) ⟨h1, h2⟩ .nil false (tk 2 :: rest) rest o c ho (by simp) (.inl (close_is (.inr rfl) rest _ _))
      rw [Fo.app_nil] at this
      exact Tries.mono this (by simp only [dep]; omega) (by simp [Fo.size])
    | true =>
      obtain ⟨hl, _, h3⟩ := hd rfl
      cases r with
      | nil =>
        have hm2 : m = 2 := hm.resolve_left (fun e => by have := h3 e; simp [Fo.len] at this)
        subst hm2
        have hk : ¬ k = 5 := hl
        show Tries (rdf 2 (tk 4 :: ((oneK k n t s d (textsK s) ++ kidsK true []) ++ tk 2 :: rest)) o c) _ _ _
        rw [rdf_lst (by omega)]
        unfold lst
        rw [if_neg (by omega), if_neg (by decide), if_pos (show (tk 4).kind = 4 from rfl), if_neg (by omega)]
        have e0 : (oneK k n t s d (textsK s) ++ kidsK true []) ++ tk 2 :: rest = oneK k n t s d (textsK s) ++ tk 2 :: rest := by simp [kidsK]
        rw [e0]
        rcases h1 o c (tk 2 :: rest) ho with h | ⟨p, h, h'⟩ | ⟨p, h, h'⟩
        · rw [h]
          refine .inl ?_
          simp only [Res.tail, if_pos (show (tk 2).kind = 2 from rfl), tailOf, if_neg hk, Fo.size]
          congr 1
        · rw [h]; exact .inr (.inl ⟨p, rfl, by omega⟩)
        · rw [h]; exact .inr (.inr ⟨p, rfl, by simp only [Fo.size]; omega⟩)
      | cons k' n' t' s' d' r' =>
        have e0 : kidsK true (textsK (.cons k n t s d (.cons k' n' t' s' d' r'))) ++ tk 2 :: rest = oneK k n t s d (textsK s) ++ (kidsK true (textsK (.cons k' n' t' s' d' r')) ++ tk 2 :: rest) := by
          simp [kidsK, textsK]
        rw [e0, lst_more hm]
        refine more_tries h1 ho ?_
        exact row_tries true (.inr rfl) (.cons k' n' t' s' d' r') h2 k o (c + s.size + 1) rest ho (fun _ => ⟨hl, by simp [Fo.len], fun e => absurd e (by decide)⟩)

theorem each : ∀ (f : Fo), allD f = true → Each f
  | .nil, _ => trivial
  | .cons k n t s d r, h => by
    simp only [allD, Bool.and_eq_true] at h
    obtain ⟨hi, hs, hr⟩ := h
    have ihs := each s hs
    refine ⟨?_, each r hr⟩
    intro o c rest ho
    have leaf : ∀ (a : Tok), a.kind = k + 4 → k ≠ 5 → 1 ≤ k → k ≤ 4 → leafOf a = .cons k n t s d .nil → s = .nil → Tries (rdf 0 (a :: rest) o c) (.ok (.cons k n t s d .nil) false rest (c + s.size + 1)) (dep o (.cons k n t s d .nil)) (c + s.size + 1) := by
      intro a ha h5 hk1 hk4 hl hsn
      rw [rdf_one]
      unfold one
      have hlf : isLeaf a.kind = true := by
        rw [ha]; simp only [isLeaf, Bool.or_eq_true, beq_iff_eq]; omega
      rw [if_neg (by omega), if_neg (by omega), if_pos hlf, hl]
      have hz : s.size = 0 := by rw [hsn]; rfl
      split
      · exact .inr (.inr ⟨_, rfl, by omega⟩)
      · refine .inl ?_
        rw [hz]
    rcases isDat_kind hi with rfl | rfl | rfl | rfl | rfl
    · obtain ⟨_, rfl, rfl, rfl⟩ := isDat_num hi
      exact leaf ⟨5, [], n, 0⟩ rfl (by decide) (by decide) (by decide) rfl rfl
    · obtain ⟨_, rfl, rfl, rfl⟩ := isDat_sym hi
      exact leaf ⟨6, t, 0, 0⟩ rfl (by decide) (by decide) (by decide) rfl rfl
    · obtain ⟨rfl, rfl, rfl, rfl⟩ := isDat_lf (.inl rfl) hi
      exact leaf (tk 7) rfl (by decide) (by decide) (by decide) rfl rfl
    · obtain ⟨rfl, rfl, rfl, rfl⟩ := isDat_lf (.inr rfl) hi
      exact leaf (tk 8) rfl (by decide) (by decide) (by decide) rfl rfl
    · obtain ⟨rfl, rfl, hT⟩ := isDat_list hi
      have hdep : dep o (.cons 5 0 [] s d .nil) = max (o + 1) (dep (o + 1) s) := by simp [dep]
      rw [hdep]
      simp only [oneK, show ¬ (5 : Int) = 1 by decide, show ¬ (5 : Int) = 2 by decide, show ¬ (5 : Int) = 3 by decide, show ¬ (5 : Int) = 4 by decide, if_false]
      by_cases hq : isQ s d = true
      · rw [if_pos hq]
        obtain ⟨rfl, k1, n1, t1, s1, d1, rfl⟩ := isQ_spec hq
        obtain ⟨_, hx, _⟩ := ihs
        show Tries (rdf 0 (tk 3 :: (oneK k1 n1 t1 s1 d1 (textsK s1) ++ rest)) o c) _ _ _
        rw [rdf_one]
        unfold one
        rw [if_neg (by decide), if_pos (show (tk 3).kind = 3 from rfl)]
        have hz : (Fo.cons 2 0 quoteB .nil false (.cons k1 n1 t1 s1 d1 .nil)).size = s1.size + 2 := by simp only [Fo.size]; omega
        have hdx : dep (o + 1) (Fo.cons 2 0 quoteB .nil false (.cons k1 n1 t1 s1 d1 .nil)) = dep (o + 1) (.cons k1 n1 t1 s1 d1 .nil) := by rw [dep_cons]; simp [dep]
        rw [hz, hdx]
        by_cases ho1 : o = 100
        · rw [if_pos ho1]; exact .inr (.inl ⟨_, rfl, by omega⟩)
        rw [if_neg ho1]
        by_cases hc : 10000 < c + 2
        · rw [if_pos hc]; exact .inr (.inr ⟨_, rfl, by omega⟩)
        rw [if_neg hc]
        rcases hx (o + 1) (c + 2) rest (by omega) with h | ⟨p, h, h'⟩ | ⟨p, h, h'⟩
        · rw [h]
          refine .inl ?_
          simp only [Res.quote]
          rw [show c + 2 + s1.size + 1 = c + (s1.size + 2) + 1 by omega]
          rfl
        · rw [h]; exact .inr (.inl ⟨p, rfl, by omega⟩)
        · rw [h]; exact .inr (.inr ⟨p, rfl, by omega⟩)
      · rw [if_neg hq]
        show Tries (rdf 0 (tk 1 :: (kidsK d (textsK s) ++ [tk 2] ++ rest)) o c) _ _ _
        rw [rdf_one]
        unfold one
        rw [if_pos (show (tk 1).kind = 1 from rfl)]
        by_cases ho1 : o = 100
        · rw [if_pos ho1]; exact .inr (.inl ⟨_, rfl, by omega⟩)
        rw [if_neg ho1]
        by_cases hc : 10000 < c + 1
        · rw [if_pos hc]; exact .inr (.inr ⟨_, rfl, by omega⟩)
        rw [if_neg hc]
        have hcond : d = true → lastK 0 s ≠ 5 ∧ 1 ≤ s.len ∧ ((1 : Nat) = 1 → 2 ≤ s.len) := by
          intro hd
          have := hT hd
          simp only [hasT, Bool.and_eq_true, decide_eq_true_eq, bne_iff_ne] at this
          exact ⟨this.2, by omega, fun _ => this.1⟩
        rw [List.append_assoc]
        rcases row_tries d (.inl rfl) s ihs 0 (o + 1) (c + 1) rest (by omega) hcond with h | ⟨p, h, h'⟩ | ⟨p, h, h'⟩
        · show Tries (Res.list (rdf 1 (kidsK d (textsK s) ++ tk 2 :: rest) (o + 1) (c + 1))) _ _ _
          rw [h]
          refine .inl ?_
          simp only [Res.list]
          rw [show c + 1 + s.size = c + s.size + 1 by omega]
        · show Tries (Res.list (rdf 1 (kidsK d (textsK s) ++ tk 2 :: rest) (o + 1) (c + 1))) _ _ _
          rw [h]; exact .inr (.inl ⟨p, rfl, by omega⟩)
        · show Tries (Res.list (rdf 1 (kidsK d (textsK s) ++ tk 2 :: rest) (o + 1) (c + 1))) _ _ _
          rw [h]; exact .inr (.inr ⟨p, rfl, by omega⟩)

/-! From tokens to what Read tells. -/
end Go.Proofs.YtkgnigloboajcaaGreatDoor
