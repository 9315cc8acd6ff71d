/- A datum whose quoted numbers and truths stand without their quote: plain mathematics.; What stands within what can be written can be written; there and back, as mathematics.; Which errors there are: plain mathematics.; There and back, of any datum that is a form: plain mathematics.; How much a form is: plain mathematics. -/
import Derived.Test.YtkgnigloboajcaaGreatDoorFPathM
import Derived.Test.YtkgnigloboajcaaGreatDoorK38
import Derived.Test.YtkgnigloboajcaaGreatDoorK27
/- A datum whose quoted numbers and truths stand without their quote: plain mathematics. -/
namespace Go.Proofs.YtkgnigloboajcaaGreatDoor

def quB (s : Fo) (d : Bool) : Bool := s.len == 2 && (!d && (s.hd.k == 2 && decide (s.hd.t = quoteB)))
def atomB (x : Dt) : Bool := x.k != 5 && x.k != 2
def plOne (k n : Int) (t : List UInt8) (s : Fo) (d : Bool) (ps : Fo) : Dt :=
  if k ≠ 5 then ⟨k, n, t, s, d⟩ else if quB s d then (if atomB s.tl.hd then s.tl.hd else ⟨k, n, t, s, d⟩) else ⟨k, n, t, ps, d⟩
def plF : Fo → Fo
  | .nil => .nil
  | .cons k n t s d r => (plOne k n t s d (plF s)).fo (plF r)
def plD (x : Dt) : Dt := plOne x.k x.n x.t x.s x.d (plF x.s)
theorem plF_len : ∀ f : Fo, (plF f).len = f.len
  | .nil => rfl
  | .cons _ _ _ _ _ r => by simp only [plF, Dt.fo, Fo.len, plF_len r]
theorem plF_hd {s : Fo} (h : 0 < s.len) : (plF s).hd = plD s.hd := by
  cases s with
  | nil => simp [Fo.len] at h
  | cons k n t s d r => rfl
theorem fo_hd_tl {s : Fo} (h : 0 < s.len) : s = s.hd.fo s.tl := by
  cases s with
  | nil => simp [Fo.len] at h
  | cons k n t s d r => rfl
theorem plD_list {x : Dt} (hk : x.k = 5) (hq : quB x.s x.d = false) : plD x = ⟨5, x.n, x.t, plF x.s, x.d⟩ := by
  unfold plD plOne
  rw [if_neg (by simp [hk]), hq, hk]
  rfl
theorem plD_atom {x : Dt} (hk : x.k ≠ 5) : plD x = x := by unfold plD plOne; rw [if_pos hk]
theorem plD_quote {x : Dt} (hk : x.k = 5) (hq : quB x.s x.d = true) : plD x = if atomB x.s.tl.hd then x.s.tl.hd else x := by
  unfold plD plOne
  rw [if_neg (by simp [hk]), if_pos hq]

/-! What a datum that is one is made of. -/
theorem dat_sym {x : Dt} (h : okD x) (hk : x.k = 2) : x = ⟨2, 0, x.t, .nil, false⟩ := by
  obtain ⟨k, n, t, s, d⟩ := x
  have h1 := h.1
  simp only at hk
  subst hk
  have h1 : isDat 2 n t s d = true := h1
  unfold isDat at h1
  rw [if_neg (by decide), if_pos rfl] at h1
  simp only [sameB, Bool.and_eq_true, beq_iff_eq, decide_eq_true_eq] at h1
  obtain ⟨⟨_, h2, _, h3, h4⟩, _⟩ := h1
  have h5 := (Fo.same_iff _ _).1 h4
  subst h2 h3 h5
  rfl
theorem dat_list {x : Dt} (h : okD x) (hk : x.k = 5) : x.n = 0 ∧ x.t = [] ∧ (x.d = true → hasT x.s = true) := by
  have h1 := h.1
  unfold isDat at h1
  rw [hk, if_neg (by decide), if_neg (by decide), if_neg (by decide), if_pos rfl] at h1
  simp only [Bool.and_eq_true, beq_iff_eq, decide_eq_true_eq, Bool.or_eq_true, Bool.not_eq_true'] at h1
  exact ⟨h1.1, h1.2.1, fun hd => h1.2.2.resolve_left (by rw [hd]; simp)⟩
theorem dat_kind {x : Dt} (h : okD x) : x.k = 1 ∨ x.k = 2 ∨ x.k = 3 ∨ x.k = 4 ∨ x.k = 5 := by
  have h1 := h.1
  unfold isDat at h1
  split at h1
  · omega
  split at h1
  · omega
  split at h1
  · omega
  split at h1
  · omega
  · cases h1
theorem dat_nil {x : Dt} (h : okD x) (hk : x.k ≠ 5) : x.s = .nil ∧ x.d = false := by
  have h1 := h.1
  unfold isDat at h1
  have hs : ∀ {s : Fo} {k n : Int} {t : List UInt8} {d : Bool} {n' : Int} {t' : List UInt8}, sameB k n t s d k n' t' .nil false = true → s = .nil ∧ d = false := fun h => by
    simp only [sameB, Bool.and_eq_true, beq_iff_eq] at h
    exact ⟨(Fo.same_iff _ _).1 h.2.2.2.2, h.2.2.2.1⟩
  split at h1
  · simp only [Bool.and_eq_true] at h1; exact hs h1.1
  split at h1
  · rename_i h2; rw [h2] at h1; simp only [Bool.and_eq_true] at h1; exact hs h1.1
  split at h1
  · exact hs h1
  · cases h1
theorem dat_t {x : Dt} (h : okD x) (hk : x.k ≠ 2) : x.t = [] := by
  have h1 := h.1
  unfold isDat at h1
  split at h1
  · simp only [sameB, Bool.and_eq_true, decide_eq_true_eq] at h1; exact h1.1.2.2.1
  split at h1
  · simp only [sameB, Bool.and_eq_true, decide_eq_true_eq] at h1; exact h1.2.2.1
  split at h1
  · simp only [Bool.and_eq_true, decide_eq_true_eq] at h1; exact h1.2.1
  · cases h1
theorem ok_hd {s : Fo} (h : allD s = true) (hl : 0 < s.len) : okD s.hd := nd_ok h (Fo.nd_hd hl)
theorem ok_two {s : Fo} (h : allD s = true) (hl : 1 < s.len) : okD s.tl.hd := ok_hd (allD_tl h) (by rw [Fo.tl_len]; omega)
/-- (quote y), as it lies. -/
theorem qu_is {x : Dt} (h : okD x) (hq : quB x.s x.d = true) : x.d = false ∧ x.s = Dt.fo ⟨2, 0, quoteB, .nil, false⟩ (x.s.tl.hd.fo .nil) ∧ okD x.s.tl.hd := by
  unfold quB at hq
  simp only [Bool.and_eq_true, beq_iff_eq, decide_eq_true_eq, Bool.not_eq_true'] at hq
  obtain ⟨h1, h2, h3, h4⟩ := hq
  have h5 := dat_sym (ok_hd h.2 (by omega)) h3
  rw [h4] at h5
  refine ⟨h2, ?_, ok_two h.2 (by omega)⟩
  have e1 := fo_hd_tl (s := x.s) (by omega)
  have e2 := fo_hd_tl (s := x.s.tl) (by rw [Fo.tl_len]; omega)
  have e3 : x.s.tl.tl = .nil := by
    have : x.s.tl.tl.len = 0 := by rw [Fo.tl_len, Fo.tl_len]; omega
    cases hh : x.s.tl.tl with
    | nil => rfl
    | cons _ _ _ _ _ _ => rw [hh] at this; simp [Fo.len] at this
  rw [e3] at e2
  rw [e2, h5] at e1
  exact e1
theorem plD_t {x : Dt} (h : okD x) : (plD x).t = x.t := by
  by_cases hk : x.k = 5
  · have ht := dat_t h (by omega)
    cases hq : quB x.s x.d with
    | false => rw [plD_list hk hq]
    | true =>
      rw [plD_quote hk hq]
      split
      · rename_i ha
        rw [ht]
        exact dat_t (qu_is h hq).2.2 (by simp only [atomB, Bool.and_eq_true, bne_iff_ne] at ha; exact ha.2)
      · rfl
  · rw [plD_atom hk]

/-! It is a datum, no deeper, no more, no longer. -/
theorem lastK_pl : ∀ (f : Fo) (z : Int), lastK z f ≠ 5 → lastK z (plF f) = lastK z f
  | .nil, _, _ => rfl
  | .cons k n t s d .nil, z, h => by
    have hk : k ≠ 5 := h
    show lastK (plOne k n t s d (plF s)).k .nil = k
    unfold plOne
    rw [if_pos hk]
    rfl
  | .cons k n t s d (.cons k2 n2 t2 s2 d2 r), z, h => lastK_pl (.cons k2 n2 t2 s2 d2 r) 0 h
theorem hasT_pl {f : Fo} (h : hasT f = true) : hasT (plF f) = true := by
  unfold hasT at h ⊢
  simp only [Bool.and_eq_true, decide_eq_true_eq, bne_iff_ne] at h ⊢
  exact ⟨by rw [plF_len]; exact h.1, by rw [lastK_pl _ _ h.2]; exact h.2⟩
/-- How long a row's texts are, each by itself. -/
def LeT (l m : List (List UInt8)) : Prop := l.length = m.length ∧ ∀ j, (l.getD j []).length ≤ (m.getD j []).length
theorem kidsT_le (d : Bool) : ∀ (l m : List (List UInt8)) (b : Bool), LeT l m → (kidsT d b l).length ≤ (kidsT d b m).length
  | [], [], _, _ => Nat.le_refl _
  | [], _ :: _, _, h => by have := h.1; simp at this
  | _ :: _, [], _, h => by have := h.1; simp at this
  | x :: l, y :: m, b, h => by
    have h0 : x.length ≤ y.length := h.2 0
    have h1 : LeT l m := ⟨by have := h.1; simpa using this, fun j => h.2 (j + 1)⟩
    have ih := kidsT_le d l m false h1
    have e : l.isEmpty = m.isEmpty := by
      have := h1.1
      cases l <;> cases m <;> simp_all
    simp only [kidsT, List.length_append, e]
    omega
theorem LeT.cons {x y : List UInt8} {l m : List (List UInt8)} (h : x.length ≤ y.length) (h2 : LeT l m) : LeT (x :: l) (y :: m) :=
  ⟨by simp [h2.1], fun j => by cases j with | zero => exact h | succ j => exact h2.2 j⟩
def Dt.tx1 (x : Dt) : List UInt8 := oneT x.k x.n x.t x.s x.d (textsT x.s)
theorem isQ_qu {s : Fo} {d : Bool} (h : isQ s d = true) : quB s d = true := by
  obtain ⟨rfl, k, n, t, s1, d1, rfl⟩ := isQ_spec h
  simp [quB, Fo.len, Fo.hd]
theorem qu_isQ {y : Dt} : isQ (Dt.fo ⟨2, 0, quoteB, .nil, false⟩ (y.fo .nil)) false = true := by
  simp [Dt.fo, isQ, sameB, Fo.same]
theorem isQ_pl {s : Fo} {d : Bool} (hs : allD s = true) (h : isQ (plF s) d = true) : quB s d = true := by
  obtain ⟨rfl, k, n, t, s1, d1, e⟩ := isQ_spec h
  have hl : s.len = 2 := by rw [← plF_len, e]; rfl
  have e1 : (plF s).hd = ⟨2, 0, quoteB, .nil, false⟩ := by rw [e]; rfl
  rw [plF_hd (by omega)] at e1
  have ho := ok_hd hs (by omega)
  have hk : s.hd.k = 2 := by
    by_cases h5 : s.hd.k = 5
    · exfalso
      cases hq : quB s.hd.s s.hd.d with
      | false => rw [plD_list h5 hq] at e1; injection e1 with e1; cases e1
      | true =>
        rw [plD_quote h5 hq] at e1
        split at e1
        · rename_i ha
          rw [e1] at ha
          simp [atomB] at ha
        · rw [e1] at h5; cases h5
    · rw [plD_atom h5] at e1; rw [e1]
  have ht : s.hd.t = quoteB := by rw [← plD_t ho, e1]
  simp [quB, hl, hk, ht]
/-- What is asked of what is plain. -/
structure LeD (x y : Dt) (L : Nat) : Prop where
  ok : okD x
  dp : dep L (x.fo .nil) ≤ dep L (y.fo .nil)
  sz : x.s.size ≤ y.s.size
  tx : x.tx1.length ≤ y.tx1.length
structure LeF (f g : Fo) (L : Nat) : Prop where
  ok : allD f = true
  dp : dep L f ≤ dep L g
  sz : f.size ≤ g.size
  tx : LeT (textsT f) (textsT g)
theorem dep_one (x : Dt) (L : Nat) : dep L (x.fo .nil) = if x.k = 5 then max (L + 1) (dep (L + 1) x.s) else dep L x.s := by
  show max (if x.k = 5 then max (L + 1) (dep (L + 1) x.s) else dep L x.s) 0 = _
  omega
theorem pl_one {x : Dt} (h : okD x) (hL : ∀ L, LeF (plF x.s) x.s L) (L : Nat) : LeD (plD x) x L := by
  by_cases hk : x.k = 5
  · obtain ⟨hn, ht, hd⟩ := dat_list h hk
    cases hq : quB x.s x.d with
    | false =>
      rw [plD_list hk hq]
      refine ⟨⟨?_, (hL L).ok⟩, ?_, (hL L).sz, ?_⟩
      · show isDat 5 x.n x.t (plF x.s) x.d = true
        unfold isDat
        rw [if_neg (by decide), if_neg (by decide), if_neg (by decide), if_pos rfl, hn, ht]
        cases hd2 : x.d with
        | false => simp
        | true => simp [hasT_pl (hd hd2)]
      · rw [dep_one, dep_one, if_pos hk, if_pos rfl]
        have := (hL (L + 1)).dp
        show max (L + 1) (dep (L + 1) (plF x.s)) ≤ _
        omega
      · have hq1 : isQ x.s x.d = false := by
          cases hi : isQ x.s x.d with
          | false => rfl
          | true => rw [isQ_qu hi] at hq; cases hq
        have hq2 : isQ (plF x.s) x.d = false := by
          cases hi : isQ (plF x.s) x.d with
          | false => rfl
          | true => rw [isQ_pl h.2 hi] at hq; cases hq
        unfold Dt.tx1 oneT
        simp only [hk, hq1, hq2]
        have := kidsT_le x.d _ _ true (hL L).tx
        simp only [show ¬ (5 : Int) = 1 by decide, show ¬ (5 : Int) = 2 by decide, show ¬ (5 : Int) = 3 by decide, show ¬ (5 : Int) = 4 by decide, if_false, Bool.false_eq_true, List.length_cons, List.length_append, List.length_nil]
        omega
    | true =>
      rw [plD_quote hk hq]
      obtain ⟨q1, q2, q3⟩ := qu_is h hq
      split
      · rename_i ha
        simp only [atomB, Bool.and_eq_true, bne_iff_ne] at ha
        generalize x.s.tl.hd = y at *
        have hy := dat_nil q3 ha.1
        refine ⟨q3, ?_, ?_, ?_⟩
        · rw [dep_one, dep_one, if_neg ha.1, hy.1]
          exact Nat.zero_le _
        · rw [hy.1]; exact Nat.zero_le _
        · have e : x.tx1 = 39 :: y.tx1 := by
            have hi : isQ x.s x.d = true := by rw [q1, q2]; exact qu_isQ
            have e1 : oneT x.k x.n x.t x.s x.d (textsT x.s) = 39 :: (textsT x.s).getD 1 [] := by
              unfold oneT
              rw [if_neg (by omega), if_neg (by omega), if_neg (by omega), if_neg (by omega), if_pos hi]
            unfold Dt.tx1
            rw [e1, q2]
            rfl
          rw [e, List.length_cons]
          omega
      · exact ⟨h, Nat.le_refl _, Nat.le_refl _, Nat.le_refl _⟩
  · rw [plD_atom hk]
    exact ⟨h, Nat.le_refl _, Nat.le_refl _, Nat.le_refl _⟩
theorem pl_all : ∀ (f : Fo), allD f = true → ∀ L, LeF (plF f) f L
  | .nil, _, _ => ⟨rfl, Nat.le_refl _, Nat.le_refl _, rfl, fun _ => Nat.le_refl _⟩
  | .cons k n t s d r, h, L => by
    have h0 : okD ⟨k, n, t, s, d⟩ := nd_ok (j := 0) h rfl
    have h1 := pl_one (x := ⟨k, n, t, s, d⟩) h0 (fun L => pl_all s h0.2 L) L
    have h2 := pl_all r (allD_tl h) L
    have e : plF (.cons k n t s d r) = (plD ⟨k, n, t, s, d⟩).fo (plF r) := rfl
    rw [e]
    generalize plD ⟨k, n, t, s, d⟩ = y at h1 ⊢
    refine ⟨?_, ?_, ?_, ?_⟩
    · show (isDat y.k y.n y.t y.s y.d && (allD y.s && allD (plF r))) = true
      rw [h1.ok.1, h1.ok.2, h2.ok]; rfl
    · have a := h1.dp
      have b := h2.dp
      rw [dep_one] at a
      rw [dep_one] at a
      show max (if y.k = 5 then max (L + 1) (dep (L + 1) y.s) else dep L y.s) (dep L (plF r)) ≤ max (if k = 5 then max (L + 1) (dep (L + 1) s) else dep L s) (dep L r)
      simp only at a
      omega
    · have a := h1.sz
      have b := h2.sz
      simp only [Dt.fo, Fo.size] at a ⊢
      omega
    · exact .cons h1.tx h2.tx
theorem canB_iff {x : Dt} : canB x = true ↔ okD x ∧ dep 0 (x.fo .nil) ≤ 100 ∧ x.s.size + 1 ≤ 10000 ∧ x.tx1.length ≤ 65536 := by
  have es : (x.fo .nil).size = x.s.size + 1 := by simp [Dt.fo, Fo.size]
  have et : linesT (textsT (x.fo .nil)) = x.tx1 := rfl
  have ea : allD (x.fo .nil) = true ↔ okD x := by
    show (isDat x.k x.n x.t x.s x.d && (allD x.s && true)) = true ↔ _
    simp [okD]
  have hz := chk_zero (f := x.fo .nil)
  rw [ea, es] at hz
  have h2 : ∀ f, (chk f ≠ 0 → chk f ≠ 0) := fun _ h => h
  unfold canB writeOf
  rw [et]
  by_cases h0 : chk (x.fo .nil) = 0
  · have := hz.1 h0
    rw [if_neg (by simp [h0])]
    by_cases hl : 65536 < x.tx1.length
    · rw [if_pos hl]; constructor
      · intro h; simp at h
      · intro h; omega
    · rw [if_neg hl]
      exact ⟨fun _ => ⟨this.1, this.2.1, this.2.2, by omega⟩, fun _ => by simp⟩
  · rw [if_pos h0]
    constructor
    · intro h; exact absurd (by simpa using h) h0
    · intro h; exact absurd (hz.2 ⟨h.1, h.2.1, h.2.2.1⟩) h0
/-- What is plain may be written, if it may with its quotes. -/
theorem pl_can {x : Dt} (h : canB x = true) : canB (plD x) = true := by
  rw [canB_iff] at h ⊢
  obtain ⟨h1, h2, h3, h4⟩ := h
  have k := pl_one h1 (fun L => pl_all x.s h1.2 L) 0
  exact ⟨k.ok, Nat.le_trans k.dp h2, by have := k.sz; omega, Nat.le_trans k.tx h4⟩
theorem pl_tx : ∀ {f : Fo}, f.tx → (plF f).tx
  | .nil, _ => trivial
  | .cons k n t s d r, ⟨h1, h2, h3⟩ => by
    have hr := pl_tx h3
    have hs := pl_tx h2
    show ((plOne k n t s d (plF s)).fo (plF r)).tx
    unfold plOne
    split
    · exact ⟨h1, h2, hr⟩
    split
    · split
      · cases s with
        | nil => exact ⟨by show 0 ≤ 281474976710656; omega, trivial, hr⟩
        | cons k2 n2 t2 s2 d2 r2 =>
          cases r2 with
          | nil => exact ⟨by show 0 ≤ 281474976710656; omega, trivial, hr⟩
          | cons k3 n3 t3 s3 d3 r3 => exact ⟨h2.2.2.1, h2.2.2.2.1, hr⟩
      · exact ⟨h1, h2, hr⟩
    · exact ⟨h1, hs, hr⟩
end Go.Proofs.YtkgnigloboajcaaGreatDoor

/- What stands within what can be written can be written; there and back, as mathematics. -/
namespace Go.Proofs.YtkgnigloboajcaaGreatDoor

theorem nd_size : ∀ {s : Fo} {j : Nat} {y : Dt}, s.nd j = some y → y.s.size + 1 ≤ s.size
  | .nil, _, _, h => by cases h
  | .cons k n t s d r, 0, y, h => by cases h; simp only [Fo.size]; omega
  | .cons k n t s d r, j + 1, y, h => by have := nd_size (s := r) h; simp only [Fo.size]; omega
theorem nd_dep : ∀ {s : Fo} {j : Nat} {y : Dt} {L : Nat}, s.nd j = some y → dep L (y.fo .nil) ≤ dep L s
  | .nil, _, _, _, h => by cases h
  | .cons k n t s d r, 0, y, L, h => by cases h; rw [dep_one]; simp only [dep]; omega
  | .cons k n t s d r, j + 1, y, L, h => by have := nd_dep (s := r) (L := L) h; simp only [dep]; omega
theorem nd_text : ∀ {s : Fo} {j : Nat} {y : Dt}, s.nd j = some y → (textsT s).getD j [] = y.tx1
  | .nil, _, _, h => by cases h
  | .cons k n t s d r, 0, y, h => by cases h; rfl
  | .cons k n t s d r, j + 1, y, h => nd_text (s := r) h
theorem kidsT_has (d : Bool) : ∀ (l : List (List UInt8)) (b : Bool) (j : Nat), (l.getD j []).length ≤ (kidsT d b l).length
  | [], _, _ => by simp
  | x :: l, b, 0 => by simp only [kidsT, List.length_append, List.getD_cons_zero]; omega
  | x :: l, b, j + 1 => by
    have := kidsT_has d l false j
    simp only [kidsT, List.length_append, List.getD_cons_succ]
    omega
/-- A Kid of what can be written can be. -/
theorem can_kid {x y : Dt} {j : Nat} (h : canB x = true) (hk : x.k = 5) (hj : x.s.nd j = some y) : canB y = true := by
  rw [canB_iff] at h ⊢
  obtain ⟨h1, h2, h3, h4⟩ := h
  refine ⟨nd_ok h1.2 hj, ?_, ?_, ?_⟩
  · rw [dep_one, if_pos hk] at h2
    have a := nd_dep (L := 0 + 1) hj
    have b := dep_mono (y.fo .nil) 0 (0 + 1) (by omega)
    omega
  · have := nd_size hj; omega
  · have ht := nd_text hj
    cases hi : isQ x.s x.d with
    | false =>
      have e : x.tx1 = 40 :: (kidsT x.d true (textsT x.s) ++ [41]) := by
        unfold Dt.tx1 oneT
        rw [if_neg (by omega), if_neg (by omega), if_neg (by omega), if_neg (by omega), hi]
        rfl
      have := kidsT_has x.d (textsT x.s) true j
      rw [ht] at this
      rw [e, List.length_cons, List.length_append] at h4
      omega
    | true =>
      have e : x.tx1 = 39 :: (textsT x.s).getD 1 [] := by
        unfold Dt.tx1 oneT
        rw [if_neg (by omega), if_neg (by omega), if_neg (by omega), if_neg (by omega), if_pos hi]
      rw [e, List.length_cons] at h4
      obtain ⟨hd, k, n, t, s1, d1, es⟩ := isQ_spec hi
      have hl := Fo.nd_lt hj
      rw [es] at hj ht h4 hl
      simp only [Fo.len] at hl
      match j with
      | 0 => cases hj; simp [Dt.tx1, oneT, quoteB]
      | 1 => rw [ht] at h4; omega
      | j + 2 => omega
theorem can_two {x : Dt} (h : canB x = true) (hk : x.k = 5) (hl : 1 < x.s.len) : canB x.s.tl.hd = true := can_kid (j := 1) h hk (by rw [← Fo.nd_tl x.s 0]; exact Fo.nd_hd (by rw [Fo.tl_len]; omega))

/-- All of a row can be written, each by itself. -/
def CanF (s : Fo) : Prop := ∀ j y, s.nd j = some y → canB y = true
theorem CanF.of {x : Dt} (h : canB x = true) (hk : x.k = 5) : CanF x.s := fun _ _ hj => can_kid h hk hj
theorem CanF.tl {s : Fo} (h : CanF s) : CanF s.tl := fun j y hj => h (j + 1) y (by rw [← Fo.nd_tl]; exact hj)
theorem CanF.hd {s : Fo} (h : CanF s) (hl : 0 < s.len) : canB s.hd = true := h 0 _ (Fo.nd_hd hl)

theorem within_ok {α : Type} {i : Int} {x : PR α} {a : α} (h : x.within i = .ok a) : x = .ok a := by
  cases x with
  | ok b => exact h
  | bad e p => cases h
theorem then_ok {α β : Type} {x : PR α} {K : α → PR β} {b : β} (h : x.then K = .ok b) : ∃ a, x = .ok a ∧ K a = .ok b := by
  cases x with
  | ok a => exact ⟨a, rfl, h⟩
  | bad e p => cases h
/-- A form of a datum: how it is written; that it is one; that what is written is it. -/
structure Rnd (R : Dt → PR Frm) (inn : Bool) (x : Dt) (f : Frm) : Prop where
  wr : wrD f = plD x
  te : termE f inn = 0
  ks : termsE true f.kids = 0
  back : R (plD x) = .ok f
theorem terms_cons {f : Frm} {r : Fm} (h1 : termE f true = 0) (h2 : termsE true f.kids = 0) (h3 : termsE true r = 0) : termsE true (f.fm r) = 0 := by
  show (if termE f true ≠ 0 then termE f true else if termsE true f.kids ≠ 0 then termsE true f.kids else termsE true r) = 0
  rw [if_neg (by simp [h1]), if_neg (by simp [h2]), h3]
theorem terms_app : ∀ {f g : Fm}, termsE true f = 0 → termsE true g = 0 → termsE true (f.app g) = 0
  | .nil, _, _, h => h
  | .cons k t ns ks dk dn dt ds dd r, g, h, hg => by
    simp only [termsE] at h
    split at h
    · rename_i h1; exact absurd h h1
    · rename_i h1
      split at h
      · rename_i h2; exact absurd h h2
      · rename_i h2
        simp only [Fm.app, termsE]
        rw [if_neg h1, if_neg h2]
        exact terms_app h hg
/-- Forms of a row. -/
theorem rnd_forms {R : Dt → PR Frm} (hR : ∀ y f, canB y = true → R y = .ok f → Rnd R true y f) : ∀ {s : Fo} {i : Int} {g : Fm}, CanF s → formsM R i s = .ok g →
    wrF g = plF s ∧ termsE true g = 0 ∧ formsM R i (plF s) = .ok g ∧ g.len = s.len
  | .nil, _, _, _, h => by cases h; exact ⟨rfl, rfl, rfl, rfl⟩
  | .cons k n t s d r, i, g, hC, h => by
    obtain ⟨f, h1, h2⟩ := then_ok h
    obtain ⟨g', h3, h4⟩ := then_ok h2
    cases h4
    have k1 := hR ⟨k, n, t, s, d⟩ f (hC 0 _ rfl) (within_ok h1)
    obtain ⟨e1, e2, e3, e4⟩ := rnd_forms hR (s := r) hC.tl h3
    refine ⟨?_, terms_cons k1.te k1.ks e2, ?_, ?_⟩
    · show (wrD f).fo (wrF g') = _
      rw [k1.wr, e1]
      rfl
    · show formsM R i ((plD ⟨k, n, t, s, d⟩).fo (plF r)) = _
      have hb := k1.back
      generalize plD ⟨k, n, t, s, d⟩ = y at hb
      obtain ⟨yk, yn, yt, ys, yd⟩ := y
      show ((R ⟨yk, yn, yt, ys, yd⟩).within i).then _ = _
      rw [hb]
      show (formsM R (i + 1) (plF r)).then _ = _
      rw [e3]
      rfl
    · show g'.len + 1 = r.len + 1
      rw [e4]
theorem forms_hd {R : Dt → PR Frm} {s : Fo} {i : Int} {g : Fm} (h : formsM R i s = .ok g) (hl : 0 < s.len) : R s.hd = .ok g.hd := by
  cases s with
  | nil => simp [Fo.len] at hl
  | cons k n t s d r =>
    obtain ⟨f, h1, h2⟩ := then_ok h
    obtain ⟨g', h3, h4⟩ := then_ok h2
    cases h4
    exact within_ok h1

/-! Names. -/
theorem var_ne_quote {t : List UInt8} (h : varB t = true) : t ≠ quoteB := by
  rintro rfl
  have : varB quoteB = false := by
    unfold varB nameB
    have : kwOf quoteB = some 1 := by decide
    rw [this]
    simp
  rw [this] at h; cases h
theorem new_ok {ahead : List (List UInt8)} {k : Int} {t a : List UInt8} (h : newM ahead k t = .ok a) : k = 2 ∧ varB t = true ∧ a = t ∧ t ∉ ahead := by
  unfold newM at h
  split at h
  · cases h
  · rename_i hc
    split at h
    · cases h
    · rename_i hm
      cases h
      have h1 : ¬ (k ≠ 2) := fun e => hc (by simp [e])
      refine ⟨Decidable.not_not.1 h1, ?_, rfl, hm⟩
      cases hv : varB t with
      | true => rfl
      | false => exact absurd (by simp [hv]) hc
theorem vari_ok {k : Int} {t a : List UInt8} (h : variM k t = .ok a) : k = 2 ∧ varB t = true ∧ a = t := by
  unfold variM at h
  split at h
  · cases h
  · rename_i hc
    cases h
    have h1 : ¬ (k ≠ 2) := fun e => hc (by simp [e])
    refine ⟨Decidable.not_not.1 h1, ?_, rfl⟩
    cases hv : varB t with
    | true => rfl
    | false => exact absurd (by simp [hv]) hc
theorem twice_cons {l : List (List UInt8)} {s : List UInt8} {r : List (List UInt8)} (h : s ∉ l) (h2 : twiceB (l ++ [s]) r = false) : twiceB l (s :: r) = false := by
  simp [twiceB, h, h2]
theorem names_ok : ∀ {s : Fo} {ahead : List (List UInt8)} {i : Int} {l : List (List UInt8)}, allD s = true → namesM ahead i s = .ok l →
    s = symsF l ∧ l.all varB = true ∧ twiceB ahead l = false
  | .nil, _, _, _, _, h => by cases h; exact ⟨rfl, rfl, rfl⟩
  | .cons k n t s d r, ahead, i, l, hA, h => by
    obtain ⟨a, h1, h2⟩ := then_ok h
    obtain ⟨l', h3, h4⟩ := then_ok h2
    cases h4
    obtain ⟨hk, hv, rfl, hm⟩ := new_ok (within_ok h1)
    obtain ⟨e1, e2, e3⟩ := names_ok (allD_tl hA) h3
    have e0 := dat_sym (nd_ok (j := 0) hA rfl) hk
    simp only [Dt.mk.injEq] at e0
    obtain ⟨rfl, rfl, -, rfl, rfl⟩ := e0
    refine ⟨?_, by simp [hv, e2], twice_cons hm e3⟩
    have e1' : r = symsF l' := e1
    rw [e1']
    rfl
theorem syms_pl : ∀ l, plF (symsF l) = symsF l
  | [] => rfl
  | s :: r => by
    show (plOne 2 0 s .nil false .nil).fo (plF (symsF r)) = _
    rw [syms_pl r]
    rfl
/-- Bindings. -/
theorem rnd_binds {R : Dt → PR Frm} (hR : ∀ y f, canB y = true → R y = .ok f → Rnd R true y f) : ∀ {s : Fo} {ahead : List (List UInt8)} {i : Int} {y : List (List UInt8) × Fm}, CanF s → allD s = true → bindsM R ahead i s = .ok y →
    plF s = zipB y.1 (wrF y.2) ∧ y.1.all varB = true ∧ twiceB ahead y.1 = false ∧ termsE true y.2 = 0 ∧ bindsM R ahead i (plF s) = .ok y ∧ y.2.len = y.1.length ∧ (∀ j z, s.nd j = some z → z.k = 5)
  | .nil, _, _, _, _, _, h => by cases h; exact ⟨rfl, rfl, rfl, rfl, rfl, rfl, fun _ _ h => by cases h⟩
  | .cons k n t s d r, ahead, i, y, hC, hA, h => by
    obtain ⟨x, h1, h2⟩ := then_ok h
    obtain ⟨y', h3, h4⟩ := then_ok h2
    cases h4
    have hx := within_ok h1
    obtain ⟨e1, e2, e3, e4, e5, e6, e7⟩ := rnd_binds hR (s := r) hC.tl (allD_tl hA) h3
    have hO : okD ⟨k, n, t, s, d⟩ := nd_ok (j := 0) hA rfl
    have hcan : canB ⟨k, n, t, s, d⟩ = true := hC 0 _ rfl
    unfold bindM at hx
    split at hx
    · cases hx
    rename_i hc
    simp only [Bool.or_eq_true, not_or, Bool.not_eq_true', Bool.not_eq_false] at hc
    obtain ⟨hc1, hc2⟩ := hc
    unfold isListB at hc1
    simp only [Bool.and_eq_true, beq_iff_eq, Bool.not_eq_true'] at hc1
    obtain ⟨hk, hd⟩ := hc1
    subst hk hd
    have hl : s.len = 2 := by simpa using hc2
    obtain ⟨a, h5, h6⟩ := then_ok hx
    obtain ⟨f, h7, h8⟩ := then_ok h6
    cases h8
    obtain ⟨hk2, hv, rfl, hm⟩ := new_ok (within_ok h5)
    have k1 := hR s.tl.hd f (can_two hcan rfl (by show 1 < s.len; omega)) (within_ok h7)
    obtain ⟨hn, ht, _⟩ := dat_list hO rfl
    subst hn ht
    have hq : quB s false = false := by
      cases hq : quB s false with
      | false => rfl
      | true =>
        have hq2 := hq
        unfold quB at hq2
        simp only [Bool.and_eq_true, decide_eq_true_eq] at hq2
        exact absurd hq2.2.2.2 (var_ne_quote hv)
    have s1 := dat_sym (ok_hd hO.2 (by show 0 < s.len; omega)) hk2
    have es : s = s.hd.fo (s.tl.hd.fo .nil) := by
      have e1 := fo_hd_tl (s := s) (by omega)
      have e2 := fo_hd_tl (s := s.tl) (by rw [Fo.tl_len]; omega)
      have e3 : s.tl.tl = .nil := by
        have : s.tl.tl.len = 0 := by rw [Fo.tl_len, Fo.tl_len]; omega
        cases hh : s.tl.tl with
        | nil => rfl
        | cons _ _ _ _ _ _ => rw [hh] at this; simp [Fo.len] at this
      rw [e3] at e2
      rw [e2] at e1
      exact e1
    have ep : plF s = Dt.fo ⟨2, 0, s.hd.t, .nil, false⟩ ((wrD f).fo .nil) := by
      have e0 : plF s = (plD s.hd).fo ((plD s.tl.hd).fo .nil) := by
        have : plF s = plF (s.hd.fo (s.tl.hd.fo .nil)) := by rw [← es]
        rw [this]; rfl
      rw [e0, ← k1.wr, plD_atom (by rw [hk2]; decide)]
      rw [← s1]
    have el : (plF (.cons 5 0 [] s false r)) = .cons 5 0 [] (plF s) false (plF r) := by
      have : plD ⟨5, 0, [], s, false⟩ = ⟨5, 0, [], plF s, false⟩ := plD_list rfl hq
      show (plD ⟨5, 0, [], s, false⟩).fo (plF r) = _
      rw [this]; rfl
    refine ⟨?_, by simp [hv, e2], twice_cons hm e3, terms_cons k1.te k1.ks e4, ?_, ?_, ?_⟩
    · rw [el, e1, ep]
      rfl
    · rw [el]
      have hb : bindM R ahead ⟨5, 0, [], plF s, false⟩ = .ok (s.hd.t, f) := by
        unfold bindM
        rw [if_neg (by rw [ep]; simp [isListB, Dt.fo, Fo.len])]
        have hn : newM ahead (plF s).hd.k (plF s).hd.t = .ok s.hd.t := by
          rw [ep]
          show newM ahead 2 s.hd.t = _
          rw [← hk2]
          exact within_ok h5
        have hr : R (plF s).tl.hd = .ok f := by
          rw [ep]
          show R (wrD f) = _
          rw [k1.wr]
          exact k1.back
        show ((newM ahead (plF s).hd.k (plF s).hd.t).within 0).then _ = _
        rw [hn]
        show ((R (plF s).tl.hd).within 1).then _ = _
        rw [hr]
        rfl
      show ((bindM R ahead ⟨5, 0, [], plF s, false⟩).within i).then _ = _
      rw [hb]
      show (bindsM R (ahead ++ [s.hd.t]) (i + 1) (plF r)).then _ = _
      rw [e5]
      rfl
    · show y'.2.len + 1 = y'.1.length + 1
      rw [e6]
    · intro j z hz
      cases j with
      | zero => cases hz; rfl
      | succ j => exact e7 j z hz
end Go.Proofs.YtkgnigloboajcaaGreatDoor

/- Which errors there are: plain mathematics. -/
namespace Go.Proofs.YtkgnigloboajcaaGreatDoor

/-- One of the three errors. -/
def Er (e : Int) : Prop := e = 70 ∨ e = 71 ∨ e = 72
def PE {α : Type} (x : PR α) : Prop := ∀ e p, x = .bad e p → Er e
theorem PE.ok {α : Type} (a : α) : PE (.ok a) := fun _ _ h => by cases h
theorem PE.bad {α : Type} {e : Int} {p : List Int} (h : Er e) : PE (.bad e p : PR α) := fun _ _ k => by cases k; exact h
theorem PE.within {α : Type} {x : PR α} {i : Int} (h : PE x) : PE (x.within i) := by
  cases x with
  | ok a => exact .ok a
  | bad e p => exact .bad (h e p rfl)
theorem PE.then {α β : Type} {x : PR α} {K : α → PR β} (h : PE x) (k : ∀ a, PE (K a)) : PE (x.then K) := by
  cases x with
  | ok a => exact k a
  | bad e p => exact .bad (h e p rfl)
theorem nd_dpt : ∀ {s : Fo} {j : Nat} {y : Dt}, s.nd j = some y → y.s.dpt + 1 ≤ s.dpt
  | .nil, _, _, h => by cases h
  | .cons k n t s d r, 0, y, h => by cases h; simp only [Fo.dpt]; omega
  | .cons k n t s d r, j + 1, y, h => by have := nd_dpt (s := r) h; simp only [Fo.dpt]; omega
theorem tl_dpt (s : Fo) : s.tl.dpt ≤ s.dpt := by cases s <;> simp only [Fo.tl, Fo.dpt] <;> omega
theorem hd_dpt (s : Fo) : s.hd.s.dpt ≤ s.dpt := by
  cases s with
  | nil => exact Nat.le_refl _
  | cons k n t s d r => simp only [Fo.hd, Fo.dpt]; omega
theorem pe_new (ahead : List (List UInt8)) (k : Int) (t : List UInt8) : PE (newM ahead k t) := by
  unfold newM
  split
  · exact .bad (.inr (.inl rfl))
  split
  · exact .bad (.inr (.inr rfl))
  · exact .ok _
theorem pe_vari (k : Int) (t : List UInt8) : PE (variM k t) := by
  unfold variM
  split
  · exact .bad (.inr (.inl rfl))
  · exact .ok _
theorem pe_names : ∀ (s : Fo) (ahead : List (List UInt8)) (i : Int), PE (namesM ahead i s)
  | .nil, _, _ => .ok _
  | .cons k _ t _ _ r, ahead, i => (pe_new ahead k t).within.then fun x => (pe_names r (ahead ++ [x]) (i + 1)).then fun _ => .ok _
theorem pe_forms {R : Dt → PR Frm} {D : Nat} (hR : ∀ y, y.s.dpt + 1 ≤ D → PE (R y)) : ∀ (s : Fo) (i : Int), s.dpt ≤ D → PE (formsM R i s)
  | .nil, _, _ => .ok _
  | .cons k n t s d r, i, h => by
    simp only [Fo.dpt] at h
    exact (hR ⟨k, n, t, s, d⟩ (by show s.dpt + 1 ≤ D; omega)).within.then fun x => (pe_forms hR r (i + 1) (by omega)).then fun g => .ok _
theorem pe_bind {R : Dt → PR Frm} {D : Nat} (hR : ∀ y, y.s.dpt + 1 ≤ D → PE (R y)) (ahead : List (List UInt8)) (x : Dt) (h : x.s.dpt ≤ D) : PE (bindM R ahead x) := by
  unfold bindM
  split
  · exact .bad (.inl rfl)
  · rename_i hc
    have hl : x.s.len = 2 := by
      simp only [Bool.or_eq_true, not_or] at hc
      simpa using hc.2
    have e1 : x.s.nd 1 = some x.s.tl.hd := by rw [← Fo.nd_tl x.s 0]; exact Fo.nd_hd (by rw [Fo.tl_len]; omega)
    exact (pe_new ahead _ _).within.then fun a => ((hR _ (by have := nd_dpt e1; omega)).within).then fun f => .ok _
theorem pe_binds {R : Dt → PR Frm} {D : Nat} (hR : ∀ y, y.s.dpt + 1 ≤ D → PE (R y)) : ∀ (s : Fo) (ahead : List (List UInt8)) (i : Int), s.dpt ≤ D → PE (bindsM R ahead i s)
  | .nil, _, _, _ => .ok _
  | .cons k n t s d r, ahead, i, h => by
    simp only [Fo.dpt] at h
    exact (pe_bind hR ahead ⟨k, n, t, s, d⟩ (by show s.dpt ≤ D; omega)).within.then fun x => (pe_binds hR r (ahead ++ [x.1]) (i + 1) (by omega)).then fun y => .ok _
theorem pe_list {R : Dt → PR Frm} {D : Nat} (hR : ∀ y, y.s.dpt + 1 ≤ D → PE (R y)) (w : Bool) (x : Dt) (h : x.s.dpt ≤ D) : PE (listM R w x) := by
  have t1 := tl_dpt x.s
  have t2 := tl_dpt x.s.tl
  have t3 := hd_dpt x.s.tl
  unfold listM
  split
  · exact .bad (.inl rfl)
  split
  · unfold callM
    split
    · exact .bad (.inl rfl)
    · exact (pe_forms hR x.s 0 h).then fun g => .ok _
  split
  · exact .bad (.inl rfl)
  · refine PE.then ?_ fun f => .ok _
    unfold rowM
    have hn : PE (rowNamed R x) := (pe_vari _ _).within.then fun a => (pe_forms hR _ 2 (by omega)).then fun g => .ok _
    split
    · exact .ok _
    split
    · refine PE.then (PE.within ?_) fun l => (pe_forms hR _ 2 (by omega)).then fun g => .ok _
      unfold namesD
      split
      · exact .bad (.inl rfl)
      · exact pe_names _ _ _
    split
    · exact hn
    split
    · exact hn
    split
    · refine PE.then (PE.within ?_) fun l => (pe_forms hR _ 2 (by omega)).then fun g => .ok _
      unfold bindsD
      split
      · exact .bad (.inl rfl)
      · exact pe_binds hR _ _ _ (by omega)
    · exact (pe_forms hR _ 1 (by omega)).then fun g => .ok _
theorem pe_form : ∀ (K : Nat) (w : Bool) (x : Dt), x.s.dpt + 1 ≤ K → PE (formM K w x)
  | 0, _, _, h => by omega
  | K + 1, w, x, h => by
    unfold formM
    split
    · exact pe_list (fun y hy => pe_form K true y hy) w x (by omega)
    split
    · split
      · exact .ok _
      · exact .bad (.inr (.inl rfl))
    · exact .ok _
/-- Of's errors; with one there is no form. -/
theorem of_err {x : Dt} (h : (ofM x).2.1 ≠ 0) : Er (ofM x).2.1 ∧ (ofM x).1 = frm0 := by
  cases hc : canB x with
  | false =>
    have e : ofM x = (frm0, 70, []) := by unfold ofM; rw [hc]; rfl
    rw [e]
    exact ⟨.inl rfl, rfl⟩
  | true =>
    cases hf : formM 200 false x with
    | ok f =>
      have e : ofM x = (f, 0, []) := by unfold ofM; rw [hc, if_pos rfl, hf]
      rw [e] at h
      exact absurd rfl h
    | bad er p =>
      have e : ofM x = (frm0, er, p) := by unfold ofM; rw [hc, if_pos rfl, hf]
      rw [e]
      exact ⟨pe_form 200 false x (by have := canB_dpt hc; omega) er p hf, rfl⟩
end Go.Proofs.YtkgnigloboajcaaGreatDoor

/- There and back, of any datum that is a form: plain mathematics. -/
namespace Go.Proofs.YtkgnigloboajcaaGreatDoor

theorem te_of {f : Frm} {inn : Bool} (h1 : shapedB f = true) (h2 : ¬ (inn = true ∧ f.kind = 5)) (h3 : namedB f = true) (h4 : twiceB [] f.names = false) : termE f inn = 0 := by
  unfold termE
  rw [if_neg, if_neg (by simp [h3]), if_neg (by simp [h4])]
  rw [h1]
  simpa using h2
theorem shp_word {s : List UInt8} {kd : Nat} (h : kwOf s = some kd) : (shpOf kd).1 = s := by
  unfold kwOf at h
  split at h
  · cases h
  · obtain ⟨j, hj, he⟩ := Option.map_eq_some_iff.1 h
    subst he
    obtain ⟨hl, hp, _⟩ := List.findIdx?_eq_some_iff_getElem.1 hj
    unfold shpOf
    rw [Nat.add_sub_cancel, List.getD_eq_getElem?_getD, List.getElem?_eq_getElem hl]
    simpa using hp
theorem kw_sym {x : Dt} {kd : Nat} (h : okD x) (hk : kwOf x.t = some kd) : x.k = 2 := by
  by_cases h2 : x.k = 2
  · exact h2
  · rw [dat_t h h2] at hk; cases hk
theorem kw_quote {s : List UInt8} {kd : Nat} (h : kwOf s = some kd) : kd = 1 ↔ s = quoteB := by
  have hw := shp_word h
  constructor
  · rintro rfl; exact hw.symm
  · rintro rfl
    have : kwOf quoteB = some 1 := by decide
    rw [this] at h
    exact (Option.some.inj h).symm
theorem takes_max {kd : Nat} {n : Int} (h : takesB kd n = true) : (shpOf kd).2.2.1 ≤ n ∧ n ≤ (shpOf kd).2.2.2 := by
  unfold takesB at h
  simpa using h
theorem word_of {s : List UInt8} {kd : Nat} (h : kwOf s = some kd) (hs : s ≠ []) : wordF (kd : Int) = Dt.fo ⟨2, 0, s, .nil, false⟩ .nil := by
  have hw := shp_word h
  unfold wordF
  rw [Int.toNat_natCast, hw, if_neg hs]
  rfl
theorem kind_two {R : Dt → PR Frm} {within : Bool} {x : Dt} {f : Frm} (h : listM R within x = .ok f) : f.kind ≠ 2 := by
  unfold listM at h
  split at h
  · cases h
  split at h
  · unfold callM at h
    split at h
    · cases h
    · obtain ⟨g, _, h2⟩ := then_ok h
      cases h2
      show (10 : Int) ≠ 2
      decide
  · rename_i kd hkd
    split at h
    · cases h
    · obtain ⟨g, _, h2⟩ := then_ok h
      cases h2
      have := kw_ne hkd
      show ((kd : Int)) ≠ 2
      omega
theorem form_two : ∀ {K : Nat} {within : Bool} {x : Dt} {f : Frm}, formM K within x = .ok f → f.kind = 2 → f.text = x.t
  | 0, _, _, _, h, _ => by cases h
  | K + 1, within, x, f, h, h2 => by
    unfold formM at h
    split at h
    · exact absurd h2 (kind_two h)
    split at h
    · split at h
      · cases h; rfl
      · cases h
    · cases h; cases h2
theorem kinds_lt {kd : Nat} {s : List UInt8} (h : kwOf s = some kd) : 1 ≤ kd ∧ kd ≤ 15 ∧ kd ≠ 2 ∧ kd ≠ 10 := ⟨(kwOf_lt h).1, (kwOf_lt h).2, (kw_ne h).1, (kw_ne h).2⟩
/-- What every row's form has. -/
theorem shaped_row {f : Frm} {kd : Nat} (hk : f.kind = (kd : Int)) (h1 : 1 ≤ kd ∧ kd ≤ 15) (ht : takesB kd (f.kids.len - valsN f) = true) (hx : f.text = [] ∨ hasTextB kd = true) (hn : f.names = [] ∨ hasNamesB kd = true) (hd : datFitB f = true) (hc : callFitB f = true) : shapedB f = true := by
  unfold shapedB
  rw [if_neg (by omega), hk, Int.toNat_natCast, ht, hd, hc]
  rcases hx with hx | hx <;> rcases hn with hn | hn <;> simp [hx, hn]
theorem datfit {f : Frm} (h : f.kind ≠ 1) (hd : f.dat = dt0) : datFitB f = true := by
  unfold datFitB
  rw [if_neg h, hd]
  rfl
theorem callfit {f : Frm} (h : f.kind ≠ 10) : callFitB f = true := by
  unfold callFitB
  rw [if_neg (fun e => h e.1)]
theorem wr1_list {f : Frm} {W : Fo} (h2 : f.kind ≠ 2) (h1 : f.kind ≠ 1) : wr1 f W = listD (((wordF f.kind).app (aheadF f (zipB f.names W))).app (W.drop (valsN f))) := by
  unfold wr1
  rw [if_neg h2, if_neg (fun e => h1 e.1)]
theorem drop0 (W : Fo) : W.drop 0 = W := by cases W <;> rfl
/-- The parts of a list that is a form by a keyword, but for a quote. -/
structure Kw (x : Dt) (kd : Nat) (within : Bool) : Prop where
  k : x.k = 5
  d : x.d = false
  n : x.n = 0
  t : x.t = []
  ok : okD x
  can : canB x = true
  kw : kwOf x.s.hd.t = some kd
  ne : kd ≠ 1
  takes : takesB kd (x.s.len - 1 - (shpOf kd).2.1) = true
  out : ¬ (within = true ∧ kd = 5)
  len : 0 < x.s.len
theorem Kw.sym {x : Dt} {kd : Nat} {w : Bool} (h : Kw x kd w) : x.s.hd = ⟨2, 0, x.s.hd.t, .nil, false⟩ := dat_sym (ok_hd h.ok.2 h.len) (kw_sym (ok_hd h.ok.2 h.len) h.kw)
theorem Kw.txt {x : Dt} {kd : Nat} {w : Bool} (h : Kw x kd w) : x.s.hd.t ≠ [] := fun e => by have := h.kw; rw [e] at this; cases this
theorem Kw.qu {x : Dt} {kd : Nat} {w : Bool} (h : Kw x kd w) : quB x.s x.d = false := by
  cases hq : quB x.s x.d with
  | false => rfl
  | true =>
    unfold quB at hq
    simp only [Bool.and_eq_true, decide_eq_true_eq] at hq
    exact absurd ((kw_quote h.kw).2 hq.2.2.2) h.ne
theorem Kw.pl {x : Dt} {kd : Nat} {w : Bool} (h : Kw x kd w) : plD x = listD (Dt.fo ⟨2, 0, x.s.hd.t, .nil, false⟩ (plF x.s.tl)) := by
  have e1 : plF x.s = (plD x.s.hd).fo (plF x.s.tl) := by
    have := fo_hd_tl h.len
    have e : plF x.s = plF (x.s.hd.fo x.s.tl) := by rw [← this]
    rw [e]; rfl
  rw [plD_list h.k h.qu, h.n, h.t, h.d, e1, plD_atom (by rw [kw_sym (ok_hd h.ok.2 h.len) h.kw]; decide), ← h.sym]
  rfl
/-- A list of what is plain, begun by the same keyword: what listM makes of it. -/
theorem Kw.again {x : Dt} {kd : Nat} {w : Bool} (h : Kw x kd w) {R : Dt → PR Frm} {f : Frm} (hr : rowM R kd (plD x) = .ok f) : listM R w (plD x) = .ok { f with kind := kd } := by
  have hl : (plD x).s.len = x.s.len := by
    rw [h.pl]
    show (plF x.s.tl).len + 1 = _
    have := h.len
    rw [plF_len, Fo.tl_len]
    omega
  have hh : (plD x).s.hd.t = x.s.hd.t := by rw [h.pl]; rfl
  have hd : (plD x).d = false := by rw [h.pl]; rfl
  have h0 := h.len
  unfold listM
  rw [if_neg (by rw [hd, hl]; simp; omega), hh]
  simp only [h.kw]
  rw [if_neg, hr]
  · rfl
  · rw [hl]
    have := h.out
    simp only [h.takes, Bool.not_true, Bool.false_or, Bool.and_eq_true, beq_iff_eq]
    exact fun e => this ⟨e.2, e.1⟩
theorem Kw.app {x : Dt} {kd : Nat} {w : Bool} (h : Kw x kd w) {A B : Fo} : listD (((wordF (kd : Int)).app A).app B) = listD (Dt.fo ⟨2, 0, x.s.hd.t, .nil, false⟩ (A.app B)) := by
  rw [word_of h.kw h.txt]
  rfl
theorem Kw.tl1 {x : Dt} {kd : Nat} {w : Bool} (h : Kw x kd w) : (plD x).s.tl = plF x.s.tl := by rw [h.pl]; rfl

theorem len_sub {a b : Nat} (h : a = b - 1) (hb : 0 < b) : ((a : Int) - ((0 : Nat) : Int)) = (b : Int) - 1 - 0 := by omega
theorem len_sub2 {a b : Nat} (h : a = b - 1 - 1) (hb : 3 ≤ b) : ((a : Int) - ((0 : Nat) : Int)) = (b : Int) - 1 - 1 := by omega
theorem row_plain {R : Dt → PR Frm} (hR : ∀ y f, canB y = true → R y = .ok f → Rnd R true y f) {x : Dt} {kd : Nat} {w : Bool} {f : Frm} (h : Kw x kd w) (hk : kd ≠ 4 ∧ kd ≠ 5 ∧ kd ≠ 6 ∧ kd ≠ 8) (hf : rowPlain R x = .ok f) : Rnd (listM R w) w x { f with kind := kd } := by
  obtain ⟨g, h1, h2⟩ := then_ok hf
  cases h2
  obtain ⟨e1, e2, e3, e4⟩ := rnd_forms hR (CanF.tl (.of h.can h.k)) h1
  have hr := kinds_lt h.kw
  have hne := h.ne
  have ha : (shpOf kd).2.1 = 0 := by
    have : kd = 3 ∨ kd = 7 ∨ kd = 9 ∨ kd = 11 ∨ kd = 12 ∨ kd = 13 ∨ kd = 14 ∨ kd = 15 := by omega
    rcases this with rfl | rfl | rfl | rfl | rfl | rfl | rfl | rfl <;> rfl
  show Rnd _ _ _ (⟨(kd : Int), [], [], g, dt0⟩ : Frm)
  have hv : valsN ⟨(kd : Int), [], [], g, dt0⟩ = 0 := by unfold valsN; rw [if_neg (by show ¬ ((kd : Int) = 8); omega)]
  have hA : ∀ B, aheadF ⟨(kd : Int), [], [], g, dt0⟩ B = .nil := fun B => by
    unfold aheadF
    rw [if_neg (by show ¬ ((kd : Int) = 1); omega), if_neg (by show ¬ ((kd : Int) = 5 ∨ (kd : Int) = 6); omega), if_neg (by show ¬ ((kd : Int) = 4); omega), if_neg (by show ¬ ((kd : Int) = 8); omega)]
  refine ⟨?_, te_of (shaped_row rfl ⟨hr.1, hr.2.1⟩ ?_ (.inl rfl) (.inl rfl) (datfit ?_ rfl) (callfit ?_)) ?_ ?_ rfl, e2, ?_⟩
  · unfold wrD
    rw [wr1_list (by show ¬ ((kd : Int) = 2); omega) (by show ¬ ((kd : Int) = 1); omega), hA, hv, h.app, drop0, h.pl]
    show listD (Dt.fo _ (wrF g)) = _
    rw [e1]
  · rw [hv]
    have := h.takes
    rw [ha] at this
    rw [Fo.tl_len] at e4
    show takesB kd ((g.len : Int) - ((0 : Nat) : Int)) = true
    rw [len_sub e4 h.len]
    exact this
  · show ¬ ((kd : Int) = 1); omega
  · show ¬ ((kd : Int) = 10); omega
  · rintro ⟨_, e⟩
    have : (kd : Int) = 5 := e
    omega
  · unfold namedB
    rw [if_neg (by show ¬ ((kd : Int) = 2); omega), if_neg (by show ¬ ((kd : Int) = 5 ∨ (kd : Int) = 6); omega)]
    rfl
  · refine h.again (f := ⟨0, [], [], g, dt0⟩) ?_
    unfold rowM
    rw [if_neg h.ne, if_neg hk.1, if_neg hk.2.1, if_neg hk.2.2.1, if_neg hk.2.2.2]
    show (formsM R 1 (plD x).s.tl).then _ = _
    rw [h.tl1, e3]
    rfl
/-- The second Kid of a keyword's list that wants one. -/
theorem Kw.three {x : Dt} {kd : Nat} {w : Bool} (h : Kw x kd w) (hk : kd = 4 ∨ kd = 5 ∨ kd = 6 ∨ kd = 8) : 3 ≤ x.s.len ∧ (shpOf kd).2.1 = 1 := by
  obtain ⟨a1, a2⟩ := shp_two hk
  have := h.takes
  unfold takesB at this
  rw [a1, a2] at this
  simp only [Bool.and_eq_true, decide_eq_true_eq] at this
  exact ⟨by omega, a1⟩
theorem pl_tl {s : Fo} (h : 0 < s.tl.len) : plF s.tl = (plD s.tl.hd).fo (plF s.tl.tl) := by
  have e : plF s.tl = plF (s.tl.hd.fo s.tl.tl) := by rw [← fo_hd_tl h]
  rw [e]; rfl
theorem row_named {R : Dt → PR Frm} (hR : ∀ y f, canB y = true → R y = .ok f → Rnd R true y f) {x : Dt} {kd : Nat} {w : Bool} {f : Frm} (h : Kw x kd w) (hk : kd = 5 ∨ kd = 6) (hf : rowNamed R x = .ok f) : Rnd (listM R w) w x { f with kind := kd } := by
  obtain ⟨a, h0, hg⟩ := then_ok hf
  obtain ⟨g, h1, h2⟩ := then_ok hg
  clear hg
  cases h2
  obtain ⟨hl, hs⟩ := h.three (by omega)
  obtain ⟨hk2, hv, rfl⟩ := vari_ok (within_ok h0)
  obtain ⟨e1, e2, e3, e4⟩ := rnd_forms hR (CanF.tl (CanF.tl (.of h.can h.k))) h1
  have s1 := dat_sym (ok_two h.ok.2 (by omega)) hk2
  show Rnd _ _ _ (⟨(kd : Int), x.s.tl.hd.t, [], g, dt0⟩ : Frm)
  have hvn : valsN ⟨(kd : Int), x.s.tl.hd.t, [], g, dt0⟩ = 0 := by unfold valsN; rw [if_neg (by show ¬ ((kd : Int) = 8); omega)]
  have hA : ∀ B, aheadF ⟨(kd : Int), x.s.tl.hd.t, [], g, dt0⟩ B = (symD x.s.tl.hd.t).fo .nil := fun B => by
    unfold aheadF
    rw [if_neg (by show ¬ ((kd : Int) = 1); omega), if_pos (by show ((kd : Int) = 5 ∨ (kd : Int) = 6); omega)]
  have ep : plF x.s.tl = (symD x.s.tl.hd.t).fo (plF x.s.tl.tl) := by
    rw [pl_tl (by rw [Fo.tl_len]; omega), plD_atom (by rw [hk2]; decide)]
    conv => lhs; rw [s1]
    rfl
  refine ⟨?_, te_of (shaped_row rfl (by omega) ?_ (.inr ?_) (.inl rfl) (datfit ?_ rfl) (callfit ?_)) ?_ ?_ rfl, e2, ?_⟩
  · unfold wrD
    rw [wr1_list (by show ¬ ((kd : Int) = 2); omega) (by show ¬ ((kd : Int) = 1); omega), hA, hvn, h.app, drop0, h.pl]
    show listD (Dt.fo _ ((symD x.s.tl.hd.t).fo (wrF g))) = _
    rw [e1, ep]
  · rw [hvn]
    have := h.takes
    rw [hs] at this
    rw [Fo.tl_len, Fo.tl_len] at e4
    show takesB kd ((g.len : Int) - ((0 : Nat) : Int)) = true
    rw [len_sub2 e4 hl]
    exact this
  · rcases hk with rfl | rfl <;> rfl
  · show ¬ ((kd : Int) = 1); omega
  · show ¬ ((kd : Int) = 10); omega
  · rintro ⟨e0, e⟩
    have : (kd : Int) = 5 := e
    exact h.out ⟨e0, by omega⟩
  · unfold namedB
    rw [if_neg (by show ¬ ((kd : Int) = 2); omega), if_pos (by show ((kd : Int) = 5 ∨ (kd : Int) = 6); omega)]
    exact hv
  · refine h.again (f := ⟨0, x.s.tl.hd.t, [], g, dt0⟩) ?_
    have hr : rowM R kd (plD x) = rowNamed R (plD x) := by
      unfold rowM
      rcases hk with rfl | rfl <;> rfl
    rw [hr]
    show ((variM (plD x).s.tl.hd.k (plD x).s.tl.hd.t).within 1).then _ = _
    rw [h.tl1, ep]
    have hvm : variM (Dt.fo (symD x.s.tl.hd.t) (plF x.s.tl.tl)).hd.k (Dt.fo (symD x.s.tl.hd.t) (plF x.s.tl.tl)).hd.t = .ok x.s.tl.hd.t := by
      show variM 2 x.s.tl.hd.t = _
      rw [← hk2]
      exact within_ok h0
    rw [hvm]
    show (formsM R 2 (plF x.s.tl.tl)).then _ = _
    rw [e3]
    rfl
theorem row_lambda {R : Dt → PR Frm} (hR : ∀ y f, canB y = true → R y = .ok f → Rnd R true y f) {x : Dt} {w : Bool} {f : Frm} (h : Kw x 4 w) (hf : rowLambda R x = .ok f) : Rnd (listM R w) w x { f with kind := (4 : Nat) } := by
  obtain ⟨l, h0, hg⟩ := then_ok hf
  obtain ⟨g, h1, h2⟩ := then_ok hg
  clear hg
  cases h2
  obtain ⟨hl, hs⟩ := h.three (by omega)
  obtain ⟨e1, e2, e3, e4⟩ := rnd_forms hR (CanF.tl (CanF.tl (.of h.can h.k))) h1
  have h0 := within_ok h0
  have h0' := h0
  have ho := ok_two h.ok.2 (by omega)
  unfold namesD at h0
  split at h0
  · cases h0
  rename_i hc
  have hk2 : x.s.tl.hd.k = 5 ∧ x.s.tl.hd.d = false := by
    unfold isListB at hc
    simpa using hc
  obtain ⟨n1, n2, n3⟩ := names_ok ho.2 h0
  obtain ⟨d1, d2, _⟩ := dat_list ho hk2.1
  have hq : quB x.s.tl.hd.s x.s.tl.hd.d = false := by
    cases hq : quB x.s.tl.hd.s x.s.tl.hd.d with
    | false => rfl
    | true =>
      unfold quB at hq
      simp only [Bool.and_eq_true, decide_eq_true_eq] at hq
      have h9 := hq.2.2.2
      rw [n1] at h9
      cases l with
      | nil => simp [symsF, Fo.hd, dt0, quoteB] at h9
      | cons a l =>
        simp only [List.all_cons, Bool.and_eq_true] at n2
        exact absurd h9 (var_ne_quote n2.1)
  have s1 : x.s.tl.hd = listD (symsF l) := by
    have : x.s.tl.hd = ⟨x.s.tl.hd.k, x.s.tl.hd.n, x.s.tl.hd.t, x.s.tl.hd.s, x.s.tl.hd.d⟩ := rfl
    rw [this, hk2.1, hk2.2, d1, d2, n1]
    rfl
  have ep : plF x.s.tl = (listD (symsF l)).fo (plF x.s.tl.tl) := by
    rw [pl_tl (by rw [Fo.tl_len]; omega), plD_list hk2.1 hq, hk2.2, d1, d2, n1, syms_pl]
    rfl
  show Rnd _ _ _ (⟨4, [], l, g, dt0⟩ : Frm)
  refine ⟨?_, te_of (shaped_row (kd := 4) rfl (by omega) ?_ (.inl rfl) (.inr rfl) (datfit (by show ¬ ((4 : Int) = 1); decide) rfl) (callfit (by show ¬ ((4 : Int) = 10); decide))) ?_ ?_ n3, e2, ?_⟩
  · unfold wrD
    rw [wr1_list (by show ¬ ((4 : Int) = 2); decide) (by show ¬ ((4 : Int) = 1); decide)]
    show listD (((wordF ((4 : Nat) : Int)).app ((listD (symsF l)).fo .nil)).app ((wrF g).drop 0)) = _
    rw [h.app, drop0, h.pl]
    show listD (Dt.fo _ ((listD (symsF l)).fo (wrF g))) = _
    rw [e1, ep]
  · have := h.takes
    rw [hs] at this
    rw [Fo.tl_len, Fo.tl_len] at e4
    show takesB 4 ((g.len : Int) - ((0 : Nat) : Int)) = true
    rw [len_sub2 e4 hl]
    exact this
  · rintro ⟨_, e⟩
    have : (4 : Int) = 5 := e
    omega
  · exact n2
  · refine h.again (f := ⟨0, [], l, g, dt0⟩) ?_
    show ((namesD (plD x).s.tl.hd).within 1).then _ = _
    rw [h.tl1, ep]
    have hvm : namesD (Dt.fo (listD (symsF l)) (plF x.s.tl.tl)).hd = .ok l := by
      show namesD (listD (symsF l)) = _
      rw [← s1]
      exact h0'
    rw [hvm]
    show (formsM R 2 (plF x.s.tl.tl)).then _ = _
    rw [e3]
    rfl
theorem row_let {R : Dt → PR Frm} (hR : ∀ y f, canB y = true → R y = .ok f → Rnd R true y f) {x : Dt} {w : Bool} {f : Frm} (h : Kw x 8 w) (hf : rowLet R x = .ok f) : Rnd (listM R w) w x { f with kind := (8 : Nat) } := by
  obtain ⟨y, h0, hg⟩ := then_ok hf
  obtain ⟨g, h1, h2⟩ := then_ok hg
  clear hg
  cases h2
  obtain ⟨hl, hs⟩ := h.three (by omega)
  obtain ⟨e1, e2, e3, e4⟩ := rnd_forms hR (CanF.tl (CanF.tl (.of h.can h.k))) h1
  have h0 := within_ok h0
  have ho := ok_two h.ok.2 (by omega)
  have hcan := can_two h.can h.k (by omega)
  unfold bindsD at h0
  split at h0
  · cases h0
  rename_i hc
  have hk2 : x.s.tl.hd.k = 5 ∧ x.s.tl.hd.d = false := by
    unfold isListB at hc
    simpa using hc
  obtain ⟨n1, n2, n3, n4, n5, n6, n7⟩ := rnd_binds hR (.of hcan hk2.1) ho.2 h0
  obtain ⟨d1, d2, _⟩ := dat_list ho hk2.1
  have hq : quB x.s.tl.hd.s x.s.tl.hd.d = false := by
    cases hq : quB x.s.tl.hd.s x.s.tl.hd.d with
    | false => rfl
    | true =>
      unfold quB at hq
      simp only [Bool.and_eq_true, beq_iff_eq] at hq
      have h9 := n7 0 _ (Fo.nd_hd (by omega))
      rw [hq.2.2.1] at h9
      cases h9
  obtain ⟨l, gv⟩ := y
  simp only at n1 n2 n3 n4 n5 n6
  have ep : plF x.s.tl = (listD (zipB l (wrF gv))).fo (plF x.s.tl.tl) := by
    rw [pl_tl (by rw [Fo.tl_len]; omega), plD_list hk2.1 hq, hk2.2, d1, d2, n1]
    rfl
  show Rnd _ _ _ (⟨8, [], l, gv.app g, dt0⟩ : Frm)
  have hlen : (wrF gv).len = l.length := by rw [wrF_len, n6]
  refine ⟨?_, te_of (shaped_row (kd := 8) rfl (by omega) ?_ (.inl rfl) (.inr rfl) (datfit (by show ¬ ((8 : Int) = 1); decide) rfl) (callfit (by show ¬ ((8 : Int) = 10); decide))) ?_ ?_ n3, terms_app n4 e2, ?_⟩
  · unfold wrD
    rw [wr1_list (by show ¬ ((8 : Int) = 2); decide) (by show ¬ ((8 : Int) = 1); decide)]
    show listD (((wordF ((8 : Nat) : Int)).app ((listD (zipB l (wrF (gv.app g)))).fo .nil)).app ((wrF (gv.app g)).drop l.length)) = _
    rw [h.app, h.pl, wrF_app, zipB_app hlen, drop_app hlen]
    show listD (Dt.fo _ ((listD (zipB l (wrF gv))).fo (wrF g))) = _
    rw [e1, ep]
  · have := h.takes
    rw [hs] at this
    rw [Fo.tl_len, Fo.tl_len] at e4
    show takesB 8 (((gv.app g).len : Int) - ((l.length : Nat) : Int)) = true
    rw [Fm.len_app, n6, show (((l.length + g.len : Nat) : Int) - (l.length : Int)) = ((g.len : Int) - ((0 : Nat) : Int)) by omega, len_sub2 e4 hl]
    exact this
  · rintro ⟨_, e⟩
    have : (8 : Int) = 5 := e
    omega
  · exact n2
  · refine h.again (f := ⟨0, [], l, gv.app g, dt0⟩) ?_
    show ((bindsD R (plD x).s.tl.hd).within 1).then _ = _
    rw [h.tl1, ep]
    have hvm : bindsD R (Dt.fo (listD (zipB l (wrF gv))) (plF x.s.tl.tl)).hd = .ok (l, gv) := by
      show bindsM R [] 0 (zipB l (wrF gv)) = _
      rw [← n1]
      exact n5
    rw [hvm]
    show (formsM R 2 (plF x.s.tl.tl)).then _ = _
    rw [e3]
    rfl
/-- A quote. -/
theorem row_quote {K : Nat} {x : Dt} {w : Bool} (hk : x.k = 5) (hcan : canB x = true) (hO : okD x) (hq : quB x.s x.d = true) (hb : listM (formM K true) w x = .ok ⟨1, [], [], .nil, x.s.tl.hd⟩) : Rnd (formM (K + 1) w) w x ⟨1, [], [], .nil, x.s.tl.hd⟩ := by
  obtain ⟨q1, q2, q3⟩ := qu_is hO hq
  have hl : x.s.len = 2 := by unfold quB at hq; simp only [Bool.and_eq_true, beq_iff_eq] at hq; exact hq.1
  have hc := can_two hcan hk (by omega)
  obtain ⟨d1, d2, _⟩ := dat_list hO hk
  have hte : termE ⟨1, [], [], .nil, x.s.tl.hd⟩ w = 0 := by
    refine te_of (shaped_row (kd := 1) rfl (by omega) rfl (.inl rfl) (.inl rfl) ?_ rfl) ?_ rfl rfl
    · unfold datFitB
      rw [if_pos rfl]
      exact hc
    · rintro ⟨_, e⟩
      have : (1 : Int) = 5 := e
      omega
  have hx : x = listD (Dt.fo (symD quoteB) (x.s.tl.hd.fo .nil)) := by
    have : x = ⟨x.k, x.n, x.t, x.s, x.d⟩ := rfl
    rw [this, hk, d1, d2, q1]
    show _ = (⟨5, 0, [], Dt.fo ⟨2, 0, quoteB, .nil, false⟩ (x.s.tl.hd.fo .nil), false⟩ : Dt)
    rw [← q2]
  cases ha : atomB x.s.tl.hd with
  | true =>
    have hp : plD x = x.s.tl.hd := by rw [plD_quote hk hq, if_pos ha]
    simp only [atomB, Bool.and_eq_true, bne_iff_ne] at ha
    have hkk := dat_kind q3
    refine ⟨?_, hte, rfl, ?_⟩
    · rw [hp]
      unfold wrD wr1
      rw [if_neg (by show ¬ ((1 : Int) = 2); decide), if_pos]
      refine ⟨rfl, ?_⟩
      show (x.s.tl.hd.k == 1 || (x.s.tl.hd.k == 3 || x.s.tl.hd.k == 4)) = true
      simp only [Bool.or_eq_true, beq_iff_eq]
      omega
    · rw [hp]
      unfold formM
      rw [if_neg ha.1, if_neg ha.2]
      rfl
  | false =>
    have hp : plD x = x := by rw [plD_quote hk hq, ha]; rfl
    have hkk : x.s.tl.hd.k = 5 ∨ x.s.tl.hd.k = 2 := by
      simp only [atomB, Bool.and_eq_false_iff, bne_eq_false_iff_eq] at ha
      exact ha
    refine ⟨?_, hte, rfl, ?_⟩
    · rw [hp]
      unfold wrD wr1
      rw [if_neg (by show ¬ ((1 : Int) = 2); decide), if_neg]
      · exact hx.symm
      · rintro ⟨_, e⟩
        have : (x.s.tl.hd.k == 1 || (x.s.tl.hd.k == 3 || x.s.tl.hd.k == 4)) = true := e
        simp only [Bool.or_eq_true, beq_iff_eq] at this
        omega
    · rw [hp]
      unfold formM
      rw [if_pos hk]
      exact hb
theorem row_call {K : Nat} (hR : ∀ y f, canB y = true → formM K true y = .ok f → Rnd (formM K true) true y f) {x : Dt} {w : Bool} {f : Frm} (hk : x.k = 5) (hd : x.d = false) (hcan : canB x = true) (hO : okD x) (hl : 0 < x.s.len) (hkw : kwOf x.s.hd.t = none) (hf : callM (formM K true) x = .ok f) : Rnd (listM (formM K true) w) w x f := by
  unfold callM at hf
  split at hf
  · cases hf
  rename_i hargs
  obtain ⟨g, h1, h2⟩ := then_ok hf
  cases h2
  obtain ⟨e1, e2, e3, e4⟩ := rnd_forms hR (.of hcan hk) h1
  obtain ⟨d1, d2, _⟩ := dat_list hO hk
  have hq : quB x.s x.d = false := by
    cases hq : quB x.s x.d with
    | false => rfl
    | true =>
      unfold quB at hq
      simp only [Bool.and_eq_true, decide_eq_true_eq] at hq
      have h9 := hq.2.2.2
      rw [h9] at hkw
      cases hkw
  have hp : plD x = listD (plF x.s) := by rw [plD_list hk hq, d1, d2, hd]; rfl
  have hht : (plF x.s).hd.t = x.s.hd.t := by rw [plF_hd hl, plD_t (ok_hd hO.2 hl)]
  have hsz : x.s.len ≤ 10000 := by
    rw [canB_iff] at hcan
    have := Fo.len_size x.s
    omega
  show Rnd _ _ _ (⟨10, [], [], g, dt0⟩ : Frm)
  refine ⟨?_, te_of (shaped_row (kd := 10) rfl (by omega) ?_ (.inl rfl) (.inl rfl) (datfit (by show ¬ ((10 : Int) = 1); decide) rfl) ?_) ?_ rfl rfl, e2, ?_⟩
  · unfold wrD
    rw [wr1_list (by show ¬ ((10 : Int) = 2); decide) (by show ¬ ((10 : Int) = 1); decide), hp]
    show listD ((Fo.app (Fo.app .nil .nil) ((wrF g).drop 0))) = _
    rw [drop0, e1]
    rfl
  · show takesB 10 ((g.len : Int) - ((0 : Nat) : Int)) = true
    unfold takesB
    have a1 : (shpOf 10).2.2.1 = 1 := rfl
    have a2 : (shpOf 10).2.2.2 = 9223372036854775807 := rfl
    rw [a1, a2, e4]
    simp only [Bool.and_eq_true, decide_eq_true_eq]
    omega
  · unfold callFitB
    split
    · rename_i hc
      have ht := form_two (forms_hd h1 hl) hc.2
      show argsB g.hd.text (g.len - 1) = true
      rw [ht, e4]
      simpa using hargs
    · rfl
  · rintro ⟨_, e⟩
    have : (10 : Int) = 5 := e
    omega
  · rw [hp]
    have hll : (plF x.s).len = x.s.len := plF_len _
    unfold listM
    rw [if_neg (by show ¬ ((false || (plF x.s).len == 0) = true); rw [hll]; simp; omega)]
    show (match kwOf (plF x.s).hd.t with | none => _ | some kd => _) = _
    rw [hht, hkw]
    show callM _ _ = _
    unfold callM
    rw [if_neg]
    · show (formsM _ 0 (plF x.s)).then _ = _
      rw [e3]
      rfl
    · show ¬ ((!argsB (plF x.s).hd.t ((plF x.s).len - 1)) = true)
      rw [hht, hll]
      exact hargs
/-- There and back. -/
theorem form_rnd : ∀ (K : Nat) {w : Bool} {x : Dt} {f : Frm}, canB x = true → formM K w x = .ok f → Rnd (formM K w) w x f
  | 0, _, _, _, _, h => by cases h
  | K + 1, w, x, f, hcan, h => by
    have hO := canB_ok hcan
    have ih : ∀ y f, canB y = true → formM K true y = .ok f → Rnd (formM K true) true y f := fun y f hy h => form_rnd K hy h
    have h' := h
    unfold formM at h
    split at h
    · rename_i hk
      have hlist : (plD x).k = 5 → Rnd (listM (formM K true) w) w x f → Rnd (formM (K + 1) w) w x f := fun h5 r => ⟨r.wr, r.te, r.ks, by
        have hb := r.back
        unfold formM; rw [if_pos h5]; exact hb⟩
      have hL := h
      unfold listM at h
      split at h
      · cases h
      rename_i hdl
      simp only [Bool.or_eq_true, not_or, beq_iff_eq, Bool.not_eq_true] at hdl
      obtain ⟨hd, hl⟩ := hdl
      have hl : 0 < x.s.len := by omega
      obtain ⟨d1, d2, _⟩ := dat_list hO hk
      cases hkw : kwOf x.s.hd.t with
      | none =>
        rw [hkw] at h
        have hq : quB x.s x.d = false := by
          cases hq : quB x.s x.d with
          | false => rfl
          | true =>
            unfold quB at hq
            simp only [Bool.and_eq_true, decide_eq_true_eq] at hq
            have h9 := hq.2.2.2
            rw [h9] at hkw
            cases hkw
        exact hlist (by rw [plD_list hk hq]) (row_call ih hk hd hcan hO hl hkw h)
      | some kd =>
        rw [hkw] at h
        replace h : (if !takesB kd (x.s.len - 1 - (shpOf kd).2.1) || (kd == 5 && w) then PR.bad 70 [] else (rowM (formM K true) kd x).then fun f => .ok { f with kind := kd }) = .ok f := h
        split at h
        · cases h
        rename_i hc
        simp only [Bool.or_eq_true, not_or, Bool.not_eq_true', Bool.not_eq_false, Bool.and_eq_true, beq_iff_eq] at hc
        obtain ⟨ht, hout⟩ := hc
        obtain ⟨f0, h1, h2⟩ := then_ok h
        by_cases h1k : kd = 1
        · subst h1k
          cases h1
          cases h2
          have hlen : x.s.len = 2 := by
            have := takes_max ht
            have a1 : (shpOf 1).2.2.1 = 0 := rfl
            have a2 : (shpOf 1).2.2.2 = 0 := rfl
            have a3 : (shpOf 1).2.1 = 1 := rfl
            rw [a1, a2, a3] at this
            omega
          have hq : quB x.s x.d = true := by
            unfold quB
            rw [hlen, hd, kw_sym (ok_hd hO.2 hl) hkw, (kw_quote hkw).1 rfl]
            rfl
          exact row_quote hk hcan hO hq hL
        · have hkk : Kw x kd w := ⟨hk, hd, d1, d2, hO, hcan, hkw, h1k, ht, fun e => hout ⟨e.2, e.1⟩, hl⟩
          cases h2
          refine hlist (by rw [hkk.pl]; rfl) ?_
          unfold rowM at h1
          rw [if_neg h1k] at h1
          split at h1
          · rename_i e; subst e; exact row_lambda ih hkk h1
          split at h1
          · rename_i e; subst e; exact row_named ih hkk (.inl rfl) h1
          split at h1
          · rename_i e; subst e; exact row_named ih hkk (.inr rfl) h1
          split at h1
          · rename_i e; subst e; exact row_let ih hkk h1
          · rename_i a b c d; exact row_plain ih hkk ⟨a, b, c, d⟩ h1
    split at h
    · rename_i hk2
      have e := dat_sym hO hk2
      split at h
      · rename_i hn
        cases h
        show Rnd _ _ _ (⟨2, x.t, [], .nil, dt0⟩ : Frm)
        refine ⟨?_, te_of (shaped_row (kd := 2) rfl (by omega) rfl (.inr rfl) (.inl rfl) (datfit (by show ¬ ((2 : Int) = 1); decide) rfl) (callfit (by show ¬ ((2 : Int) = 10); decide))) ?_ ?_ rfl, rfl, ?_⟩
        · rw [plD_atom (by omega)]
          exact e.symm
        · rintro ⟨_, e⟩
          have : (2 : Int) = 5 := e
          omega
        · exact hn
        · rw [plD_atom (by omega)]
          exact h'
      · cases h
    · rename_i hk2
      cases h
      show Rnd _ _ _ (⟨1, [], [], .nil, x⟩ : Frm)
      refine ⟨?_, te_of (shaped_row (kd := 1) rfl (by omega) rfl (.inl rfl) (.inl rfl) ?_ rfl) ?_ rfl rfl, rfl, ?_⟩
      · rename_i hk5
        rw [plD_atom hk5]
        unfold wrD wr1
        rw [if_neg (by show ¬ ((1 : Int) = 2); decide), if_pos]
        refine ⟨rfl, ?_⟩
        have := dat_kind hO
        show (x.k == 1 || (x.k == 3 || x.k == 4)) = true
        simp only [Bool.or_eq_true, beq_iff_eq]
        omega
      · unfold datFitB
        rw [if_pos rfl]
        exact hcan
      · rintro ⟨_, e⟩
        have : (1 : Int) = 5 := e
        omega
      · rename_i hk5
        rw [plD_atom hk5]
        exact h'
/-- What Of tells of a form, Back and Of again. -/
theorem of_round {x : Dt} (he : (ofM x).2.1 = 0) : canB x = true ∧ (ofM x).2.2 = [] ∧ backM (ofM x).1 = (plD x, 0) ∧ ofM (plD x) = ((ofM x).1, 0, []) := by
  cases hc : canB x with
  | false =>
    have e : ofM x = (frm0, 70, []) := by unfold ofM; rw [hc]; rfl
    rw [e] at he; cases he
  | true =>
    cases h : formM 200 false x with
    | ok f =>
      have e : ofM x = (f, 0, []) := by unfold ofM; rw [hc, if_pos rfl, h]
      have k := form_rnd 200 hc h
      have hp := pl_can hc
      rw [e]
      refine ⟨rfl, rfl, ?_, ?_⟩
      · have ht : termsE false (f.fm .nil) = 0 := by
          show (if termE f false ≠ 0 then termE f false else if termsE true f.kids ≠ 0 then termsE true f.kids else 0) = 0
          rw [if_neg (by simp [k.te]), if_neg (by simp [k.ks])]
        show backM f = _
        unfold backM
        rw [if_neg (by simp [ht]), k.wr, if_pos hp]
      · unfold ofM
        rw [if_pos hp, k.back]
    | bad er p =>
      have e : ofM x = (frm0, er, p) := by unfold ofM; rw [hc, if_pos rfl, h]
      have := pe_form 200 false x (by have := canB_dpt hc; omega) er p h
      rw [e] at he
      have he : er = 0 := he
      unfold Er at this
      omega
end Go.Proofs.YtkgnigloboajcaaGreatDoor

/- How much a form is: plain mathematics. -/
namespace Go.Proofs.YtkgnigloboajcaaGreatDoor

/-- A form that is not too much. -/
structure Szd (n : Nat) (f : Frm) : Prop where
  ok : FOk f
  ks : f.kids.oks
  wt : (f.fm .nil).wt ≤ n
theorem hd_dok {s : Fo} (hs : s.size ≤ 1000000) (ht : s.tx) : DOk s.hd := by
  cases s with
  | nil => exact ⟨by show 0 ≤ 1000000; omega, by show 0 ≤ 281474976710656; omega, trivial⟩
  | cons k n t s d r => simp only [Fo.size] at hs; exact ⟨by show s.size ≤ 1000000; omega, ht.1, ht.2.1⟩
theorem tl_size (s : Fo) : s.tl.size ≤ s.size := by cases s <;> simp only [Fo.tl, Fo.size] <;> omega
theorem tl_tx {s : Fo} (h : s.tx) : s.tl.tx := by cases s with | nil => trivial | cons k n t s d r => exact h.2.2
theorem hd_size {s : Fo} (h : 0 < s.len) : s.size = s.hd.s.size + s.tl.size + 1 := by
  cases s with
  | nil => simp [Fo.len] at h
  | cons k n t s d r => rfl
theorem hd_size' (s : Fo) : s.hd.s.size + s.tl.size ≤ s.size := by cases s <;> simp only [Fo.hd, Fo.tl, Fo.size, dt0] <;> omega
theorem szd_forms {R : Dt → PR Frm} (hR : ∀ y f, DOk y → R y = .ok f → Szd (6 * (y.s.size + 1)) f) : ∀ {s : Fo} {i : Int} {g : Fm}, s.size ≤ 1000000 → s.tx → formsM R i s = .ok g → g.oks ∧ g.wt ≤ 6 * s.size ∧ g.len = s.len
  | .nil, _, _, _, _, h => by cases h; exact ⟨trivial, Nat.le_refl _, rfl⟩
  | .cons k n t s d r, i, g, hs, ht, h => by
    obtain ⟨f, h1, h2⟩ := then_ok h
    obtain ⟨g', h3, h4⟩ := then_ok h2
    cases h4
    have hs' := hs
    simp only [Fo.size] at hs'
    have a := hR ⟨k, n, t, s, d⟩ f ⟨by show s.size ≤ 1000000; omega, ht.1, ht.2.1⟩ (within_ok h1)
    obtain ⟨e1, e2, e3⟩ := szd_forms hR (s := r) (by omega) ht.2.2 h3
    refine ⟨⟨a.ok, a.ks, e1⟩, ?_, ?_⟩
    · have h5 := a.wt
      have h6 : (f.fm .nil).wt = 4 + 2 * f.names.length + f.kids.wt + f.dat.s.size + 0 := rfl
      show 4 + 2 * f.names.length + f.kids.wt + f.dat.s.size + g'.wt ≤ 6 * (s.size + r.size + 1)
      have h7 : (f.fm .nil).wt ≤ 6 * (s.size + 1) := h5
      omega
    · show g'.len + 1 = r.len + 1
      rw [e3]
theorem szd_names : ∀ {s : Fo} {ahead : List (List UInt8)} {i : Int} {l : List (List UInt8)}, s.tx → namesM ahead i s = .ok l → l.length = s.len ∧ ∀ a ∈ l, a.length ≤ 281474976710656
  | .nil, _, _, _, _, h => by cases h; exact ⟨rfl, fun a h => by cases h⟩
  | .cons k n t s d r, ahead, i, l, ht, h => by
    obtain ⟨a, h1, h2⟩ := then_ok h
    obtain ⟨l', h3, h4⟩ := then_ok h2
    cases h4
    obtain ⟨_, _, rfl, _⟩ := new_ok (within_ok h1)
    obtain ⟨e1, e2⟩ := szd_names (s := r) ht.2.2 h3
    refine ⟨by show l'.length + 1 = r.len + 1; rw [e1], fun b hb => ?_⟩
    rw [List.mem_cons] at hb
    rcases hb with rfl | hb
    · exact ht.1
    · exact e2 b hb
theorem szd_binds {R : Dt → PR Frm} (hR : ∀ y f, DOk y → R y = .ok f → Szd (6 * (y.s.size + 1)) f) : ∀ {s : Fo} {ahead : List (List UInt8)} {i : Int} {y : List (List UInt8) × Fm}, s.size ≤ 1000000 → s.tx → bindsM R ahead i s = .ok y →
    y.1.length = s.len ∧ (∀ a ∈ y.1, a.length ≤ 281474976710656) ∧ y.2.oks ∧ y.2.len = s.len ∧ 2 * y.1.length + y.2.wt ≤ 6 * s.size
  | .nil, _, _, _, _, _, h => by cases h; exact ⟨rfl, fun a h => by simp at h, trivial, rfl, Nat.le_refl _⟩
  | .cons k n t s d r, ahead, i, y, hs, ht, h => by
    obtain ⟨x, h1, h2⟩ := then_ok h
    obtain ⟨y', h3, h4⟩ := then_ok h2
    cases h4
    have hx := within_ok h1
    have hs' := hs
    simp only [Fo.size] at hs'
    obtain ⟨e1, e2, e3, e4, e5⟩ := szd_binds hR (s := r) (by omega) ht.2.2 h3
    unfold bindM at hx
    split at hx
    · cases hx
    rename_i hc
    simp only [Bool.or_eq_true, not_or, Bool.not_eq_true', Bool.not_eq_false] at hc
    have hl : s.len = 2 := by simpa using hc.2
    obtain ⟨a, h5, h6⟩ := then_ok hx
    obtain ⟨f, h7, h8⟩ := then_ok h6
    cases h8
    obtain ⟨_, _, rfl, _⟩ := new_ok (within_ok h5)
    have z1 := hd_size (s := s) (by omega)
    have z2 := hd_size (s := s.tl) (by rw [Fo.tl_len]; omega)
    have hst : s.tx := ht.2.1
    have dk := hd_dok (s := s.tl) (by have := tl_size s; omega) (tl_tx hst)
    have f1 := hR s.tl.hd f dk (within_ok h7)
    have d1 := hd_dok (s := s) (by omega) hst
    refine ⟨by show y'.1.length + 1 = r.len + 1; rw [e1], fun b hb => ?_, ⟨f1.ok, f1.ks, e3⟩, by show y'.2.len + 1 = r.len + 1; rw [e4], ?_⟩
    · rcases List.mem_cons.1 hb with rfl | hb
      · exact d1.t
      · exact e2 b hb
    · have h6 : (f.fm .nil).wt = 4 + 2 * f.names.length + f.kids.wt + f.dat.s.size + 0 := rfl
      have h7 := f1.wt
      show 2 * (y'.1.length + 1) + (4 + 2 * f.names.length + f.kids.wt + f.dat.s.size + y'.2.wt) ≤ 6 * (s.size + r.size + 1)
      omega
theorem dok_0 : DOk dt0 := ⟨by show 0 ≤ 1000000; omega, by show 0 ≤ 281474976710656; omega, trivial⟩
theorem Fm.wt_app : ∀ f g : Fm, (f.app g).wt = f.wt + g.wt
  | .nil, g => by simp [Fm.app, Fm.wt]
  | .cons _ _ _ _ _ _ _ _ _ r, g => by simp only [Fm.app, Fm.wt, Fm.wt_app r g]; omega
theorem Fm.oks_app : ∀ {f g : Fm}, f.oks → g.oks → (f.app g).oks
  | .nil, _, _, h => h
  | .cons _ _ _ _ _ _ _ _ _ _, _, ⟨h1, h2, h3⟩, h => ⟨h1, h2, Fm.oks_app h3 h⟩
theorem szd_list {R : Dt → PR Frm} (hR : ∀ y f, DOk y → R y = .ok f → Szd (6 * (y.s.size + 1)) f) {w : Bool} {x : Dt} {f : Frm} (hx : DOk x) (h : listM R w x = .ok f) : Szd (6 * (x.s.size + 1)) f := by
  have s1 := tl_size x.s
  have s2 := tl_size x.s.tl
  have t1 := tl_tx hx.tx
  have t2 := tl_tx t1
  have l1 := Fo.len_size x.s
  have l2 := Fo.len_size x.s.tl
  have l3 := Fo.len_size x.s.tl.tl
  have hxs := hx.size
  have d1 : DOk x.s.tl.hd := hd_dok (by omega) t1
  have z1 := hd_size' x.s
  have z2 := hd_size' x.s.tl
  have z3 := Fo.len_size x.s.tl.hd.s
  unfold listM at h
  split at h
  · cases h
  split at h
  · unfold callM at h
    split at h
    · cases h
    · obtain ⟨g, h1, h2⟩ := then_ok h
      cases h2
      obtain ⟨e1, e2, e3⟩ := szd_forms hR hx.size hx.tx h1
      exact ⟨⟨by show 0 ≤ 281474976710656; omega, by show 0 ≤ 1000000; omega, (fun s hs => by cases hs), by show g.len ≤ 1000000; omega, dok_0⟩, e1, by show 4 + 2 * 0 + g.wt + 0 + 0 ≤ _; omega⟩
  · split at h
    · cases h
    rename_i kd _ _
    obtain ⟨f0, h1, h2⟩ := then_ok h
    cases h2
    suffices hh : Szd (6 * (x.s.size + 1)) f0 from ⟨⟨hh.ok.t, hh.ok.nl, hh.ok.ns, hh.ok.kl, hh.ok.d⟩, hh.ks, hh.wt⟩
    unfold rowM at h1
    have hn : rowNamed R x = .ok f0 → Szd (6 * (x.s.size + 1)) f0 := fun h => by
      obtain ⟨a, h0, hg⟩ := then_ok h
      obtain ⟨g, k1, k2⟩ := then_ok hg
      clear h1
      cases k2
      obtain ⟨_, _, rfl⟩ := vari_ok (within_ok h0)
      obtain ⟨e1, e2, e3⟩ := szd_forms hR (by omega) t2 k1
      exact ⟨⟨d1.t, by show 0 ≤ 1000000; omega, (fun s hs => by cases hs), by show g.len ≤ 1000000; omega, dok_0⟩, e1, by show 4 + 2 * 0 + g.wt + 0 + 0 ≤ _; omega⟩
    split at h1
    · cases h1
      exact ⟨⟨by show 0 ≤ 281474976710656; omega, by show 0 ≤ 1000000; omega, (fun s hs => by cases hs), by show 0 ≤ 1000000; omega, d1⟩, trivial, by show 4 + 2 * 0 + 0 + x.s.tl.hd.s.size + 0 ≤ _; omega⟩
    split at h1
    · obtain ⟨l, h0, hg⟩ := then_ok h1
      obtain ⟨g, k1, h2⟩ := then_ok hg
      clear h1
      have h1 := k1
      cases h2
      have h0 := within_ok h0
      unfold namesD at h0
      split at h0
      · cases h0
      obtain ⟨n1, n2⟩ := szd_names d1.tx h0
      obtain ⟨e1, e2, e3⟩ := szd_forms hR (by omega) t2 h1
      exact ⟨⟨by show 0 ≤ 281474976710656; omega, by show l.length ≤ 1000000; omega, n2, by show g.len ≤ 1000000; omega, dok_0⟩, e1, by show 4 + 2 * l.length + g.wt + 0 + 0 ≤ _; omega⟩
    split at h1
    · exact hn h1
    split at h1
    · exact hn h1
    split at h1
    · obtain ⟨y, h0, hg⟩ := then_ok h1
      obtain ⟨g, k1, h2⟩ := then_ok hg
      clear h1
      have h1 := k1
      cases h2
      have h0 := within_ok h0
      unfold bindsD at h0
      split at h0
      · cases h0
      obtain ⟨n1, n2, n3, n4, n5⟩ := szd_binds hR d1.size d1.tx h0
      obtain ⟨e1, e2, e3⟩ := szd_forms hR (by omega) t2 h1
      refine ⟨⟨by show 0 ≤ 281474976710656; omega, by show y.1.length ≤ 1000000; omega, n2, ?_, dok_0⟩, Fm.oks_app n3 e1, ?_⟩
      · show (y.2.app g).len ≤ 1000000
        rw [Fm.len_app]
        omega
      · show 4 + 2 * y.1.length + (y.2.app g).wt + 0 + 0 ≤ _
        rw [Fm.wt_app]
        omega
    · obtain ⟨g, k1, h2⟩ := then_ok h1
      clear h1
      cases h2
      obtain ⟨e1, e2, e3⟩ := szd_forms hR (by omega) t1 k1
      exact ⟨⟨by show 0 ≤ 281474976710656; omega, by show 0 ≤ 1000000; omega, (fun s hs => by cases hs), by show g.len ≤ 1000000; omega, dok_0⟩, e1, by show 4 + 2 * 0 + g.wt + 0 + 0 ≤ _; omega⟩
theorem szd_form : ∀ (K : Nat) {w : Bool} {x : Dt} {f : Frm}, DOk x → formM K w x = .ok f → Szd (6 * (x.s.size + 1)) f
  | 0, _, _, _, _, h => by cases h
  | K + 1, w, x, f, hx, h => by
    unfold formM at h
    split at h
    · exact szd_list (fun y f hy h => szd_form K hy h) hx h
    split at h
    · split at h
      · cases h
        exact ⟨⟨hx.t, by show 0 ≤ 1000000; omega, (fun s hs => by cases hs), by show 0 ≤ 1000000; omega, dok_0⟩, trivial, by show 4 + 2 * 0 + 0 + 0 + 0 ≤ _; omega⟩
      · cases h
    · cases h
      exact ⟨⟨by show 0 ≤ 281474976710656; omega, by show 0 ≤ 1000000; omega, (fun s hs => by cases hs), by show 0 ≤ 1000000; omega, hx⟩, trivial, by show 4 + 2 * 0 + 0 + x.s.size + 0 ≤ _; omega⟩
/-- What Of tells is not too much. -/
theorem of_szd {x : Dt} (hx : DOk x) : Szd 60000 (ofM x).1 := by
  have h0 : Szd 60000 frm0 := ⟨⟨by show 0 ≤ 281474976710656; omega, by show 0 ≤ 1000000; omega, (fun s hs => by cases hs), by show 0 ≤ 1000000; omega, dok_0⟩, trivial, by show 4 + 2 * 0 + 0 + 0 + 0 ≤ _; omega⟩
  cases hc : canB x with
  | false =>
    have e : ofM x = (frm0, 70, []) := by unfold ofM; rw [hc]; rfl
    rw [e]; exact h0
  | true =>
    cases h : formM 200 false x with
    | ok f =>
      have e : ofM x = (f, 0, []) := by unfold ofM; rw [hc, if_pos rfl, h]
      have k := szd_form 200 hx h
      have := (canB_iff.1 hc).2.2.1
      rw [e]
      exact ⟨k.ok, k.ks, by have := k.wt; show (f.fm .nil).wt ≤ 60000; omega⟩
    | bad er p =>
      have e : ofM x = (frm0, er, p) := by unfold ofM; rw [hc, if_pos rfl, h]
      rw [e]; exact h0
end Go.Proofs.YtkgnigloboajcaaGreatDoor
