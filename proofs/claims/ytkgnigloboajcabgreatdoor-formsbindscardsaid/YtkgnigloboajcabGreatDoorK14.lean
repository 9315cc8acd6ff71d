/- The tokens of a source, without fuel; two sources with a new line between.; The tokens of the text of data: plain mathematics.; What is written is read again: plain mathematics. -/
import Derived.Test.YtkgnigloboajcabGreatDoorK01
import Derived.Test.YtkgnigloboajcabGreatDoorK13
import Derived.Lib.ItoaNum
/- The tokens of a source, without fuel; two sources with a new line between. -/
namespace Go.Proofs.YtkgnigloboajcabGreatDoor

def sc (N : Nat) (l : List UInt8) : List (Tok × Int) := scan N (l.length + 1) l

theorem scan_fuel (N : Nat) : ∀ (f g : Nat) (l : List UInt8), l.length < f → l.length < g → scan N f l = scan N g l := by
  intro f
  induction f with
  | zero => intro g l h; omega
  | succ f ih =>
    intro g l h h'
    cases g with
    | zero => omega
    | succ g =>
      rw [scan_ne, scan_ne]
      cases hl : last l
      · have := nx0_lt l hl
        rw [ih g (nx0 l) (by omega) (by omega)]
      · rfl

theorem sc_eq (N : Nat) (l : List UInt8) : sc N l = (at0 N l, er0 l) :: (if last l then [] else sc N (nx0 l)) := by
  unfold sc
  rw [scan_ne]
  cases hl : last l
  · have := nx0_lt l hl
    rw [scan_fuel N l.length ((nx0 l).length + 1) (nx0 l) (by omega) (by omega)]
  · rfl

theorem items_sc (l : List UInt8) (h : l.length ≤ 65536) : items l = sc l.length l := by
  unfold items sc; rw [if_neg (by omega)]

theorem leave_join (t : List UInt8) (l : List UInt8) : ∀ c, leave c (l ++ 10 :: t) = if leave c l = [] then leave false t else leave c l ++ 10 :: t := by
  induction l with
  | nil => intro c; cases c <;> simp [leave, isB, isBI]
  | cons b r ih =>
    intro c
    cases c
    · simp only [List.cons_append, leave]
      split
      · exact ih false
      · split
        · exact ih true
        · simp
    · simp only [List.cons_append, leave]
      split
      · exact ih false
      · exact ih true

theorem take_join (t l : List UInt8) : (l ++ 10 :: t).takeWhile isW = l.takeWhile isW := by
  induction l with
  | nil => simp [isW, isWI]
  | cons b r ih => simp only [List.cons_append, List.takeWhile_cons]; split <;> simp [ih]

theorem begT_join (t l : List UInt8) (h : l ≠ []) : begT (l ++ 10 :: t) = begT l := by
  cases l with
  | nil => exact absurd rfl h
  | cons b r =>
    have := take_join t (b :: r)
    rw [List.cons_append] at this
    simp only [List.cons_append, begT, this]
theorem begS_join (t l : List UInt8) (h : l ≠ []) : begS (l ++ 10 :: t) = begS l := by
  cases l with
  | nil => exact absurd rfl h
  | cons b r =>
    have := take_join t (b :: r)
    rw [List.cons_append] at this
    simp only [List.cons_append, begS, this]
theorem begE_join (t l : List UInt8) (h : l ≠ []) : begE (l ++ 10 :: t) = begE l := by
  cases l with
  | nil => exact absurd rfl h
  | cons b r =>
    have := take_join t (b :: r)
    rw [List.cons_append] at this
    simp only [List.cons_append, begE, this]

/-- Where the first source has nothing left, the second one goes on. -/
theorem sc_over (N : Nat) (l t : List UInt8) (h : leave false l = []) : sc N (l ++ 10 :: t) = sc N t := by
  have hl : leave false (l ++ 10 :: t) = leave false t := by rw [leave_join, if_pos h]
  rw [sc_eq, sc_eq N t]
  have h1 : at0 N (l ++ 10 :: t) = at0 N t := by unfold at0; rw [hl]
  have h2 : er0 (l ++ 10 :: t) = er0 t := by unfold er0; rw [hl]
  have h3 : last (l ++ 10 :: t) = last t := by unfold last er0; rw [hl]
  have h4 : nx0 (l ++ 10 :: t) = nx0 t := by unfold nx0; rw [hl]
  rw [h1, h2, h3, h4]

theorem put_pos (t : Tok) (a b : Int) (h : a = b) : put t a = put t b := by rw [h]

/-- One step within the first source. -/
theorem sc_within (S : Nat) (l t : List UInt8) (h : leave false l ≠ []) :
    at0 (S + 1 + t.length) (l ++ 10 :: t) = at0 S l ∧ er0 (l ++ 10 :: t) = er0 l ∧ last (l ++ 10 :: t) = last l ∧ (er0 l = 0 → nx0 (l ++ 10 :: t) = nx0 l ++ 10 :: t) := by
  have hl : leave false (l ++ 10 :: t) = leave false l ++ 10 :: t := by rw [leave_join, if_neg h]
  refine ⟨?_, ?_, ?_, ?_⟩
  · unfold at0; rw [hl, begT_join _ _ h]; apply put_pos; simp; omega
  · unfold er0; rw [hl, begE_join _ _ h]
  · unfold last er0; rw [hl, begE_join _ _ h]
    congr 1
    rw [List.isEmpty_eq_false_iff.2 h, List.isEmpty_eq_false_iff.2 (by simp)]
  · intro _
    unfold nx0; rw [hl, begS_join _ _ h, List.drop_append_of_le_length (begS_le _)]

/-- No error. -/
def fineB (xs : List (Tok × Int)) : Bool := xs.all fun x => x.2 == 0

theorem sc_join (S : Nat) (t : List UInt8) : ∀ (n : Nat) (l : List UInt8), l.length ≤ n →
    sc (S + 1 + t.length) (l ++ 10 :: t) = if fineB (sc S l) then (sc S l).dropLast ++ sc (S + 1 + t.length) t else sc S l := by
  intro n
  induction n with
  | zero =>
    intro l hn
    have : l = [] := List.length_eq_zero_iff.1 (by omega)
    subst this
    rw [sc_over _ _ _ (by simp [leave])]
    have : sc S [] = [(at0 S [], 0)] := by rw [sc_eq]; simp [last, er0, leave, begE]
    rw [this]; simp [fineB]
  | succ n ih =>
    intro l hn
    by_cases h : leave false l = []
    · rw [sc_over _ _ _ h]
      have : sc S l = [(at0 S l, 0)] := by rw [sc_eq]; simp [last, er0, h, begE]
      rw [this]; simp [fineB]
    · obtain ⟨h1, h2, h3, h4⟩ := sc_within S l t h
      rw [sc_eq, sc_eq S l, h1, h2, h3]
      cases hl : last l
      · have he : er0 l = 0 := by simp [last] at hl; exact hl.1
        rw [h4 he, ih (nx0 l) (by have := nx0_lt l hl; omega)]
        have hne : sc S (nx0 l) ≠ [] := by rw [sc_eq]; simp
        simp only [Bool.false_eq_true, if_false]
        have hf : fineB ((at0 S l, er0 l) :: sc S (nx0 l)) = fineB (sc S (nx0 l)) := by simp [fineB, he]
        rw [hf]
        cases fineB (sc S (nx0 l))
        · simp
        · simp [List.dropLast_cons_of_ne_nil hne]
      · have he : ¬ er0 l = 0 := by
          intro e; simp [last, e, h] at hl
        simp [fineB, he]

/-- Places lie within the source. -/
theorem sc_pos (N : Nat) : ∀ (n : Nat) (l : List UInt8), l.length ≤ n → l.length ≤ N → ∀ x ∈ sc N l, 0 ≤ x.1.pos ∧ x.1.pos ≤ N := by
  intro n
  induction n with
  | zero =>
    intro l hn _ x hx
    have : l = [] := List.length_eq_zero_iff.1 (by omega)
    subst this
    rw [sc_eq] at hx
    simp [last, er0, leave, begE, at0, put] at hx
    rw [hx]; simp
  | succ n ih =>
    intro l hn hN x hx
    rw [sc_eq] at hx
    have hle := leave_le false l
    rcases List.mem_cons.1 hx with rfl | hx
    · simp only [at0, put]; omega
    · cases hl : last l
      · rw [hl] at hx
        have := nx0_lt l hl
        exact ih (nx0 l) (by omega) (by omega) x (by simpa using hx)
      · rw [hl] at hx; simp at hx
theorem items_pos (l : List UInt8) (x : Tok × Int) (hx : x ∈ items l) : 0 ≤ x.1.pos ∧ x.1.pos ≤ 65536 := by
  by_cases h : 65536 < l.length
  · unfold items at hx; rw [if_pos h] at hx
    simp at hx; rw [hx]; simp [tk]
  · rw [items_sc l (by omega)] at hx
    have := sc_pos l.length l.length l (Nat.le_refl _) (Nat.le_refl _) x hx
    omega

/-- Places moved on. -/
def shift (k : Int) (x : Tok × Int) : Tok × Int := (put x.1 (x.1.pos + k), x.2)
theorem sc_shift (S k : Nat) : ∀ (n : Nat) (l : List UInt8), l.length ≤ n → sc (S + k) l = (sc S l).map (shift k) := by
  intro n
  induction n with
  | zero =>
    intro l hn
    have : l = [] := List.length_eq_zero_iff.1 (by omega)
    subst this
    rw [sc_eq, sc_eq S]
    simp [last, er0, leave, begE, at0, shift, put]
  | succ n ih =>
    intro l hn
    rw [sc_eq, sc_eq S]
    have ha : (at0 (S + k) l, er0 l) = shift k (at0 S l, er0 l) := by
      simp only [shift, at0, put, Prod.mk.injEq, and_true, Tok.mk.injEq, true_and]; omega
    cases hl : last l
    · simp only [Bool.false_eq_true, if_false, List.map_cons]
      rw [ha, ih (nx0 l) (by have := nx0_lt l hl; omega)]
    · simp [ha]
theorem fineB_shift (k : Int) (xs : List (Tok × Int)) : fineB (xs.map (shift k)) = fineB xs := by simp [fineB, List.all_map]; rfl
end Go.Proofs.YtkgnigloboajcabGreatDoor

/- The tokens of the text of data: plain mathematics. -/
namespace Go.Proofs.YtkgnigloboajcabGreatDoor

/-- A token without its place. -/
def bare (t : Tok) : Tok := put t 0
def bareI (x : Tok × Int) : Tok × Int := (bare x.1, x.2)
/-- The tokens of a text, without their places. -/
def lx (l : List UInt8) : List (Tok × Int) := (sc 0 l).map bareI
def z0 (ks : List Tok) : List (Tok × Int) := ks.map fun t => (t, 0)
/-- No word goes on here. -/
def stop (z : List UInt8) : Prop := z.takeWhile isW = []

theorem bare_put (t : Tok) (p : Int) : bare (put t p) = bare t := rfl
theorem lx_sc (N : Nat) (l : List UInt8) : (sc N l).map bareI = lx l := by
  have := sc_shift 0 N l.length l (Nat.le_refl _)
  rw [Nat.zero_add] at this
  rw [this, List.map_map]
  unfold lx
  rfl
theorem lx_eq (l : List UInt8) : lx l = (bare (begT (leave false l)), begE (leave false l)) :: (if last l then [] else lx (nx0 l)) := by
  unfold lx
  rw [sc_eq, List.map_cons]
  cases last l <;> rfl
theorem word_bare (l : List UInt8) : bare (word l) = word l := by
  unfold word
  split; · rfl
  split; · rfl
  split; · rfl
  split
  · split <;> rfl
  · split <;> rfl
theorem lx_nil : lx [] = [(tk 9, 0)] := by rw [lx_eq]; rfl
theorem lx_blank (b : UInt8) (l : List UInt8) (h : isB b = true) : lx (b :: l) = lx l := by
  rw [lx_eq, lx_eq l]
  have e : leave false (b :: l) = leave false l := by simp [leave, h]
  simp only [last, er0, nx0, e]
  rfl
theorem lx_one (b : UInt8) (l : List UInt8) (k : Int) (hb : isB b = false) (hc : ¬ b.toNat = 59) (hT : begT (b :: l) = tk k) (hS : begS (b :: l) = 1) (hE : begE (b :: l) = 0) : lx (b :: l) = (tk k, 0) :: lx l := by
  rw [lx_eq]
  have e : leave false (b :: l) = b :: l := by simp [leave, hb, hc]
  simp only [last, er0, nx0, e, hT, hS, hE]
  rfl
theorem lx_open (l : List UInt8) : lx (40 :: l) = (tk 1, 0) :: lx l := lx_one 40 l 1 rfl (by decide) rfl rfl rfl
theorem lx_close (l : List UInt8) : lx (41 :: l) = (tk 2, 0) :: lx l := lx_one 41 l 2 rfl (by decide) rfl rfl rfl
theorem lx_quote (l : List UInt8) : lx (39 :: l) = (tk 3, 0) :: lx l := lx_one 39 l 3 rfl (by decide) rfl rfl rfl
theorem isW_not {b : UInt8} (h : isW b = true) : isB b = false ∧ ¬ b.toNat = 59 ∧ ¬ b.toNat = 40 ∧ ¬ b.toNat = 41 ∧ ¬ b.toNat = 39 := by
  simp only [isW, isWI, Bool.and_eq_true, decide_eq_true_eq, bne_iff_ne, ne_eq] at h
  simp only [isB, isBI, Bool.or_eq_false_iff, beq_eq_false_iff_ne, ne_eq]
  omega
theorem take_stop {l z : List UInt8} (h : l.all isW = true) (hz : stop z) : (l ++ z).takeWhile isW = l := by
  rw [List.takeWhile_append_of_pos (by simpa using h), hz, List.append_nil]
theorem lx_word {l z : List UInt8} (h : l.all isW = true) (hn : l ≠ []) (hz : stop z) (hE : wordE l = 0) : lx (l ++ z) = (word l, 0) :: lx z := by
  have ht := take_stop h hz
  cases l with
  | nil => exact absurd rfl hn
  | cons b r =>
    have hb : isW b = true := by simp at h; exact h.1
    obtain ⟨h1, h2, h3, h4, h5⟩ := isW_not hb
    rw [List.cons_append] at ht ⊢
    have e : leave false (b :: (r ++ z)) = b :: (r ++ z) := by simp [leave, h1, h2]
    have eT : begT (b :: (r ++ z)) = word (b :: r) := by simp only [begT, if_neg h3, if_neg h4, if_neg h5, if_pos hb, ht]
    have eS : begS (b :: (r ++ z)) = r.length + 1 := by simp only [begS, if_neg h3, if_neg h4, if_neg h5, if_pos hb, ht, List.length_cons]
    have eE : begE (b :: (r ++ z)) = 0 := by simp only [begE, if_neg h3, if_neg h4, if_neg h5, if_pos hb, ht, hE]
    rw [lx_eq]
    simp only [last, er0, nx0, e, eT, eS, eE, word_bare]
    simp

theorem stop_nil : stop [] := rfl
theorem stop_cons {b : UInt8} (z : List UInt8) (h : isW b = false) : stop (b :: z) := by simp [stop, h]
theorem lx_dot (z : List UInt8) (hz : stop z) : lx (46 :: z) = (tk 4, 0) :: lx z := lx_word (l := [46]) (by decide) (by decide) hz (by decide)

/-! Numbers. -/
theorem dig_isD (u : Nat) (h : u < 10) : isD (UInt8.ofNat (48 + u)) = true ∧ (UInt8.ofNat (48 + u)).toNat - 48 = u := by
  have e : (UInt8.ofNat (48 + u)).toNat = 48 + u := by rw [UInt8.toNat_ofNat']; exact Nat.mod_eq_of_lt (by omega)
  refine ⟨?_, by rw [e]; omega⟩
  simp only [isD, isDI, e, Bool.and_eq_true, decide_eq_true_eq]; omega
theorem dec_spec (u : Nat) : (Lib.decDigits u).all isD = true ∧ Lib.decDigits u ≠ [] ∧ val 0 (Lib.decDigits u) = u := by
  induction u using Nat.strongRecOn with
  | _ u ih =>
    by_cases h : u < 10
    · rw [Lib.decDigits, dif_pos h]
      have := dig_isD u h
      refine ⟨by rw [List.all_cons, this.1]; rfl, by simp, ?_⟩
      rw [val_cons, val_nil, this.2]; omega
    · rw [Lib.decDigits, dif_neg h]
      obtain ⟨h1, h2, h3⟩ := ih (u / 10) (by omega)
      have := dig_isD (u % 10) (by omega)
      refine ⟨by rw [List.all_append, h1, List.all_cons, this.1]; rfl, by simp, ?_⟩
      rw [val_snoc, h3, this.2]; omega
theorem isD_isW {b : UInt8} (h : isD b = true) : isW b = true ∧ ¬ b.toNat = 45 := by
  simp only [isD, isDI, Bool.and_eq_true, decide_eq_true_eq] at h
  simp only [isW, isWI, Bool.and_eq_true, decide_eq_true_eq, bne_iff_ne, ne_eq]
  omega
theorem all_isD_isW {l : List UInt8} (h : l.all isD = true) : l.all isW = true := by
  rw [List.all_eq_true] at h ⊢
  exact fun b hb => (isD_isW (h b hb)).1
theorem unsign_dec {l : List UInt8} (h : l.all isD = true) : unsign l = l ∧ neg l = false := by
  cases l with
  | nil => exact ⟨rfl, rfl⟩
  | cons b r =>
    have hb : isD b = true := by simp at h; exact h.1
    have := (isD_isW hb).2
    exact ⟨by simp only [unsign, if_neg this], by simp only [neg, beq_eq_false_iff_ne]; exact this⟩
theorem itoa_spec (n : Int) : (Lib.itoa n).all isW = true ∧ Lib.itoa n ≠ [] ∧ isNum (Lib.itoa n) = true ∧ num (Lib.itoa n) = n ∧ (∀ b r, Lib.itoa n ≠ 46 :: b :: r) ∧ (∀ r, Lib.itoa n ≠ 35 :: r) ∧ (∀ r, Lib.itoa n ≠ 46 :: r) := by
  unfold Lib.itoa
  by_cases h : n < 0
  · rw [if_pos h]
    obtain ⟨h1, h2, h3⟩ := dec_spec n.natAbs
    have hu : unsign (45 :: Lib.decDigits n.natAbs) = Lib.decDigits n.natAbs := by simp [unsign]
    have hne : (Lib.decDigits n.natAbs).isEmpty = false := by simpa using h2
    refine ⟨by rw [List.all_cons, all_isD_isW h1]; decide, by simp, by simp only [isNum, hu, h1, hne]; rfl, ?_, by simp, by simp, by simp⟩
    unfold num
    rw [if_pos (by rfl), hu, h3]; omega
  · rw [if_neg h]
    obtain ⟨h1, h2, h3⟩ := dec_spec n.toNat
    obtain ⟨hu, hg⟩ := unsign_dec h1
    have hne : (Lib.decDigits n.toNat).isEmpty = false := by simpa using h2
    have hno : ∀ (b : UInt8) (r : List UInt8), isD b = false → Lib.decDigits n.toNat ≠ b :: r := by
      intro b r hb e
      rw [e] at h1
      simp [hb] at h1
    refine ⟨all_isD_isW h1, h2, by simp only [isNum, hu, h1, hne]; rfl, ?_, fun b r => hno _ _ (by decide), fun r => hno _ _ (by decide), fun r => hno _ _ (by decide)⟩
    unfold num
    rw [hg, hu, h3]; simp; omega
theorem word_itoa (n : Int) (h : fits n = true) : word (Lib.itoa n) = ⟨5, [], n, 0⟩ ∧ wordE (Lib.itoa n) = 0 := by
  obtain ⟨_, _, h3, h4, _, h6, h7⟩ := itoa_spec n
  unfold word wordE
  rw [if_neg (h7 _), if_neg (h6 _), if_neg (h6 _), if_pos h3, h4, if_pos h, if_neg (h7 _), if_neg (h6 _), if_neg (h6 _), if_pos h3, if_pos h]
  exact ⟨rfl, rfl⟩
theorem sym_spec {t : List UInt8} (h : symB t = true) : t.all isW = true ∧ t ≠ [] ∧ word t = ⟨6, t, 0, 0⟩ ∧ wordE t = 0 := by
  simp only [symB, Bool.and_eq_true, beq_iff_eq] at h
  obtain ⟨hE, hK, hS⟩ := h
  cases t with
  | nil => simp [begT, tk] at hK
  | cons b r =>
    simp only [begT, begE, begS] at hE hK hS
    by_cases h1 : b.toNat = 40
    · simp [h1, tk] at hK
    by_cases h2 : b.toNat = 41
    · simp [h2, tk] at hK
    by_cases h3 : b.toNat = 39
    · simp [h3, tk] at hK
    by_cases h4 : isW b = true
    · rw [if_neg h1, if_neg h2, if_neg h3, if_pos h4] at hE hK hS
      have hl : ((b :: r).takeWhile isW).length = (b :: r).length := by omega
      have ht : (b :: r).takeWhile isW = b :: r := List.IsPrefix.eq_of_length (List.takeWhile_prefix _) hl
      rw [ht] at hE hK
      refine ⟨?_, by simp, ?_, hE⟩
      · rw [← ht]
        exact List.all_takeWhile
      · unfold word at hK ⊢
        split at hK; · cases hK
        split at hK; · cases hK
        split at hK; · cases hK
        split at hK
        · split at hK <;> cases hK
        · split at hK
          · cases hK
          · rename_i e1 e2 e3 e4 e5
            rw [if_neg e1, if_neg e2, if_neg e3, if_neg e4, if_neg e5]
    · simp [h1, h2, h3, h4, tk] at hK

/-! The tokens of data. -/
def kidsK (d : Bool) : List (List Tok) → List Tok
  | [] => []
  | x :: r => (if d && r.isEmpty then [tk 4] else []) ++ (x ++ kidsK d r)
def oneK (k n : Int) (t : List UInt8) (s : Fo) (d : Bool) (ts : List (List Tok)) : List Tok :=
  if k = 1 then [⟨5, [], n, 0⟩] else if k = 2 then [⟨6, t, 0, 0⟩] else if k = 3 then [tk 7] else if k = 4 then [tk 8]
  else if isQ s d then tk 3 :: ts.getD 1 [] else tk 1 :: (kidsK d ts ++ [tk 2])
def textsK : Fo → List (List Tok)
  | .nil => []
  | .cons k n t s d r => oneK k n t s d (textsK s) :: textsK r
/-- Are all of them data? -/
def allD : Fo → Bool
  | .nil => true
  | .cons k n t s d r => isDat k n t s d && (allD s && allD r)

/-- A text that is cut into these tokens, whatever stops it. -/
def Cut (x : List UInt8) (ks : List Tok) : Prop := ∀ z, stop z → lx (x ++ z) = z0 ks ++ lx z
inductive Cuts : List (List UInt8) → List (List Tok) → Prop
  | nil : Cuts [] []
  | cons {x ks xs kss} : Cut x ks → Cuts xs kss → Cuts (x :: xs) (ks :: kss)

theorem z0_app (a b : List Tok) : z0 (a ++ b) = z0 a ++ z0 b := by simp [z0]
theorem kids_stop (d : Bool) (r : List (List UInt8)) (z : List UInt8) : stop (kidsT d false r ++ 41 :: z) := by
  cases r with
  | nil => exact stop_cons _ (by decide)
  | cons x r => exact stop_cons _ (by decide)
theorem kids_cut {d : Bool} : ∀ {xs : List (List UInt8)} {kss : List (List Tok)} (_ : Cuts xs kss) (fst : Bool) (z : List UInt8), lx (kidsT d fst xs ++ 41 :: z) = z0 (kidsK d kss) ++ lx (41 :: z)
  | _, _, .nil, fst, z => by simp [kidsT, kidsK, z0]
  | _, _, @Cuts.cons x ks xs kss hc hs, fst, z => by
    have hlen : kss.isEmpty = xs.isEmpty := by cases hs <;> rfl
    have ih := kids_cut (d := d) hs false z
    simp only [kidsT, kidsK, hlen]
    have h1 : lx ((if d && xs.isEmpty then [46, 32] else []) ++ (x ++ kidsT d false xs) ++ 41 :: z) = z0 ((if d && xs.isEmpty then [tk 4] else []) ++ (ks ++ kidsK d kss)) ++ lx (41 :: z) := by
      have h0 : lx (x ++ kidsT d false xs ++ 41 :: z) = z0 (ks ++ kidsK d kss) ++ lx (41 :: z) := by
        rw [List.append_assoc, hc _ (kids_stop d xs z), ih, z0_app, List.append_assoc]
      by_cases hd : (d && xs.isEmpty) = true
      · rw [if_pos hd, if_pos hd, List.append_assoc]
        show lx (46 :: 32 :: (_ ++ 41 :: z)) = _
        rw [lx_dot _ (stop_cons _ (by decide)), lx_blank 32 _ (by decide), h0]
        rfl
      · rw [if_neg hd, if_neg hd, List.nil_append, List.nil_append]
        exact h0
    cases fst
    · rw [if_neg (by decide)]
      show lx (32 :: (_ ++ 41 :: z)) = _
      rw [lx_blank 32 _ (by decide)]
      exact h1
    · rw [if_pos rfl, List.nil_append]
      exact h1

theorem isQ_spec {s : Fo} {d : Bool} (h : isQ s d = true) : d = false ∧ ∃ k n t s1 d1, s = .cons 2 0 quoteB .nil false (.cons k n t s1 d1 .nil) := by
  unfold isQ at h
  split at h
  · rename_i k n t s1 d1 k' n' t' s1' d1'
    simp only [sameB, Bool.and_eq_true, Bool.not_eq_true', beq_iff_eq, decide_eq_true_eq, Fo.same_iff] at h
    obtain ⟨hd, rfl, rfl, rfl, rfl, rfl⟩ := h
    exact ⟨hd, _, _, _, _, _, rfl⟩
  · cases h
theorem isDat_num {n : Int} {t : List UInt8} {s : Fo} {d : Bool} (h : isDat 1 n t s d = true) : fits n = true ∧ t = [] ∧ s = .nil ∧ d = false := by
  simp only [isDat, if_true, sameB, Bool.and_eq_true, beq_iff_eq, decide_eq_true_eq, Fo.same_iff] at h
  obtain ⟨⟨_, _, rfl, rfl, rfl⟩, h1, h2⟩ := h
  refine ⟨?_, rfl, rfl, rfl⟩
  simp only [fits, Bool.and_eq_true, decide_eq_true_eq]; omega
theorem isDat_sym {n : Int} {t : List UInt8} {s : Fo} {d : Bool} (h : isDat 2 n t s d = true) : symB t = true ∧ n = 0 ∧ s = .nil ∧ d = false := by
  have h2 : ¬ ((2 : Int) = 1) := by decide
  simp only [isDat, if_neg h2, if_true, sameB, Bool.and_eq_true, beq_iff_eq, decide_eq_true_eq, Fo.same_iff] at h
  obtain ⟨⟨_, rfl, _, rfl, rfl⟩, h1⟩ := h
  exact ⟨h1, rfl, rfl, rfl⟩
theorem isDat_lf {k n : Int} {t : List UInt8} {s : Fo} {d : Bool} (hk : k = 3 ∨ k = 4) (h : isDat k n t s d = true) : n = 0 ∧ t = [] ∧ s = .nil ∧ d = false := by
  have h1 : ¬ k = 1 := by omega
  have h2 : ¬ k = 2 := by omega
  simp only [isDat, if_neg h1, if_neg h2, if_pos hk, sameB, Bool.and_eq_true, beq_iff_eq, decide_eq_true_eq, Fo.same_iff] at h
  obtain ⟨_, rfl, rfl, rfl, rfl⟩ := h
  exact ⟨rfl, rfl, rfl, rfl⟩
theorem isDat_kind {k n : Int} {t : List UInt8} {s : Fo} {d : Bool} (h : isDat k n t s d = true) : k = 1 ∨ k = 2 ∨ k = 3 ∨ k = 4 ∨ k = 5 := by
  unfold isDat at h
  split at h; · omega
  split at h; · omega
  split at h; · omega
  split at h; · omega
  cases h
theorem isDat_list {n : Int} {t : List UInt8} {s : Fo} {d : Bool} (h : isDat 5 n t s d = true) : n = 0 ∧ t = [] ∧ (d = true → hasT s = true) := by
  have h1 : ¬ (5 : Int) = 1 := by omega
  have h2 : ¬ (5 : Int) = 2 := by omega
  have h3 : ¬ ((5 : Int) = 3 ∨ (5 : Int) = 4) := by omega
  simp only [isDat, if_neg h1, if_neg h2, if_neg h3, if_true, Bool.and_eq_true, beq_iff_eq, decide_eq_true_eq, Bool.or_eq_true, Bool.not_eq_true'] at h
  exact ⟨h.1, h.2.1, fun hd => h.2.2.resolve_left (by simp [hd])⟩

theorem cuts : ∀ (f : Fo), allD f = true → Cuts (textsT f) (textsK f)
  | .nil, _ => .nil
  | .cons k n t s d r, h => by
    simp only [allD, Bool.and_eq_true] at h
    obtain ⟨hi, hs, hr⟩ := h
    have ihs := cuts s hs
    refine .cons ?_ (cuts r hr)
    intro z hz
    rcases isDat_kind hi with rfl | rfl | rfl | rfl | rfl
    · obtain ⟨hf, _⟩ := isDat_num hi
      obtain ⟨h1, h2, _⟩ := itoa_spec n
      obtain ⟨h3, h4⟩ := word_itoa n hf
      show lx (Lib.itoa n ++ z) = _
      rw [lx_word h1 h2 hz h4, h3]
      rfl
    · obtain ⟨hf, _⟩ := isDat_sym hi
      obtain ⟨h1, h2, h3, h4⟩ := sym_spec hf
      show lx (t ++ z) = _
      rw [lx_word h1 h2 hz h4, h3]
      rfl
    · show lx ([35, 102] ++ z) = _
      rw [lx_word (by decide) (by decide) hz (by decide)]
      rfl
    · show lx ([35, 116] ++ z) = _
      rw [lx_word (by decide) (by decide) hz (by decide)]
      rfl
    · simp only [oneT, oneK, show ¬ (5 : Int) = 1 by decide, show ¬ (5 : Int) = 2 by decide, show ¬ (5 : Int) = 3 by decide, show ¬ (5 : Int) = 4 by decide, if_false]
      by_cases hq : isQ s d = true
      · rw [if_pos hq, if_pos hq]
        obtain ⟨_, k1, n1, t1, s1, d1, rfl⟩ := isQ_spec hq
        cases ihs with
        | cons _ h2 =>
          cases h2 with
          | cons h3 _ =>
            show lx (39 :: (oneT k1 n1 t1 s1 d1 (textsT s1) ++ z)) = _
            rw [lx_quote, h3 z hz]
            rfl
      · rw [if_neg hq, if_neg hq, List.cons_append, List.append_assoc, lx_open]
        show _ :: lx (kidsT d true (textsT s) ++ 41 :: z) = _
        rw [kids_cut ihs true z, lx_close]
        simp [z0]

theorem lines_cut : ∀ {xs : List (List UInt8)} {kss : List (List Tok)} (_ : Cuts xs kss), Cut (linesT xs) kss.flatten
  | _, _, .nil => fun z _ => by simp [linesT, z0]
  | _, _, @Cuts.cons x ks xs kss hc hs => fun z hz => by
    cases hs with
    | nil => simpa [linesT] using hc z hz
    | @cons y ks' ys kss' hc' hs' =>
      have ih := lines_cut (Cuts.cons hc' hs') z hz
      show lx ((x ++ 10 :: linesT (y :: ys)) ++ z) = _
      rw [List.append_assoc, List.cons_append, hc _ (stop_cons _ (by decide)), lx_blank 10 _ (by decide), ih]
      simp only [List.flatten_cons, z0_app, List.append_assoc]
end Go.Proofs.YtkgnigloboajcabGreatDoor

/- What is written is read again: plain mathematics. -/
namespace Go.Proofs.YtkgnigloboajcabGreatDoor

/-! Places do not matter. -/
def Res.bare : Res → Res
  | .ok f d r c => .ok f d (r.map Go.Proofs.YtkgnigloboajcabGreatDoor.bare) c
  | .bad e _ => .bad e 0
theorem leafOf_bare (t : Tok) : leafOf (bare t) = leafOf t := rfl
theorem Res.list_bare (x : Res) : x.bare.list = x.list.bare := by cases x <;> rfl
theorem Res.quote_bare (x : Res) : x.bare.quote = x.quote.bare := by cases x <;> rfl
theorem Res.tail_bare (x : Res) : x.bare.tail = x.tail.bare := by
  cases x with
  | bad e p => rfl
  | ok f d r c =>
    cases r with
    | nil => rfl
    | cons t r =>
      show (if (Go.Proofs.YtkgnigloboajcabGreatDoor.bare t).kind = 2 then _ else _) = Res.bare (if t.kind = 2 then _ else _)
      rw [show (Go.Proofs.YtkgnigloboajcabGreatDoor.bare t).kind = t.kind from rfl]
      split <;> rfl
theorem Res.behind_bare (f : Fo) (x : Res) : (x.bare.behind f) = (x.behind f).bare := by cases x <;> rfl
theorem rd_bare (k : Nat) : ∀ (m : Nat) (ts : List Tok) (o c : Nat), rd k m (ts.map bare) o c = (rd k m ts o c).bare := by
  induction k with
  | zero => intro m ts o c; rfl
  | succ k ih =>
    intro m ts o c
    cases ts with
    | nil => rfl
    | cons t ts =>
      have moreE : ∀ m', more (rd k) m' ((t :: ts).map bare) o c = (more (rd k) m' (t :: ts) o c).bare := by
        intro m'
        unfold more
        rw [ih]
        cases rd k 0 (t :: ts) o c with
        | bad e p => rfl
        | ok f d r c' =>
          show (rd k m' (r.map bare) o c').behind f = _
          rw [ih, Res.behind_bare]
          rfl
      rw [List.map_cons] at moreE ⊢
      simp only [rd]
      have hk : (bare t).kind = t.kind := rfl
      by_cases hm : m = 0
      · simp only [if_pos hm]
        unfold one
        rw [hk, ih, ih, Res.list_bare, Res.quote_bare, leafOf_bare]
        split
        · split; · rfl
          split; · rfl
          rfl
        split
        · split; · rfl
          split; · rfl
          rfl
        split
        · split; · rfl
          rfl
        · rfl
      · simp only [if_neg hm]
        unfold lst
        rw [hk, moreE, moreE, ih, Res.tail_bare]
        split
        · split <;> rfl
        split; · rfl
        split
        · split <;> rfl
        · rfl
theorem rdf_bare (m : Nat) (ts : List Tok) (o c : Nat) : rdf m (ts.map bare) o c = (rdf m ts o c).bare := by
  unfold rdf
  rw [List.length_map, rd_bare]

/-! How deep. -/
def dep (L : Nat) : Fo → Nat
  | .nil => 0
  | .cons k _ _ s _ r => max (if k = 5 then max (L + 1) (dep (L + 1) s) else dep L s) (dep L r)
theorem ext_is : ∀ (f : Fo) (L c p : Nat), ext f L (c, p) = if allD f then some (c + f.size, max p (dep L f)) else none
  | .nil, L, c, p => by simp [ext, allD, Fo.size, dep]
  | .cons k n t s d r, L, c, p => by
    have hA : allD (.cons k n t s d r) = (isDat k n t s d && (allD s && allD r)) := rfl
    have hX : ext (.cons k n t s d r) L (c, p) = if isDat k n t s d then (ext s (if k = 5 then L + 1 else L) (c + 1, if k = 5 then max p (L + 1) else p)).bind (ext r L) else none := rfl
    rw [hA, hX, ext_is s]
    cases isDat k n t s d
    · rfl
    · cases allD s
      · rfl
      · show ext r L _ = if allD r = true then _ else none
        rw [ext_is r]
        cases allD r
        · rfl
        · simp only [if_true, Option.some.injEq, Prod.mk.injEq, Fo.size, dep]
          refine ⟨by omega, ?_⟩
          split <;> omega
theorem chk_zero {f : Fo} : chk f = 0 ↔ allD f = true ∧ dep 0 f ≤ 100 ∧ f.size ≤ 10000 := by
  unfold chk
  rw [ext_is]
  cases h : allD f
  · simp
  · simp only [if_true]
    split
    · simp; omega
    · split
      · simp; omega
      · simp; omega

/-- What comes is good, or too deep, or too much. -/
def Tries (res good : Res) (o c : Nat) : Prop := res = good ∨ (∃ p, res = .bad 61 p ∧ 100 < o) ∨ (∃ p, res = .bad 62 p ∧ 10000 < c)
theorem Tries.mono {res good : Res} {o c o' c' : Nat} (h : Tries res good o c) (ho : o ≤ o') (hc : c ≤ c') : Tries res good o' c' := by
  rcases h with h | ⟨p, h, h'⟩ | ⟨p, h, h'⟩
  · exact .inl h
  · exact .inr (.inl ⟨p, h, by omega⟩)
  · exact .inr (.inr ⟨p, h, by omega⟩)
/-- One datum's tokens are read as it. -/
def One (k n : Int) (t : List UInt8) (s : Fo) (d : Bool) : Prop := ∀ (o c : Nat) (rest : List Tok), o ≤ 100 →
  Tries (rdf 0 (oneK k n t s d (textsK s) ++ rest) o c) (.ok (.cons k n t s d .nil) false rest (c + s.size + 1)) (dep o (.cons k n t s d .nil)) (c + s.size + 1)
def Each : Fo → Prop
  | .nil => True
  | .cons k n t s d r => One k n t s d ∧ Each r
theorem oneK_head {k n : Int} {t : List UInt8} {s : Fo} {d : Bool} (ts : List (List Tok)) : ∃ a r, oneK k n t s d ts = a :: r ∧ a.kind ≠ 2 ∧ a.kind ≠ 4 ∧ a.kind ≠ 9 := by
  unfold oneK
  split; · exact ⟨_, _, rfl, show (5 : Int) ≠ 2 by decide, show (5 : Int) ≠ 4 by decide, show (5 : Int) ≠ 9 by decide⟩
  split; · exact ⟨_, _, rfl, show (6 : Int) ≠ 2 by decide, show (6 : Int) ≠ 4 by decide, show (6 : Int) ≠ 9 by decide⟩
  split; · exact ⟨_, _, rfl, by decide, by decide, by decide⟩
  split; · exact ⟨_, _, rfl, by decide, by decide, by decide⟩
  split
  · exact ⟨_, _, rfl, by decide, by decide, by decide⟩
  · exact ⟨_, _, rfl, by decide, by decide, by decide⟩

theorem dep_cons (k n : Int) (t : List UInt8) (s : Fo) (d : Bool) (r : Fo) (L : Nat) : dep L (.cons k n t s d r) = max (dep L (.cons k n t s d .nil)) (dep L r) := by
  simp only [dep]; omega

/-- A datum, and then the others. -/
theorem more_tries {m : Nat} {k n : Int} {t : List UInt8} {s : Fo} {d : Bool} {r : Fo} {R rest : List Tok} {dd : Bool} {o c : Nat} (h1 : One k n t s d) (ho : o ≤ 100)
    (h2 : Tries (rdf m R o (c + s.size + 1)) (.ok r dd rest (c + s.size + 1 + r.size)) (dep o r) (c + s.size + 1 + r.size)) :
    Tries (more rdf m (oneK k n t s d (textsK s) ++ R) o c) (.ok (.cons k n t s d r) dd rest (c + (Fo.cons k n t s d r).size)) (dep o (.cons k n t s d r)) (c + (Fo.cons k n t s d r).size) := by
  have hd := dep_cons k n t s d r o
  have hz : (Fo.cons k n t s d r).size = s.size + r.size + 1 := rfl
  unfold more
  rcases h1 o c R ho with h | ⟨p, h, h'⟩ | ⟨p, h, h'⟩
  · rw [h]
    simp only [Res.then]
    rcases h2 with h2 | ⟨p, h2, h'⟩ | ⟨p, h2, h'⟩
    · rw [h2]
      exact .inl (by simp only [Res.behind, Fo.app, hz]; congr 1; omega)
    · rw [h2]; exact .inr (.inl ⟨p, rfl, by omega⟩)
    · rw [h2]; exact .inr (.inr ⟨p, rfl, by omega⟩)
  · rw [h]; exact .inr (.inl ⟨p, rfl, by omega⟩)
  · rw [h]; exact .inr (.inr ⟨p, rfl, by omega⟩)

theorem lst_more {m : Nat} (hm : m = 1 ∨ m = 2) {k n : Int} {t : List UInt8} {s : Fo} {d : Bool} (R : List Tok) (o c : Nat) :
    rdf m (oneK k n t s d (textsK s) ++ R) o c = more rdf 2 (oneK k n t s d (textsK s) ++ R) o c := by
  obtain ⟨a, r, h, h1, h2, h3⟩ := @oneK_head k n t s d (textsK s)
  rw [h, List.cons_append, rdf_lst (by omega)]
  unfold lst
  rw [if_neg (by omega), if_neg h1, if_neg h2]
theorem all_more {k n : Int} {t : List UInt8} {s : Fo} {d : Bool} (R : List Tok) (o c : Nat) :
    rdf 3 (oneK k n t s d (textsK s) ++ R) o c = more rdf 3 (oneK k n t s d (textsK s) ++ R) o c := by
  obtain ⟨a, r, h, h1, h2, h3⟩ := @oneK_head k n t s d (textsK s)
  rw [h, List.cons_append, rdf_lst (by omega)]
  unfold lst
  rw [if_pos rfl, if_neg h3]

theorem close_is {m : Nat} (hm : m = 1 ∨ m = 2) (rest : List Tok) (o c : Nat) : rdf m (tk 2 :: rest) o c = .ok .nil false rest c := by
  rw [rdf_lst (by omega)]
  unfold lst
  rw [if_neg (by omega), if_pos (show (tk 2).kind = 2 from rfl)]
theorem end_is (rest : List Tok) (o c : Nat) : rdf 3 (tk 9 :: rest) o c = .ok .nil false rest c := by
  rw [rdf_lst (by omega)]
  unfold lst
  rw [if_pos rfl, if_pos (show (tk 9).kind = 9 from rfl)]

/-- Kids behind each other, then something that is read as they go on. -/
theorem row_then {m : Nat} (hm : m = 1 ∨ m = 2) : ∀ (f : Fo), Each f → ∀ (g : Fo) (dd : Bool) (R rest : List Tok) (o c : Nat), o ≤ 100 → (f = .nil → m = 2) →
    Tries (rdf 2 R o (c + f.size)) (.ok g dd rest (c + f.size + g.size)) (dep o g) (c + f.size + g.size) →
    Tries (rdf m ((textsK f).flatten ++ R) o c) (.ok (f.app g) dd rest (c + f.size + g.size)) (max (dep o f) (dep o g)) (c + f.size + g.size)
  | .nil, _, g, dd, R, rest, o, c, ho, hf, h => by
    rw [hf rfl]
    simp only [Fo.size, dep] at h ⊢
    exact Tries.mono h (by omega) (Nat.le_refl _)
  | .cons k n t s d r, ⟨h1, h2⟩, g, dd, R, rest, o, c, ho, _, h => by
    simp only [textsK, List.flatten_cons, List.append_assoc]
    rw [lst_more hm]
    have e : c + (Fo.cons k n t s d r).size = c + s.size + 1 + r.size := by simp only [Fo.size]; omega
    rw [e] at h ⊢
    have ih := row_then (.inr rfl) r h2 g dd R rest o (c + s.size + 1) ho (fun _ => rfl) h
    have hd := dep_cons k n t s d r o
    unfold more
    rcases h1 o c ((textsK r).flatten ++ R) ho with h | ⟨p, h, h'⟩ | ⟨p, h, h'⟩
    · rw [h]
      simp only [Res.then]
      rcases ih with h2 | ⟨p, h2, h'⟩ | ⟨p, h2, h'⟩
      · rw [h2]; exact .inl rfl
      · rw [h2]; exact .inr (.inl ⟨p, rfl, by omega⟩)
      · rw [h2]; exact .inr (.inr ⟨p, rfl, by omega⟩)
    · rw [h]; exact .inr (.inl ⟨p, rfl, by omega⟩)
    · rw [h]; exact .inr (.inr ⟨p, rfl, by omega⟩)
theorem all_then : ∀ (f : Fo), Each f → ∀ (g : Fo) (dd : Bool) (R rest : List Tok) (o c : Nat), o ≤ 100 →
    Tries (rdf 3 R o (c + f.size)) (.ok g dd rest (c + f.size + g.size)) (dep o g) (c + f.size + g.size) →
    Tries (rdf 3 ((textsK f).flatten ++ R) o c) (.ok (f.app g) dd rest (c + f.size + g.size)) (max (dep o f) (dep o g)) (c + f.size + g.size)
  | .nil, _, g, dd, R, rest, o, c, ho, h => by
    simp only [Fo.size, dep] at h ⊢
    exact Tries.mono h (by omega) (Nat.le_refl _)
  | .cons k n t s d r, ⟨h1, h2⟩, g, dd, R, rest, o, c, ho, h => by
    simp only [textsK, List.flatten_cons, List.append_assoc]
    rw [all_more]
    have e : c + (Fo.cons k n t s d r).size = c + s.size + 1 + r.size := by simp only [Fo.size]; omega
    rw [e] at h ⊢
    have ih := all_then r h2 g dd R rest o (c + s.size + 1) ho h
    have hd := dep_cons k n t s d r o
    unfold more
    rcases h1 o c ((textsK r).flatten ++ R) ho with h | ⟨p, h, h'⟩ | ⟨p, h, h'⟩
    · rw [h]
      simp only [Res.then]
      rcases ih with h2 | ⟨p, h2, h'⟩ | ⟨p, h2, h'⟩
      · rw [h2]; exact .inl rfl
      · rw [h2]; exact .inr (.inl ⟨p, rfl, by omega⟩)
      · rw [h2]; exact .inr (.inr ⟨p, rfl, by omega⟩)
    · rw [h]; exact .inr (.inl ⟨p, rfl, by omega⟩)
    · rw [h]; exact .inr (.inr ⟨p, rfl, by omega⟩)

theorem kidsK_false (l : List (List Tok)) : kidsK false l = l.flatten := by
  induction l with
  | nil => rfl
  | cons x r ih => simp [kidsK, ih]

/-- A row of kids up to its bracket. -/
theorem row_tries (dd : Bool) {m : Nat} (hm : m = 1 ∨ m = 2) : ∀ (f : Fo), Each f → ∀ (z : Int) (o c : Nat) (rest : List Tok), o ≤ 100 → (dd = true → lastK z f ≠ 5 ∧ 1 ≤ f.len ∧ (m = 1 → 2 ≤ f.len)) →
    Tries (rdf m (kidsK dd (textsK f) ++ tk 2 :: rest) o c) (.ok f dd rest (c + f.size)) (dep o f) (c + f.size)
  | .nil, _, z, o, c, rest, ho, hd => by
    cases dd
    · exact .inl (close_is hm rest o c)
    · exact absurd (hd rfl).2.1 (by simp [Fo.len])
  | .cons k n t s d r, ⟨h1, h2⟩, z, o, c, rest, ho, hd => by
    cases dd with
    | false =>
      rw [kidsK_false]
      have := row_then hm (.cons k n t s d r) ⟨h1, h2⟩ .nil false (tk 2 :: rest) rest o c ho (by simp) (.inl (close_is (.inr rfl) rest _ _))
      rw [Fo.app_nil] at this
      exact Tries.mono this (by simp only [dep]; omega) (by simp [Fo.size])
    | true =>
      obtain ⟨hl, _, h3⟩ := hd rfl
      cases r with
      | nil =>
        have hm2 : m = 2 := hm.resolve_left (fun e => by have := h3 e; simp [Fo.len] at this)
        subst hm2
        have hk : ¬ k = 5 := hl
        show Tries (rdf 2 (tk 4 :: ((oneK k n t s d (textsK s) ++ kidsK true []) ++ tk 2 :: rest)) o c) _ _ _
        rw [rdf_lst (by omega)]
        unfold lst
        rw [if_neg (by omega), if_neg (by decide), if_pos (show (tk 4).kind = 4 from rfl), if_neg (by omega)]
        have e0 : (oneK k n t s d (textsK s) ++ kidsK true []) ++ tk 2 :: rest = oneK k n t s d (textsK s) ++ tk 2 :: rest := by simp [kidsK]
        rw [e0]
        rcases h1 o c (tk 2 :: rest) ho with h | ⟨p, h, h'⟩ | ⟨p, h, h'⟩
        · rw [h]
          refine .inl ?_
          simp only [Res.tail, if_pos (show (tk 2).kind = 2 from rfl), tailOf, if_neg hk, Fo.size]
          congr 1
        · rw [h]; exact .inr (.inl ⟨p, rfl, by omega⟩)
        · rw [h]; exact .inr (.inr ⟨p, rfl, by simp only [Fo.size]; omega⟩)
      | cons k' n' t' s' d' r' =>
        have e0 : kidsK true (textsK (.cons k n t s d (.cons k' n' t' s' d' r'))) ++ tk 2 :: rest = oneK k n t s d (textsK s) ++ (kidsK true (textsK (.cons k' n' t' s' d' r')) ++ tk 2 :: rest) := by
          simp [kidsK, textsK]
        rw [e0, lst_more hm]
        refine more_tries h1 ho ?_
        exact row_tries true (.inr rfl) (.cons k' n' t' s' d' r') h2 k o (c + s.size + 1) rest ho (fun _ => ⟨hl, by simp [Fo.len], fun e => absurd e (by decide)⟩)

theorem each : ∀ (f : Fo), allD f = true → Each f
  | .nil, _ => trivial
  | .cons k n t s d r, h => by
    simp only [allD, Bool.and_eq_true] at h
    obtain ⟨hi, hs, hr⟩ := h
    have ihs := each s hs
    refine ⟨?_, each r hr⟩
    intro o c rest ho
    have leaf : ∀ (a : Tok), a.kind = k + 4 → k ≠ 5 → 1 ≤ k → k ≤ 4 → leafOf a = .cons k n t s d .nil → s = .nil → Tries (rdf 0 (a :: rest) o c) (.ok (.cons k n t s d .nil) false rest (c + s.size + 1)) (dep o (.cons k n t s d .nil)) (c + s.size + 1) := by
      intro a ha h5 hk1 hk4 hl hsn
      rw [rdf_one]
      unfold one
      have hlf : isLeaf a.kind = true := by
        rw [ha]; simp only [isLeaf, Bool.or_eq_true, beq_iff_eq]; omega
      rw [if_neg (by omega), if_neg (by omega), if_pos hlf, hl]
      have hz : s.size = 0 := by rw [hsn]; rfl
      split
      · exact .inr (.inr ⟨_, rfl, by omega⟩)
      · refine .inl ?_
        rw [hz]
    rcases isDat_kind hi with rfl | rfl | rfl | rfl | rfl
    · obtain ⟨_, rfl, rfl, rfl⟩ := isDat_num hi
      exact leaf ⟨5, [], n, 0⟩ rfl (by decide) (by decide) (by decide) rfl rfl
    · obtain ⟨_, rfl, rfl, rfl⟩ := isDat_sym hi
      exact leaf ⟨6, t, 0, 0⟩ rfl (by decide) (by decide) (by decide) rfl rfl
    · obtain ⟨rfl, rfl, rfl, rfl⟩ := isDat_lf (.inl rfl) hi
      exact leaf (tk 7) rfl (by decide) (by decide) (by decide) rfl rfl
    · obtain ⟨rfl, rfl, rfl, rfl⟩ := isDat_lf (.inr rfl) hi
      exact leaf (tk 8) rfl (by decide) (by decide) (by decide) rfl rfl
    · obtain ⟨rfl, rfl, hT⟩ := isDat_list hi
      have hdep : dep o (.cons 5 0 [] s d .nil) = max (o + 1) (dep (o + 1) s) := by simp [dep]
      rw [hdep]
      simp only [oneK, show ¬ (5 : Int) = 1 by decide, show ¬ (5 : Int) = 2 by decide, show ¬ (5 : Int) = 3 by decide, show ¬ (5 : Int) = 4 by decide, if_false]
      by_cases hq : isQ s d = true
      · rw [if_pos hq]
        obtain ⟨rfl, k1, n1, t1, s1, d1, rfl⟩ := isQ_spec hq
        obtain ⟨_, hx, _⟩ := ihs
        show Tries (rdf 0 (tk 3 :: (oneK k1 n1 t1 s1 d1 (textsK s1) ++ rest)) o c) _ _ _
        rw [rdf_one]
        unfold one
        rw [if_neg (by decide), if_pos (show (tk 3).kind = 3 from rfl)]
        have hz : (Fo.cons 2 0 quoteB .nil false (.cons k1 n1 t1 s1 d1 .nil)).size = s1.size + 2 := by simp only [Fo.size]; omega
        have hdx : dep (o + 1) (Fo.cons 2 0 quoteB .nil false (.cons k1 n1 t1 s1 d1 .nil)) = dep (o + 1) (.cons k1 n1 t1 s1 d1 .nil) := by rw [dep_cons]; simp [dep]
        rw [hz, hdx]
        by_cases ho1 : o = 100
        · rw [if_pos ho1]; exact .inr (.inl ⟨_, rfl, by omega⟩)
        rw [if_neg ho1]
        by_cases hc : 10000 < c + 2
        · rw [if_pos hc]; exact .inr (.inr ⟨_, rfl, by omega⟩)
        rw [if_neg hc]
        rcases hx (o + 1) (c + 2) rest (by omega) with h | ⟨p, h, h'⟩ | ⟨p, h, h'⟩
        · rw [h]
          refine .inl ?_
          simp only [Res.quote]
          rw [show c + 2 + s1.size + 1 = c + (s1.size + 2) + 1 by omega]
          rfl
        · rw [h]; exact .inr (.inl ⟨p, rfl, by omega⟩)
        · rw [h]; exact .inr (.inr ⟨p, rfl, by omega⟩)
      · rw [if_neg hq]
        show Tries (rdf 0 (tk 1 :: (kidsK d (textsK s) ++ [tk 2] ++ rest)) o c) _ _ _
        rw [rdf_one]
        unfold one
        rw [if_pos (show (tk 1).kind = 1 from rfl)]
        by_cases ho1 : o = 100
        · rw [if_pos ho1]; exact .inr (.inl ⟨_, rfl, by omega⟩)
        rw [if_neg ho1]
        by_cases hc : 10000 < c + 1
        · rw [if_pos hc]; exact .inr (.inr ⟨_, rfl, by omega⟩)
        rw [if_neg hc]
        have hcond : d = true → lastK 0 s ≠ 5 ∧ 1 ≤ s.len ∧ ((1 : Nat) = 1 → 2 ≤ s.len) := by
          intro hd
          have := hT hd
          simp only [hasT, Bool.and_eq_true, decide_eq_true_eq, bne_iff_ne] at this
          exact ⟨this.2, by omega, fun _ => this.1⟩
        rw [List.append_assoc]
        rcases row_tries d (.inl rfl) s ihs 0 (o + 1) (c + 1) rest (by omega) hcond with h | ⟨p, h, h'⟩ | ⟨p, h, h'⟩
        · show Tries (Res.list (rdf 1 (kidsK d (textsK s) ++ tk 2 :: rest) (o + 1) (c + 1))) _ _ _
          rw [h]
          refine .inl ?_
          simp only [Res.list]
          rw [show c + 1 + s.size = c + s.size + 1 by omega]
        · show Tries (Res.list (rdf 1 (kidsK d (textsK s) ++ tk 2 :: rest) (o + 1) (c + 1))) _ _ _
          rw [h]; exact .inr (.inl ⟨p, rfl, by omega⟩)
        · show Tries (Res.list (rdf 1 (kidsK d (textsK s) ++ tk 2 :: rest) (o + 1) (c + 1))) _ _ _
          rw [h]; exact .inr (.inr ⟨p, rfl, by omega⟩)

/-! From tokens to what Read tells. -/
theorem read_lx {l : List UInt8} {ks : List Tok} (hl : l.length ≤ 65536) (h : lx l = z0 ks) :
    ∃ X : Res, X.bare = rdf 3 ks 0 0 ∧ readOf l = (match X with | .ok f _ _ _ => (f, 0, 0) | .bad e p => (.nil, e, p)) := by
  have h1 : (items l).map bareI = z0 ks := by rw [items_sc l hl, lx_sc, h]
  have hf : fine (items l) := by
    intro x hx
    have : bareI x ∈ z0 ks := by rw [← h1]; exact List.mem_map_of_mem hx
    simp only [z0, List.mem_map] at this
    obtain ⟨t, _, e⟩ := this
    have := congrArg Prod.snd e
    exact this.symm
  have hk : ((items l).map Prod.fst).map bare = ks := by
    have := congrArg (List.map Prod.fst) h1
    simp only [z0, List.map_map] at this ⊢
    have e2 : ks.map (Prod.fst ∘ fun t : Tok => (t, (0 : Int))) = ks := by
      rw [show (Prod.fst ∘ fun t : Tok => (t, (0 : Int))) = id from rfl, List.map_id]
    rw [e2] at this
    exact this
  refine ⟨rdf 3 ((items l).map Prod.fst) 0 0, ?_, readOf_fine hf⟩
  rw [← rdf_bare, hk]
theorem read_ok {l : List UInt8} {ks : List Tok} {f : Fo} {d : Bool} {r : List Tok} {c : Nat} (hl : l.length ≤ 65536) (h : lx l = z0 ks) (hr : rdf 3 ks 0 0 = .ok f d r c) : readOf l = (f, 0, 0) := by
  obtain ⟨X, hX, hR⟩ := read_lx hl h
  rw [hr] at hX
  cases X with
  | bad e p => cases hX
  | ok f' d' r' c' => cases hX; exact hR
theorem read_bad {l : List UInt8} {ks : List Tok} {e p : Int} (hl : l.length ≤ 65536) (h : lx l = z0 ks) (hr : rdf 3 ks 0 0 = .bad e p) : ∃ p', readOf l = (.nil, e, p') := by
  obtain ⟨X, hX, hR⟩ := read_lx hl h
  rw [hr] at hX
  cases X with
  | bad e' p' => cases hX; exact ⟨p', hR⟩
  | ok f' d' r' c' => cases hX

/-- THERE AND BACK. -/
theorem write_read {f : Fo} (h : chk f = 0) (hl : (linesT (textsT f)).length ≤ 65536) : readOf (linesT (textsT f)) = (f, 0, 0) := by
  obtain ⟨h1, h2, h3⟩ := chk_zero.1 h
  have hc := lines_cut (cuts f h1) [] stop_nil
  rw [List.append_nil, lx_nil] at hc
  have hk : lx (linesT (textsT f)) = z0 ((textsK f).flatten ++ [tk 9]) := by rw [hc, z0_app]; rfl
  have := all_then f (each f h1) .nil false [tk 9] [] 0 0 (by omega) (.inl (end_is [] _ _))
  rw [Fo.app_nil] at this
  rcases this with h | ⟨p, h, h'⟩ | ⟨p, h, h'⟩
  · exact read_ok hl hk h
  · simp only [dep] at h'; omega
  · simp only [Fo.size] at h'; omega
end Go.Proofs.YtkgnigloboajcabGreatDoor
