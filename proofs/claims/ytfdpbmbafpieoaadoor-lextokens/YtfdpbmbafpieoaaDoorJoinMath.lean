/- The tokens of a source, without fuel; two sources with a new line between. -/
import Derived.Test.YtfdpbmbafpieoaaDoorScanMath
namespace Go.Proofs.YtfdpbmbafpieoaaDoor

def sc (N : Nat) (l : List UInt8) : List (Tok × Int) := scan N (l.length + 1) l

theorem scan_fuel (N : Nat) : ∀ (f g : Nat) (l : List UInt8), l.length < f → l.length < g → scan N f l = scan N g l := by
  intro f
  induction f with
  | zero => intro g l h; omega
  | succ f ih =>
    intro g l h h'
    cases g with
    | zero => omega
    | succ g =>
      rw [scan_ne, scan_ne]
      cases hl : last l
      · have := nx0_lt l hl
        rw [ih g (nx0 l) (by omega) (by omega)]
      · rfl

theorem sc_eq (N : Nat) (l : List UInt8) : sc N l = (at0 N l, er0 l) :: (if last l then [] else sc N (nx0 l)) := by
  unfold sc
  rw [scan_ne]
  cases hl : last l
  · have := nx0_lt l hl
    rw [scan_fuel N l.length ((nx0 l).length + 1) (nx0 l) (by omega) (by omega)]
  · rfl

theorem items_sc (l : List UInt8) (h : l.length ≤ 65536) : items l = sc l.length l := by
  unfold items sc; rw [if_neg (by omega)]

theorem leave_join (t : List UInt8) (l : List UInt8) : ∀ c, leave c (l ++ 10 :: t) = if leave c l = [] then leave false t else leave c l ++ 10 :: t := by
  induction l with
  | nil => intro c; cases c <;> simp [leave, isB, isBI]
  | cons b r ih =>
    intro c
    cases c
    · simp only [List.cons_append, leave]
      split
      · exact ih false
      · split
        · exact ih true
        · simp
    · simp only [List.cons_append, leave]
      split
      · exact ih false
      · exact ih true

theorem take_join (t l : List UInt8) : (l ++ 10 :: t).takeWhile isW = l.takeWhile isW := by
  induction l with
  | nil => simp [isW, isWI]
  | cons b r ih => simp only [List.cons_append, List.takeWhile_cons]; split <;> simp [ih]

theorem begT_join (t l : List UInt8) (h : l ≠ []) : begT (l ++ 10 :: t) = begT l := by
  cases l with
  | nil => exact absurd rfl h
  | cons b r =>
    have := take_join t (b :: r)
    rw [List.cons_append] at this
    simp only [List.cons_append, begT, this]
theorem begS_join (t l : List UInt8) (h : l ≠ []) : begS (l ++ 10 :: t) = begS l := by
  cases l with
  | nil => exact absurd rfl h
  | cons b r =>
    have := take_join t (b :: r)
    rw [List.cons_append] at this
    simp only [List.cons_append, begS, this]
theorem begE_join (t l : List UInt8) (h : l ≠ []) : begE (l ++ 10 :: t) = begE l := by
  cases l with
  | nil => exact absurd rfl h
  | cons b r =>
    have := take_join t (b :: r)
    rw [List.cons_append] at this
    simp only [List.cons_append, begE, this]

/-- Where the first source has nothing left, the second one goes on. -/
theorem sc_over (N : Nat) (l t : List UInt8) (h : leave false l = []) : sc N (l ++ 10 :: t) = sc N t := by
  have hl : leave false (l ++ 10 :: t) = leave false t := by rw [leave_join, if_pos h]
  rw [sc_eq, sc_eq N t]
  have h1 : at0 N (l ++ 10 :: t) = at0 N t := by unfold at0; rw [hl]
  have h2 : er0 (l ++ 10 :: t) = er0 t := by unfold er0; rw [hl]
  have h3 : last (l ++ 10 :: t) = last t := by unfold last er0; rw [hl]
  have h4 : nx0 (l ++ 10 :: t) = nx0 t := by unfold nx0; rw [hl]
  rw [h1, h2, h3, h4]

theorem put_pos (t : Tok) (a b : Int) (h : a = b) : put t a = put t b := by rw [h]

/-- One step within the first source. -/
theorem sc_within (S : Nat) (l t : List UInt8) (h : leave false l ≠ []) :
    at0 (S + 1 + t.length) (l ++ 10 :: t) = at0 S l ∧ er0 (l ++ 10 :: t) = er0 l ∧ last (l ++ 10 :: t) = last l ∧ (er0 l = 0 → nx0 (l ++ 10 :: t) = nx0 l ++ 10 :: t) := by
  have hl : leave false (l ++ 10 :: t) = leave false l ++ 10 :: t := by rw [leave_join, if_neg h]
  refine ⟨?_, ?_, ?_, ?_⟩
  · unfold at0; rw [hl, begT_join _ _ h]; apply put_pos; simp; omega
  · unfold er0; rw [hl, begE_join _ _ h]
  · unfold last er0; rw [hl, begE_join _ _ h]
    congr 1
    rw [List.isEmpty_eq_false_iff.2 h, List.isEmpty_eq_false_iff.2 (by simp)]
  · intro _
    unfold nx0; rw [hl, begS_join _ _ h, List.drop_append_of_le_length (begS_le _)]

/-- No error. -/
def fineB (xs : List (Tok × Int)) : Bool := xs.all fun x => x.2 == 0

theorem sc_join (S : Nat) (t : List UInt8) : ∀ (n : Nat) (l : List UInt8), l.length ≤ n →
    sc (S + 1 + t.length) (l ++ 10 :: t) = if fineB (sc S l) then (sc S l).dropLast ++ sc (S + 1 + t.length) t else sc S l := by
  intro n
  induction n with
  | zero =>
    intro l hn
    have : l = [] := List.length_eq_zero_iff.1 (by omega)
    subst this
    rw [sc_over _ _ _ (by simp [leave])]
    have : sc S [] = [(at0 S [], 0)] := by rw [sc_eq]; simp [last, er0, leave, begE]
    rw [this]; simp [fineB]
  | succ n ih =>
    intro l hn
    by_cases h : leave false l = []
    · rw [sc_over _ _ _ h]
      have : sc S l = [(at0 S l, 0)] := by rw [sc_eq]; simp [last, er0, h, begE]
      rw [this]; simp [fineB]
    · obtain ⟨h1, h2, h3, h4⟩ := sc_within S l t h
      rw [sc_eq, sc_eq S l, h1, h2, h3]
      cases hl : last l
      · have he : er0 l = 0 := by simp [last] at hl; exact hl.1
        rw [h4 he, ih (nx0 l) (by have := nx0_lt l hl; omega)]
        have hne : sc S (nx0 l) ≠ [] := by rw [sc_eq]; simp
        simp only [Bool.false_eq_true, if_false]
        have hf : fineB ((at0 S l, er0 l) :: sc S (nx0 l)) = fineB (sc S (nx0 l)) := by simp [fineB, he]
        rw [hf]
        cases fineB (sc S (nx0 l))
        · simp
        · simp [List.dropLast_cons_of_ne_nil hne]
      · have he : ¬ er0 l = 0 := by
          intro e; simp [last, e, h] at hl
        simp [fineB, he]

/-- Places lie within the source. -/
theorem sc_pos (N : Nat) : ∀ (n : Nat) (l : List UInt8), l.length ≤ n → l.length ≤ N → ∀ x ∈ sc N l, 0 ≤ x.1.pos ∧ x.1.pos ≤ N := by
  intro n
  induction n with
  | zero =>
    intro l hn _ x hx
    have : l = [] := List.length_eq_zero_iff.1 (by omega)
    subst this
    rw [sc_eq] at hx
    simp [last, er0, leave, begE, at0, put] at hx
    rw [hx]; simp
  | succ n ih =>
    intro l hn hN x hx
    rw [sc_eq] at hx
    have hle := leave_le false l
    rcases List.mem_cons.1 hx with rfl | hx
    · simp only [at0, put]; omega
    · cases hl : last l
      · rw [hl] at hx
        have := nx0_lt l hl
        exact ih (nx0 l) (by omega) (by omega) x (by simpa using hx)
      · rw [hl] at hx; simp at hx
theorem items_pos (l : List UInt8) (x : Tok × Int) (hx : x ∈ items l) : 0 ≤ x.1.pos ∧ x.1.pos ≤ 65536 := by
  by_cases h : 65536 < l.length
  · unfold items at hx; rw [if_pos h] at hx
    simp at hx; rw [hx]; simp [tk]
  · rw [items_sc l (by omega)] at hx
    have := sc_pos l.length l.length l (Nat.le_refl _) (Nat.le_refl _) x hx
    omega

/-- Places moved on. -/
def shift (k : Int) (x : Tok × Int) : Tok × Int := (put x.1 (x.1.pos + k), x.2)
theorem sc_shift (S k : Nat) : ∀ (n : Nat) (l : List UInt8), l.length ≤ n → sc (S + k) l = (sc S l).map (shift k) := by
  intro n
  induction n with
  | zero =>
    intro l hn
    have : l = [] := List.length_eq_zero_iff.1 (by omega)
    subst this
    rw [sc_eq, sc_eq S]
    simp [last, er0, leave, begE, at0, shift, put]
  | succ n ih =>
    intro l hn
    rw [sc_eq, sc_eq S]
    have ha : (at0 (S + k) l, er0 l) = shift k (at0 S l, er0 l) := by
      simp only [shift, at0, put, Prod.mk.injEq, and_true, Tok.mk.injEq, true_and]; omega
    cases hl : last l
    · simp only [Bool.false_eq_true, if_false, List.map_cons]
      rw [ha, ih (nx0 l) (by have := nx0_lt l hl; omega)]
    · simp [ha]
theorem fineB_shift (k : Int) (xs : List (Tok × Int)) : fineB (xs.map (shift k)) = fineB xs := by simp [fineB, List.all_map]; rfl
end Go.Proofs.YtfdpbmbafpieoaaDoor
