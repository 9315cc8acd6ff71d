/- Where the tokens of a source stand: its stations; a token's bytes by themselves. -/
import Derived.Test.YtlpdfifjdlfpdaaGreatDoorGB
namespace Go.Proofs.YtlpdfifjdlfpdaaGreatDoor

/-- What is left of a source at each token. -/
def ss : Nat → List UInt8 → List (List UInt8)
  | 0, _ => []
  | f + 1, l => leave false l :: (if last l then [] else ss f (nx0 l))
def ssc (l : List UInt8) : List (List UInt8) := ss (l.length + 1) l
theorem ss_ne (f : Nat) (l : List UInt8) : ss (f + 1) l = leave false l :: (if last l then [] else ss f (nx0 l)) := rfl
theorem ss_fuel : ∀ (f g : Nat) (l : List UInt8), l.length < f → l.length < g → ss f l = ss g l := by
  intro f
  induction f with
  | zero => intro g l h; omega
  | succ f ih =>
    intro g l h h'
    cases g with
    | zero => omega
    | succ g =>
      rw [ss_ne, ss_ne]
      cases hl : last l
      · have := nx0_lt l hl
        rw [ih g (nx0 l) (by omega) (by omega)]
      · rfl
theorem ssc_eq (l : List UInt8) : ssc l = leave false l :: (if last l then [] else ssc (nx0 l)) := by
  unfold ssc
  rw [ss_ne]
  cases hl : last l
  · have := nx0_lt l hl
    rw [ss_fuel l.length ((nx0 l).length + 1) (nx0 l) (by omega) (by omega)]
  · rfl

/-- The token of a station. -/
def tokAt (N : Nat) (a : List UInt8) : Tok × Int := (put (begT a) ((N : Int) - a.length), begE a)

theorem sc_map (N : Nat) : ∀ (n : Nat) (l : List UInt8), l.length ≤ n → sc N l = (ssc l).map (tokAt N) := by
  intro n
  induction n with
  | zero =>
    intro l hn
    have : l = [] := List.length_eq_zero_iff.1 (by omega)
    subst this
    rw [sc_eq, ssc_eq]; simp [last, er0, leave, begE, at0, tokAt]
  | succ n ih =>
    intro l hn
    rw [sc_eq, ssc_eq]
    cases hl : last l
    · simp only [Bool.false_eq_true, if_false, List.map_cons]
      rw [ih (nx0 l) (by have := nx0_lt l hl; omega)]
      rfl
    · simp only [if_true, List.map_cons, List.map_nil]; rfl

/-- One station behind the other. -/
def linked : List (List UInt8) → Prop
  | [] => True
  | a :: r => leave false a = a ∧ (match r with | [] => True | b :: _ => a ≠ [] ∧ begE a = 0 ∧ b = leave false (a.drop (begS a))) ∧ linked r

theorem ssc_linked : ∀ (n : Nat) (l : List UInt8), l.length ≤ n → linked (ssc l) := by
  intro n
  induction n with
  | zero =>
    intro l hn
    have : l = [] := List.length_eq_zero_iff.1 (by omega)
    subst this
    rw [ssc_eq]; simp [last, er0, leave, begE, linked]
  | succ n ih =>
    intro l hn
    rw [ssc_eq]
    cases hl : last l
    · have hr := ih (nx0 l) (by have := nx0_lt l hl; omega)
      simp only [Bool.false_eq_true, if_false]
      simp [last, er0] at hl
      rw [ssc_eq] at hr ⊢
      exact ⟨leave_false_idem false l, ⟨hl.2, hl.1, rfl⟩, hr⟩
    · simp only [if_true]
      exact ⟨leave_false_idem false l, trivial, trivial⟩

theorem linked_at : ∀ (L : List (List UInt8)) (i : Nat) (a : List UInt8), linked L → L[i]? = some a → leave false a = a ∧ (∀ b, L[i + 1]? = some b → a ≠ [] ∧ begE a = 0 ∧ b = leave false (a.drop (begS a)))
  | [], i, a, _, h => by simp at h
  | x :: r, 0, a, hl, h => by
    obtain rfl : x = a := by simpa using h
    refine ⟨hl.1, fun b hb => ?_⟩
    cases r with
    | nil => simp at hb
    | cons y r =>
      obtain rfl : y = b := by simpa using hb
      exact hl.2.1
  | x :: r, i + 1, a, hl, h => by
    have := linked_at r i a hl.2.2 (by simpa using h)
    refine ⟨this.1, fun b hb => this.2 b (by simpa using hb)⟩

/-- How a going through ends: with an error, or where nothing is left. -/
theorem ssc_ends : ∀ (n : Nat) (l : List UInt8), l.length ≤ n → ∃ q a, ssc l = q ++ [a] ∧ (a = [] ∨ ¬ begE a = 0) ∧ ∀ x ∈ q, x ≠ [] ∧ begE x = 0 := by
  intro n
  induction n with
  | zero =>
    intro l hn
    have : l = [] := List.length_eq_zero_iff.1 (by omega)
    subst this
    exact ⟨[], [], by rw [ssc_eq]; simp [last, er0, leave, begE], .inl rfl, by simp⟩
  | succ n ih =>
    intro l hn
    rw [ssc_eq]
    cases hl : last l
    · obtain ⟨q, a, h1, h2, h3⟩ := ih (nx0 l) (by have := nx0_lt l hl; omega)
      simp [last, er0] at hl
      refine ⟨leave false l :: q, a, by simp [h1], h2, ?_⟩
      intro x hx
      rcases List.mem_cons.1 hx with rfl | hx
      · exact ⟨hl.2, hl.1⟩
      · exact h3 x hx
    · refine ⟨[], leave false l, by simp, ?_, by simp⟩
      simp [last, er0] at hl
      exact hl.symm

/-- A station is what is left of the source from some place on. -/
theorem ssc_suffix : ∀ (n : Nat) (l : List UInt8), l.length ≤ n → ∀ a ∈ ssc l, a <:+ l := by
  intro n
  induction n with
  | zero =>
    intro l hn a ha
    have : l = [] := List.length_eq_zero_iff.1 (by omega)
    subst this
    rw [ssc_eq] at ha
    simp [last, er0, leave, begE] at ha
    rw [ha]; exact List.suffix_refl _
  | succ n ih =>
    intro l hn a ha
    rw [ssc_eq] at ha
    have hs : leave false l <:+ l := by rw [leave_drop false l]; exact List.drop_suffix _ _
    rcases List.mem_cons.1 ha with rfl | ha
    · exact hs
    · cases hl : last l
      · rw [hl] at ha
        have := nx0_lt l hl
        have h1 := ih (nx0 l) (by omega) a (by simpa using ha)
        exact (h1.trans (List.drop_suffix _ _)).trans hs
      · rw [hl] at ha; simp at ha
theorem suffix_drop {a l : List UInt8} (h : a <:+ l) : a = l.drop (l.length - a.length) := by
  obtain ⟨t, rfl⟩ := h
  simp

/-- A token's bytes. -/
def part (a : List UInt8) : List UInt8 := a.take (begS a)

theorem take_while_take (l : List UInt8) : l.take (l.takeWhile isW).length = l.takeWhile isW := by
  conv => lhs; arg 2; rw [← List.takeWhile_append_dropWhile (p := isW) (l := l)]
  rw [List.take_left']; rfl
theorem takeWhile_idem (l : List UInt8) : (l.takeWhile isW).takeWhile isW = l.takeWhile isW := by
  induction l with
  | nil => rfl
  | cons b r ih => simp only [List.takeWhile_cons]; split <;> rename_i h <;> simp [h, ih]

theorem leave_fix (c : UInt8) (r : List UInt8) (h : leave false (c :: r) = c :: r) : isB c = false ∧ ¬ c.toNat = 59 := by
  cases hb : isB c
  · refine ⟨rfl, fun e => ?_⟩
    simp only [leave, hb] at h
    rw [if_neg (by simp), if_pos e] at h
    have := leave_le true r; rw [h] at this; simp only [List.length_cons] at this; omega
  · exfalso
    simp only [leave, hb, if_true] at h
    have := leave_le false r; rw [h] at this; simp only [List.length_cons] at this; omega
theorem leave_fix' (c : UInt8) (r : List UInt8) (hb : isB c = false) (h : ¬ c.toNat = 59) : leave false (c :: r) = c :: r := by
  simp only [leave, hb]; rw [if_neg (by simp), if_neg h]

theorem part_beg (a : List UInt8) (hne : a ≠ []) (hf : leave false a = a) (he : begE a = 0) (r : List UInt8) (hr : ∀ c, r.head? = some c → isW c = false) :
    part a ≠ [] ∧ leave false (part a ++ r) = part a ++ r ∧ begT (part a ++ r) = begT a ∧ begE (part a ++ r) = 0 ∧ begS (part a ++ r) = (part a).length ∧ (part a).length = begS a := by
  have hlen : (part a).length = begS a := by unfold part; rw [List.length_take]; have := begS_le a; omega
  have hpos := begS_pos a hne he
  cases a with
  | nil => exact absurd rfl hne
  | cons c t =>
    obtain ⟨hb, h59⟩ := leave_fix c t hf
    have htw : ∀ (w : List UInt8), w.all isW = true → (w ++ r).takeWhile isW = w := by
      intro w hw
      induction w with
      | nil =>
        cases r with
        | nil => rfl
        | cons d r => simp [hr d rfl]
      | cons d w ih =>
        simp only [List.all_cons, Bool.and_eq_true] at hw
        simp [hw.1, ih hw.2]
    by_cases h40 : c.toNat = 40
    · have hp : part (c :: t) = [c] := by simp [part, begS, h40]
      rw [hp, hlen.symm, hp]
      exact ⟨by simp, leave_fix' c _ hb h59, by simp [begT, h40], by simp [begE, h40], by simp [begS, h40], rfl⟩
    by_cases h41 : c.toNat = 41
    · have hp : part (c :: t) = [c] := by simp [part, begS, h41]
      rw [hp, hlen.symm, hp]
      exact ⟨by simp, leave_fix' c _ hb h59, by simp [begT, h41], by simp [begE, h41], by simp [begS, h41], rfl⟩
    by_cases h39 : c.toNat = 39
    · have hp : part (c :: t) = [c] := by simp [part, begS, h39]
      rw [hp, hlen.symm, hp]
      exact ⟨by simp, leave_fix' c _ hb h59, by simp [begT, h39], by simp [begE, h39], by simp [begS, h39], rfl⟩
    cases hw : isW c
    · simp [begE, h40, h41, h39, hw] at he
    · have hs : begS (c :: t) = ((c :: t).takeWhile isW).length := by simp only [begS]; rw [if_neg h40, if_neg h41, if_neg h39, if_pos hw]
      have hp : part (c :: t) = (c :: t).takeWhile isW := by unfold part; rw [hs, take_while_take]
      have hall : ((c :: t).takeWhile isW).all isW = true := List.all_takeWhile
      have h2 := htw _ hall
      have hc : (c :: t).takeWhile isW = c :: t.takeWhile isW := by simp [hw]
      have hE : begE (c :: t) = wordE ((c :: t).takeWhile isW) := by simp only [begE]; rw [if_neg h40, if_neg h41, if_neg h39, if_pos hw]
      have hT : begT (c :: t) = word ((c :: t).takeWhile isW) := by simp only [begT]; rw [if_neg h40, if_neg h41, if_neg h39, if_pos hw]
      rw [hp, ← hlen, hp]
      refine ⟨by rw [hc]; simp, ?_, ?_, ?_, ?_, rfl⟩
      · rw [hc]; exact leave_fix' c _ hb h59
      · rw [hT]; rw [hc] at h2 ⊢; rw [List.cons_append] at h2 ⊢; simp only [begT]; rw [if_neg h40, if_neg h41, if_neg h39, if_pos hw, h2]
      · rw [← he, hE]; rw [hc] at h2 ⊢; rw [List.cons_append] at h2 ⊢; simp only [begE]; rw [if_neg h40, if_neg h41, if_neg h39, if_pos hw, h2]
      · rw [hc] at h2 ⊢; rw [List.cons_append] at h2 ⊢; simp only [begS]; rw [if_neg h40, if_neg h41, if_neg h39, if_pos hw, h2]

/-- A token's bytes by themselves are that token, and the end. -/
theorem part_sc (a : List UInt8) (hne : a ≠ []) (hf : leave false a = a) (he : begE a = 0) :
    sc (part a).length (part a) = [(put (begT a) 0, 0), (⟨9, [], 0, (part a).length⟩, 0)] := by
  obtain ⟨h1, h2, h3, h4, h5, h6⟩ := part_beg a hne hf he [] (by simp)
  rw [List.append_nil] at h2 h3 h4 h5
  have hl : last (part a) = false := by simp [last, er0, h2, h4, h1]
  have hn : nx0 (part a) = [] := by unfold nx0; rw [h2, h5, List.drop_length]
  rw [sc_eq, hl, hn]
  simp only [Bool.false_eq_true, if_false]
  have ha : at0 (part a).length (part a) = put (begT a) 0 := by unfold at0; rw [h2, h3]; apply put_pos; omega
  rw [ha, show er0 (part a) = 0 from by unfold er0; rw [h2, h4], sc_eq]
  simp [last, er0, leave, begE, at0, begT, put, tk]

/-- Behind a word: nothing, a blank, a comment, or the next token. -/
theorem part_stop (a : List UInt8) (hw : ∀ c, a.head? = some c → isW c = true) (hne : a ≠ []) : ∀ c r, a.drop (begS a) = c :: r → isW c = false := by
  intro c r h
  cases a with
  | nil => exact absurd rfl hne
  | cons b t =>
    have hb := hw b rfl
    simp [isW, isWI] at hb
    have hs : begS (b :: t) = ((b :: t).takeWhile isW).length := by
      simp only [begS]; rw [if_neg (by omega), if_neg (by omega), if_neg (by omega), if_pos (hw b rfl)]
    rw [hs] at h
    have hd : (b :: t).drop ((b :: t).takeWhile isW).length = (b :: t).dropWhile isW := by
      conv => lhs; arg 2; rw [← List.takeWhile_append_dropWhile (p := isW) (l := b :: t)]
      rw [List.drop_left']; rfl
    rw [hd] at h
    have := List.head?_dropWhile_not isW (b :: t)
    rw [h] at this
    simpa using this
theorem part_all (a : List UInt8) (hw : ∀ c, a.head? = some c → isW c = true) (k : Nat) (hk : k < begS a) : ∀ c, a[k]? = some c → isW c = true := by
  intro c hc
  cases a with
  | nil => simp at hc
  | cons b t =>
    have hb := hw b rfl
    simp [isW, isWI] at hb
    have hs : begS (b :: t) = ((b :: t).takeWhile isW).length := by
      simp only [begS]; rw [if_neg (by omega), if_neg (by omega), if_neg (by omega), if_pos (hw b rfl)]
    rw [hs] at hk
    have h1 : ((b :: t).takeWhile isW)[k]? = some c := by
      rw [← take_while_take, List.getElem?_take_of_lt hk]; exact hc
    have hall : ((b :: t).takeWhile isW).all isW = true := List.all_takeWhile
    exact List.all_eq_true.1 hall c (List.mem_of_getElem? h1)
/-- Where no word begins the token is one byte. -/
theorem part_one (a : List UInt8) (hne : a ≠ []) (he : begE a = 0) : ((begT a).kind = 1 ∨ (begT a).kind = 2 ∨ (begT a).kind = 3) ∧ begS a = 1 ∨ (¬ ((begT a).kind = 1 ∨ (begT a).kind = 2 ∨ (begT a).kind = 3) ∧ ∀ c, a.head? = some c → isW c = true) := by
  cases a with
  | nil => exact absurd rfl hne
  | cons b t =>
    simp only [begT, begS, begE] at *
    split; · exact .inl ⟨.inl rfl, rfl⟩
    split; · exact .inl ⟨.inr (.inl rfl), rfl⟩
    split; · exact .inl ⟨.inr (.inr rfl), rfl⟩
    split
    · rename_i h
      refine .inr ⟨?_, fun c hc => by simp at hc; rw [← hc]; exact h⟩
      unfold word
      split; · decide
      split; · decide
      split; · decide
      split
      · split <;> simp [tk]
      · split <;> simp [tk]
    · rename_i h1 h2 h3 h4
      simp [h1, h2, h3, h4] at he

/-- .. and IsSymbol takes a symbol's bytes alone. -/
theorem part_len (a : List UInt8) (hne : a ≠ []) (he : begE a = 0) : 1 ≤ (part a).length ∧ (part a).length ≤ a.length := by
  have := begS_pos a hne he; have := begS_le a; unfold part; rw [List.length_take]; omega
theorem word_text (l : List UInt8) (h : (word l).kind = 6) : (word l).text = l := by
  unfold word at *
  split at h; · simp [tk] at h
  split at h; · simp [tk] at h
  split at h; · simp [tk] at h
  split at h
  · split at h <;> simp [tk] at h
  · split at h
    · simp [tk] at h
    · rename_i h1 h2 h3 h4 h5
      rw [if_neg h1, if_neg h2, if_neg h3, if_neg h4, if_neg h5]
theorem part_text (a : List UInt8) (h : (begT a).kind = 6) : (begT a).text = part a := by
  cases a with
  | nil => simp [begT, tk] at h
  | cons c t =>
    unfold part
    simp only [begT, begS] at *
    split at h; · simp [tk] at h
    split at h; · simp [tk] at h
    split at h; · simp [tk] at h
    split at h
    · rename_i h1 h2 h3 h4
      rw [if_neg h1, if_neg h2, if_neg h3, if_pos h4, if_neg h1, if_neg h2, if_neg h3, if_pos h4, take_while_take, word_text _ h]
    · simp [tk] at h
end Go.Proofs.YtlpdfifjdlfpdaaGreatDoor
