/- Reading the text of code: plain mathematics, no program in it.; The text of code that may be is read as that code: plain mathematics. -/
import Derived.Test.YtpkohocjgnodnaaGreatDoorGAI
import Derived.Lib.Strings
/- Reading the text of code: plain mathematics, no program in it. -/
namespace Go.Proofs.YtpkohocjgnodnaaGreatDoor

/-- What digits say that stand as they are written. -/
def numV (d : List UInt8) : Option Int := match Lib.parseIntB 64 d with
  | .ok v => if Lib.itoa v = d then some v else none
  | _ => none
def countV (d : List UInt8) : Option Int := match numV d with
  | some n => if 0 ≤ n ∧ n ≤ 2147483647 then some n else none
  | none => none
/-- A text cut at its first blank. -/
def cut1 (t : List UInt8) : List UInt8 := t.takeWhile (· != 32)
def cut2 (t : List UInt8) : List UInt8 := (t.dropWhile (· != 32)).drop 1
def cutH (t : List UInt8) : Bool := t.contains 32
def wordN (tag n : Int) : Option Int := if mkE tag n = 0 then some (mkW tag n) else none
def wordV (tag : Int) (d : List UInt8) (has : Bool) : Option Int := if has = true then (match numV d with | some n => wordN tag n | none => none) else wordN tag 0
def constFrom (name d : List UInt8) (has : Bool) : Nat → Nat → Option Int
  | _, 0 => none
  | tag, k + 1 => if tagNames.getD tag [] = name ∧ tagNumB tag = has then wordV tag d has else constFrom name d has (tag + 1) k
def constV (t : List UInt8) : Option Int := constFrom (cut1 t) (cut2 t) (cutH t) 1 7
def insV (op : Int) (d : List UInt8) (has : Bool) : Option Ins := if has = true then (match countV d with | some a => some ⟨op, a⟩ | none => none) else some ⟨op, 0⟩
def instrFrom (name d : List UInt8) (has : Bool) : Nat → Nat → Option Ins
  | _, 0 => none
  | op, k + 1 => if opNames.getD op [] = name ∧ opNumB op = has then insV op d has else instrFrom name d has (op + 1) k
def instrV (t : List UInt8) : Option Ins := instrFrom (cut1 t) (cut2 t) (cutH t) 1 18
def constA : List UInt8 := [99, 111, 110, 115, 116, 32]
def globA : List UInt8 := [103, 108, 111, 98, 97, 108, 32]
def procA : List UInt8 := [112, 114, 111, 99, 32]
def addLast (i : Ins) : List Prc → List Prc
  | [] => []
  | [p] => [⟨p.params, p.code ++ [i]⟩]
  | p :: q :: r => p :: addLast i (q :: r)
def takeC (c : Cd) (t : List UInt8) : Option Cd := match constV t with
  | some x => if c.globals.length = 0 ∧ c.procs.length = 0 then some ⟨c.consts ++ [x], c.procs, c.globals⟩ else none
  | none => none
def takeG (c : Cd) (t : List UInt8) : Option Cd := if c.procs.length = 0 then some ⟨c.consts, c.procs, c.globals ++ [t]⟩ else none
def takeP (c : Cd) (t : List UInt8) : Option Cd := match countV t with
  | some n => some ⟨c.consts, c.procs ++ [⟨n, []⟩], c.globals⟩
  | none => none
def takeI (c : Cd) (t : List UInt8) : Option Cd := match instrV t with
  | some i => if c.procs.length = 0 then none else some ⟨c.consts, addLast i c.procs, c.globals⟩
  | none => none
def takeV (c : Cd) (l : List UInt8) : Option Cd :=
  if Lib.hasPrefix l constA = true then takeC c (l.drop 6)
  else if Lib.hasPrefix l globA = true then takeG c (l.drop 7)
  else if Lib.hasPrefix l procA = true then takeP c (l.drop 5)
  else if Lib.hasPrefix l [32] = true then takeI c (l.drop 1) else none
def line1 (s : List UInt8) : List UInt8 := s.takeWhile (· != 10)
def noCd : Cd := ⟨[], [], []⟩
def parsedF : Nat → List UInt8 → Cd → Int → Cd × Int
  | 0, _, c, _ => (c, 0)
  | k + 1, s, c, n => if s = [] then (c, 0) else if s.contains 10 = true then (match takeV c (line1 s) with | some c' => parsedF k (s.drop ((line1 s).length + 1)) c' (n + 1) | none => (noCd, n)) else (noCd, n)
def parsedV (s : List UInt8) (c : Cd) (n : Int) : Cd × Int := parsedF s.length s c n

theorem parsedF_nil (k : Nat) (c : Cd) (n : Int) : parsedF k [] c n = (c, 0) := by cases k <;> simp [parsedF]
theorem parsedF_more : ∀ (k j : Nat) (s : List UInt8) (c : Cd) (n : Int), s.length ≤ k → s.length ≤ j → parsedF k s c n = parsedF j s c n
  | 0, j, s, c, n, h, _ => by
    have : s = [] := List.length_eq_zero_iff.1 (by omega)
    subst this; rw [parsedF_nil, parsedF_nil]
  | k + 1, 0, s, c, n, _, h => by
    have : s = [] := List.length_eq_zero_iff.1 (by omega)
    subst this; rw [parsedF_nil, parsedF_nil]
  | k + 1, j + 1, s, c, n, h, h' => by
    unfold parsedF
    split
    · rfl
    · rename_i hs
      split
      · split
        · rename_i c' _
          have : (s.drop ((line1 s).length + 1)).length ≤ s.length - 1 := by rw [List.length_drop]; omega
          exact parsedF_more k j _ c' (n + 1) (by omega) (by omega)
        · rfl
      · rfl
theorem parsedV_nil (c : Cd) (n : Int) : parsedV [] c n = (c, 0) := parsedF_nil _ c n
theorem takeWhile_stop {p : UInt8 → Bool} : ∀ (l : List UInt8) (x : UInt8) (r : List UInt8), (∀ y ∈ l, p y = true) → p x = false → (l ++ x :: r).takeWhile p = l ∧ (l ++ x :: r).dropWhile p = x :: r
  | [], x, r, _, h => by simp [h]
  | y :: l, x, r, ha, h => by
    have h1 := ha y (List.mem_cons_self ..)
    obtain ⟨h2, h3⟩ := takeWhile_stop l x r (fun z hz => ha z (List.mem_cons_of_mem _ hz)) h
    simp [h1, h2, h3]
theorem line1_of {l r : List UInt8} (h : (10 : UInt8) ∉ l) : line1 (l ++ 10 :: r) = l :=
  (takeWhile_stop l 10 r (fun y hy => by simp; intro e; subst e; exact h hy) (by rfl)).1
/-- One line more. -/
theorem parsedV_line {l r : List UInt8} {c : Cd} {n : Int} (h : (10 : UInt8) ∉ l) : parsedV (l ++ 10 :: r) c n = match takeV c l with | some c' => parsedV r c' (n + 1) | none => (noCd, n) := by
  unfold parsedV
  obtain ⟨k, hk⟩ : ∃ k, (l ++ 10 :: r).length = k + 1 := ⟨l.length + r.length, by simp; omega⟩
  rw [hk]
  rw [parsedF, if_neg (by simp), if_pos (by simp), line1_of h]
  have hd : (l ++ 10 :: r).drop (l.length + 1) = r := by rw [List.drop_append]; simp [show l.length + 1 - l.length = 1 by omega]
  rw [hd]
  cases takeV c l with
  | none => rfl
  | some c' => exact parsedF_more _ _ _ _ _ (by simp at hk; omega) (Nat.le_refl _)
/-- Text without an end of line. -/
theorem parsedV_open {s : List UInt8} {c : Cd} {n : Int} (h : (10 : UInt8) ∉ s) (hs : s ≠ []) : parsedV s c n = (noCd, n) := by
  unfold parsedV
  obtain ⟨k, hk⟩ : ∃ k, s.length = k + 1 := ⟨s.length - 1, by have := List.length_pos_iff.2 hs; omega⟩
  rw [hk, parsedF, if_neg hs, if_neg (by simpa using h)]
theorem line_split {s : List UInt8} (h : (10 : UInt8) ∈ s) : s = line1 s ++ 10 :: s.drop ((line1 s).length + 1) ∧ (10 : UInt8) ∉ line1 s := by
  induction s with
  | nil => cases h
  | cons b r ih =>
    by_cases hb : b = 10
    · subst hb; simp [line1]
    · have h' : (10 : UInt8) ∈ r := by rcases List.mem_cons.1 h with e | e; exact absurd e.symm hb; exact e
      obtain ⟨h1, h2⟩ := ih h'
      have e : line1 (b :: r) = b :: line1 r := by unfold line1; rw [List.takeWhile_cons, if_pos (by simpa using hb)]
      rw [e]
      refine ⟨?_, ?_⟩
      · show b :: r = b :: (line1 r ++ 10 :: (b :: r).drop ((line1 r).length + 1 + 1))
        rw [List.drop_succ_cons, ← h1]
      · simp; exact ⟨fun e => hb e.symm, h2⟩

/-- Cut at the first blank, and put together again. -/
theorem cut_put (t : List UInt8) : t = if cutH t = true then cut1 t ++ 32 :: cut2 t else cut1 t := by
  unfold cutH cut1 cut2
  induction t with
  | nil => rfl
  | cons b r ih =>
    by_cases hb : b = 32
    · subst hb; simp
    · have e : (b :: r).contains 32 = r.contains 32 := by rw [List.contains_cons]; simp; exact fun h => absurd h.symm hb
      have t1 : (b :: r).takeWhile (· != 32) = b :: r.takeWhile (· != 32) := by rw [List.takeWhile_cons, if_pos (by simpa using hb)]
      have t2 : (b :: r).dropWhile (· != 32) = r.dropWhile (· != 32) := by rw [List.dropWhile_cons, if_pos (by simpa using hb)]
      rw [t1, t2, e]
      by_cases h : r.contains 32 = true
      · rw [if_pos h] at ih ⊢; exact congrArg (b :: ·) ih
      · rw [if_neg h] at ih ⊢; exact congrArg (b :: ·) ih
theorem cut_none {t : List UInt8} (h : (32 : UInt8) ∉ t) : cutH t = false ∧ cut1 t = t ∧ cut2 t = [] := by
  unfold cutH cut1 cut2
  induction t with
  | nil => exact ⟨rfl, rfl, rfl⟩
  | cons b r ih =>
    have hb : b ≠ 32 := fun e => h (by rw [e]; exact List.mem_cons_self ..)
    obtain ⟨h1, h2, h3⟩ := ih (fun e => h (List.mem_cons_of_mem _ e))
    refine ⟨by simpa [hb.symm] using h1, ?_, ?_⟩
    · rw [List.takeWhile_cons, if_pos (by simpa using hb), h2]
    · rw [List.dropWhile_cons, if_pos (by simpa using hb), h3]
theorem cut_some {l r : List UInt8} (h : (32 : UInt8) ∉ l) : cutH (l ++ 32 :: r) = true ∧ cut1 (l ++ 32 :: r) = l ∧ cut2 (l ++ 32 :: r) = r := by
  obtain ⟨h1, h2⟩ := takeWhile_stop (p := (· != 32)) l 32 r (fun y hy => by simp; intro e; subst e; exact h hy) (by rfl)
  exact ⟨by simp [cutH], h1, by unfold cut2; rw [h2]; rfl⟩

theorem numV_is {d : List UInt8} {n : Int} (h : numV d = some n) : Lib.itoa n = d := by
  unfold numV at h
  split at h
  · split at h
    · rename_i e; cases h; exact e
    · cases h
  · cases h
theorem countV_is {d : List UInt8} {n : Int} (h : countV d = some n) : Lib.itoa n = d ∧ 0 ≤ n ∧ n ≤ 2147483647 := by
  unfold countV at h
  split at h
  · rename_i m hm
    split at h
    · rename_i e; cases h; exact ⟨numV_is hm, e⟩
    · cases h
  · cases h
theorem wordN_is {tag n x : Int} (h : wordN tag n = some x) : isTagB tag = true ∧ mayB tag n = true ∧ x = mk tag n := by
  unfold wordN at h
  split at h
  · rename_i e
    cases h
    unfold mkE at e
    split at e
    · rename_i h1
      split at e
      · rename_i h2; exact ⟨h1, h2, by unfold mkW; rw [if_pos h1, if_pos h2]⟩
      · cases e
    · cases e
  · cases h
theorem of_mk {t n : Int} (h : isTagB t = true) (hm : mayB t n = true) : ofT (mk t n) = t ∧ ofN (mk t n) = n := by
  have := isTag_iff.1 h
  unfold ofT ofN
  rw [if_pos (wd_mk h hm), if_pos (wd_mk h hm)]
  exact ⟨tg_mk n (by omega) (by omega), nm_mk (by omega) (by omega) (may_bd hm)⟩
theorem constFrom_is {name d : List UInt8} {has : Bool} {x : Int} : ∀ (k tag : Nat), constFrom name d has tag k = some x → ∃ j, tag ≤ j ∧ j < tag + k ∧ tagNames.getD j [] = name ∧ tagNumB j = has ∧ wordV j d has = some x
  | 0, tag, h => by cases h
  | k + 1, tag, h => by
    rw [constFrom] at h
    split at h
    · rename_i e; exact ⟨tag, Nat.le_refl _, by omega, e.1, e.2, h⟩
    · obtain ⟨j, h1, h2, h3⟩ := constFrom_is k (tag + 1) h
      exact ⟨j, by omega, by omega, h3⟩
theorem instrFrom_is {name d : List UInt8} {has : Bool} {x : Ins} : ∀ (k op : Nat), instrFrom name d has op k = some x → ∃ j, op ≤ j ∧ j < op + k ∧ opNames.getD j [] = name ∧ opNumB j = has ∧ insV j d has = some x
  | 0, op, h => by cases h
  | k + 1, op, h => by
    rw [instrFrom] at h
    split at h
    · rename_i e; exact ⟨op, Nat.le_refl _, by omega, e.1, e.2, h⟩
    · obtain ⟨j, h1, h2, h3⟩ := instrFrom_is k (op + 1) h
      exact ⟨j, by omega, by omega, h3⟩
/-- What a constant's text says is written as it. -/
theorem constV_is {t : List UInt8} {x : Int} (h : constV t = some x) : constT x = t ∧ Rng x := by
  obtain ⟨j, h1, h2, h3, h4, h5⟩ := constFrom_is 7 1 h
  have ht := cut_put t
  unfold wordV at h5
  split at h5
  · rename_i hh
    split at h5
    · rename_i n hn
      obtain ⟨e1, e2, e3⟩ := wordN_is h5
      obtain ⟨e4, e5⟩ := of_mk e1 e2
      subst e3
      refine ⟨?_, mk_rng _ _⟩
      unfold constT
      rw [e4, e5, if_pos (h4.trans hh), show ((j : Int)).toNat = j from rfl, h3, numV_is hn]
      rw [if_pos hh] at ht
      exact ht.symm
    · cases h5
  · rename_i hh
    obtain ⟨e1, e2, e3⟩ := wordN_is h5
    obtain ⟨e4, e5⟩ := of_mk e1 e2
    subst e3
    refine ⟨?_, mk_rng _ _⟩
    unfold constT
    rw [e4, if_neg (by rw [h4]; exact hh), show ((j : Int)).toNat = j from rfl, h3]
    rw [if_neg hh] at ht
    exact ht.symm
theorem instrV_is {t : List UInt8} {x : Ins} (h : instrV t = some x) : instrT x = t ∧ (1 ≤ x.op ∧ x.op ≤ 18) ∧ (0 ≤ x.a ∧ x.a ≤ 2147483647) := by
  obtain ⟨j, h1, h2, h3, h4, h5⟩ := instrFrom_is 18 1 h
  have ht := cut_put t
  unfold insV at h5
  split at h5
  · rename_i hh
    split at h5
    · rename_i n hn
      cases h5
      obtain ⟨e1, e2⟩ := countV_is hn
      refine ⟨?_, ⟨by show (1 : Int) ≤ j; omega, by show (j : Int) ≤ 18; omega⟩, e2⟩
      unfold instrT
      rw [if_pos (h4.trans hh), show ((j : Int)).toNat = j from rfl, h3, e1]
      rw [if_pos hh] at ht
      exact ht.symm
    · cases h5
  · rename_i hh
    cases h5
    refine ⟨?_, ⟨by show (1 : Int) ≤ j; omega, by show (j : Int) ≤ 18; omega⟩, ⟨by show (0 : Int) ≤ 0; omega, by show (0 : Int) ≤ 2147483647; omega⟩⟩
    unfold instrT
    rw [if_neg (by rw [h4]; exact hh), show ((j : Int)).toNat = j from rfl, h3]
    rw [if_neg hh] at ht
    exact ht.symm

theorem constsT_snoc : ∀ (l : List Int) (x : Int), constsT (l ++ [x]) = constsT l ++ (constA ++ (constT x ++ [10]))
  | [], x => by simp [constsT, constA]
  | y :: l, x => by rw [List.cons_append, constsT, constsT, constsT_snoc l x]; simp only [List.append_assoc]
theorem globsT_snoc : ∀ (l : List (List UInt8)) (x : List UInt8), globsT (l ++ [x]) = globsT l ++ (globA ++ (x ++ [10]))
  | [], x => by simp [globsT, globA]
  | y :: l, x => by rw [List.cons_append, globsT, globsT, globsT_snoc l x]; simp only [List.append_assoc]
theorem codeT_snoc : ∀ (l : List Ins) (x : Ins), codeT (l ++ [x]) = codeT l ++ ([32] ++ (instrT x ++ [10]))
  | [], x => by simp [codeT]
  | y :: l, x => by rw [List.cons_append, codeT, codeT, codeT_snoc l x]; simp only [List.append_assoc]
theorem procsT_snoc : ∀ (l : List Prc) (n : Int), procsT (l ++ [⟨n, []⟩]) = procsT l ++ (procA ++ (Lib.itoa n ++ [10]))
  | [], n => by simp [procsT, procA, codeT]
  | y :: l, n => by rw [List.cons_append, procsT, procsT, procsT_snoc l n]; simp only [List.append_assoc]
theorem procsT_last (i : Ins) : ∀ (l : List Prc), l ≠ [] → procsT (addLast i l) = procsT l ++ ([32] ++ (instrT i ++ [10]))
  | [], h => absurd rfl h
  | [p], _ => by simp only [addLast, procsT, codeT_snoc, List.append_assoc, List.append_nil]
  | p :: q :: r, _ => by
    have := procsT_last i (q :: r) (by simp)
    have e : procsT (p :: q :: r) = (([112, 114, 111, 99, 32] ++ (Lib.itoa p.params ++ [10])) ++ codeT p.code) ++ procsT (q :: r) := rfl
    rw [addLast, e, List.append_assoc, ← this]; rfl
theorem prefix_split {l p : List UInt8} (h : Lib.hasPrefix l p = true) : l = p ++ l.drop p.length := by
  unfold Lib.hasPrefix at h
  obtain ⟨r, rfl⟩ := List.isPrefixOf_iff_prefix.1 h
  simp
/-- A line that is taken is what is written of what comes. -/
theorem takeV_is {c c' : Cd} {l : List UInt8} (h : takeV c l = some c') : writtenT c' = writtenT c ++ (l ++ [10]) := by
  unfold takeV at h
  split at h
  · rename_i hp
    have hl := prefix_split hp
    unfold takeC at h
    split at h
    · rename_i x hx
      split at h
      · rename_i hg
        cases h
        have h1 : c.globals = [] := List.length_eq_zero_iff.1 hg.1
        have h2 : c.procs = [] := List.length_eq_zero_iff.1 hg.2
        unfold writtenT
        simp only [h1, h2, globsT, procsT, List.append_nil]
        rw [constsT_snoc, (constV_is hx).1]
        conv => rhs; rw [hl]
        simp only [List.append_assoc]; rfl
      · cases h
    · cases h
  · split at h
    · rename_i hp
      have hl := prefix_split hp
      unfold takeG at h
      split at h
      · rename_i hg
        cases h
        have h2 : c.procs = [] := List.length_eq_zero_iff.1 hg
        unfold writtenT
        simp only [h2, procsT, List.append_nil]
        rw [globsT_snoc]
        conv => rhs; rw [hl]
        simp only [List.append_assoc]; rfl
      · cases h
    · split at h
      · rename_i hp
        have hl := prefix_split hp
        unfold takeP at h
        split at h
        · rename_i n hn
          cases h
          unfold writtenT
          simp only
          rw [procsT_snoc, (countV_is hn).1]
          conv => rhs; rw [hl]
          simp only [List.append_assoc]; rfl
        · cases h
      · split at h
        · rename_i hp
          have hl := prefix_split hp
          unfold takeI at h
          split at h
          · rename_i i hi
            split at h
            · cases h
            · rename_i h0
              cases h
              unfold writtenT
              simp only
              rw [procsT_last i c.procs (fun e => h0 (by rw [e]; rfl)), (instrV_is hi).1]
              conv => rhs; rw [hl]
              simp only [List.append_assoc]; rfl
          · cases h
        · cases h
/-- TEXT OF PARSE: what is read is written as the text. -/
theorem parsedF_is : ∀ (k : Nat) (s : List UInt8) (c : Cd) (n : Int), s.length ≤ k → 1 ≤ n → (parsedF k s c n).2 = 0 → writtenT (parsedF k s c n).1 = writtenT c ++ s
  | 0, s, c, n, h, _, _ => by
    have : s = [] := List.length_eq_zero_iff.1 (by omega)
    subst this; simp [parsedF]
  | k + 1, s, c, n, h, hn, h0 => by
    unfold parsedF at h0 ⊢
    split at h0
    · rename_i hs; rw [if_pos hs, hs]; simp
    · rename_i hs
      rw [if_neg hs]
      split at h0
      · rename_i hc
        rw [if_pos hc]
        obtain ⟨h1, h2⟩ := line_split (s := s) (by simpa using hc)
        cases ht : takeV c (line1 s) with
        | none => rw [ht] at h0; exact absurd h0 (by show n ≠ 0; omega)
        | some c' =>
          rw [ht] at h0
          simp only at h0 ⊢
          rw [parsedF_is k _ c' (n + 1) (by rw [List.length_drop]; omega) (by omega) h0, takeV_is ht]
          conv => rhs; rw [h1]
          simp only [List.append_assoc]; rfl
      · exact absurd h0 (by show n ≠ 0; omega)
theorem parsedV_is {s : List UInt8} (h : (parsedV s noCd 1).2 = 0) : writtenT (parsedV s noCd 1).1 = s := parsedF_is _ s noCd 1 (Nat.le_refl _) (by omega) h
end Go.Proofs.YtpkohocjgnodnaaGreatDoor

/- The text of code that may be is read as that code: plain mathematics. -/
namespace Go.Proofs.YtpkohocjgnodnaaGreatDoor

theorem dig_isD (u : Nat) (h : u < 10) : isD (UInt8.ofNat (48 + u)) = true ∧ (UInt8.ofNat (48 + u)).toNat - 48 = u := by
  have e : (UInt8.ofNat (48 + u)).toNat = 48 + u := by rw [UInt8.toNat_ofNat']; exact Nat.mod_eq_of_lt (by omega)
  refine ⟨?_, by rw [e]; omega⟩
  simp only [isD, isDI, e, Bool.and_eq_true, decide_eq_true_eq]; omega
theorem dec_spec (u : Nat) : (Lib.decDigits u).all isD = true ∧ Lib.decDigits u ≠ [] ∧ val 0 (Lib.decDigits u) = u := by
  induction u using Nat.strongRecOn with
  | _ u ih =>
    by_cases h : u < 10
    · rw [Lib.decDigits, dif_pos h]
      have := dig_isD u h
      refine ⟨by rw [List.all_cons, this.1]; rfl, by simp, ?_⟩
      rw [val_cons, val_nil, this.2]; omega
    · rw [Lib.decDigits, dif_neg h]
      obtain ⟨h1, h2, h3⟩ := ih (u / 10) (by omega)
      have := dig_isD (u % 10) (by omega)
      refine ⟨by rw [List.all_append, h1, List.all_cons, this.1]; rfl, by simp, ?_⟩
      rw [val_snoc, h3, this.2]; omega
theorem isD_isW {b : UInt8} (h : isD b = true) : isW b = true ∧ ¬ b.toNat = 45 := by
  simp only [isD, isDI, Bool.and_eq_true, decide_eq_true_eq] at h
  simp only [isW, isWI, Bool.and_eq_true, decide_eq_true_eq, bne_iff_ne, ne_eq]
  omega
theorem all_isD_isW {l : List UInt8} (h : l.all isD = true) : l.all isW = true := by
  rw [List.all_eq_true] at h ⊢
  exact fun b hb => (isD_isW (h b hb)).1
theorem unsign_dec {l : List UInt8} (h : l.all isD = true) : unsign l = l ∧ neg l = false := by
  cases l with
  | nil => exact ⟨rfl, rfl⟩
  | cons b r =>
    have hb : isD b = true := by simp at h; exact h.1
    have := (isD_isW hb).2
    exact ⟨by simp only [unsign, if_neg this], by simp only [neg, beq_eq_false_iff_ne]; exact this⟩
theorem itoa_spec (n : Int) : (Lib.itoa n).all isW = true ∧ isNum (Lib.itoa n) = true ∧ num (Lib.itoa n) = n := by
  unfold Lib.itoa
  by_cases h : n < 0
  · rw [if_pos h]
    obtain ⟨h1, h2, h3⟩ := dec_spec n.natAbs
    have hu : unsign (45 :: Lib.decDigits n.natAbs) = Lib.decDigits n.natAbs := by simp [unsign]
    have hne : (Lib.decDigits n.natAbs).isEmpty = false := by simpa using h2
    refine ⟨by rw [List.all_cons, all_isD_isW h1]; decide, by simp only [isNum, hu, h1, hne]; rfl, ?_⟩
    unfold num
    rw [if_pos (by rfl), hu, h3]; omega
  · rw [if_neg h]
    obtain ⟨h1, h2, h3⟩ := dec_spec n.toNat
    obtain ⟨hu, hg⟩ := unsign_dec h1
    have hne : (Lib.decDigits n.toNat).isEmpty = false := by simpa using h2
    refine ⟨all_isD_isW h1, by simp only [isNum, hu, h1, hne]; rfl, ?_⟩
    unfold num
    rw [hg, hu, h3]; simp; omega
theorem numV_itoa {n : Int} (h : -576460752303423488 ≤ n ∧ n ≤ 576460752303423487) : numV (Lib.itoa n) = some n := by
  obtain ⟨_, h2, h3⟩ := itoa_spec n
  unfold numV
  rcases parse_num _ h2 with e | ⟨_, e⟩
  · rw [e, h3]; exact if_pos rfl
  · rw [h3, (fits_iff n).2 h] at e; cases e
theorem countV_itoa {n : Int} (h : 0 ≤ n ∧ n ≤ 2147483647) : countV (Lib.itoa n) = some n := by
  unfold countV
  rw [numV_itoa (by omega)]; exact if_pos h
theorem isW_no {b : UInt8} (h : isW b = true) : b ≠ 10 ∧ b ≠ 32 := by
  refine ⟨fun e => ?_, fun e => ?_⟩ <;> · subst e; exact absurd h (by decide)
theorem all_isW_no {l : List UInt8} (h : l.all isW = true) : (10 : UInt8) ∉ l ∧ (32 : UInt8) ∉ l := by
  rw [List.all_eq_true] at h
  exact ⟨fun hm => (isW_no (h _ hm)).1 rfl, fun hm => (isW_no (h _ hm)).2 rfl⟩

theorem tags_apart : ∀ i : Nat, i < 8 → ∀ j : Nat, j < 8 → tagNames.getD i [] = tagNames.getD j [] → i = j := by decide
theorem ops_apart : ∀ i : Nat, i < 19 → ∀ j : Nat, j < 19 → opNames.getD i [] = opNames.getD j [] → i = j := by decide
theorem tags_plain : ∀ j : Nat, j < 8 → (tagNames.getD j []).all isW = true := by decide
theorem ops_plain : ∀ j : Nat, j < 19 → (opNames.getD j []).all isW = true := by decide
theorem constFrom_hit {d : List UInt8} {has : Bool} {j : Nat} (hj : tagNumB j = has) : ∀ (k tag : Nat), tag ≤ j → j < tag + k → tag + k ≤ 8 → constFrom (tagNames.getD j []) d has tag k = wordV j d has
  | 0, tag, h1, h2, _ => by omega
  | k + 1, tag, h1, h2, h3 => by
    rw [constFrom]
    by_cases e : tag = j
    · subst e; exact if_pos ⟨rfl, hj⟩
    · rw [if_neg (fun h => e (tags_apart tag (by omega) j (by omega) h.1))]
      exact constFrom_hit hj k (tag + 1) (by omega) (by omega) (by omega)
theorem instrFrom_hit {d : List UInt8} {has : Bool} {j : Nat} (hj : opNumB j = has) : ∀ (k op : Nat), op ≤ j → j < op + k → op + k ≤ 19 → instrFrom (opNames.getD j []) d has op k = insV j d has
  | 0, op, h1, h2, _ => by omega
  | k + 1, op, h1, h2, h3 => by
    rw [instrFrom]
    by_cases e : op = j
    · subst e; exact if_pos ⟨rfl, hj⟩
    · rw [if_neg (fun h => e (ops_apart op (by omega) j (by omega) h.1))]
      exact instrFrom_hit hj k (op + 1) (by omega) (by omega) (by omega)
theorem const_is {x : Int} (h : isConstB x = true) (hr : Rng x) : ∃ j : Nat, 1 ≤ j ∧ j < 8 ∧ ofT x = j ∧ isTagB j = true ∧ mayB j (ofN x) = true ∧ x = mk j (ofN x) := by
  unfold isConstB at h
  rw [Bool.and_eq_true] at h
  obtain ⟨h1, h2⟩ := h
  have h3 := wd_iff.1 h1
  have e1 : ofT x = tg x := if_pos h1
  have e2 : ofN x = nm x := if_pos h1
  rw [e1] at h2 ⊢
  rw [e2]
  have := isTag_iff.1 h3.1
  have h8 : tg x ≠ 8 := by simpa using h2
  obtain ⟨j, hj⟩ : ∃ j : Nat, tg x = j := ⟨(tg x).toNat, by omega⟩
  rw [hj] at h3 this h8 ⊢
  exact ⟨j, by omega, by omega, rfl, h3.1, h3.2, by rw [← hj]; exact (mk_of hr).symm⟩
theorem constV_T {x : Int} (h : isConstB x = true) (hr : Rng x) : constV (constT x) = some x := by
  obtain ⟨j, h1, h2, h3, h4, h5, h6⟩ := const_is h hr
  have hp := all_isW_no (tags_plain j h2)
  have hw : wordN j (ofN x) = some x := by
    unfold wordN mkE mkW
    rw [if_pos h4, if_pos h4, if_pos h5, if_pos h5, if_pos rfl]; exact congrArg some h6.symm
  unfold constT
  rw [h3, show ((j : Int)).toNat = j from rfl]
  by_cases hn : tagNumB j = true
  · rw [if_pos hn]
    unfold constV
    obtain ⟨e1, e2, e3⟩ := cut_some (r := Lib.itoa (ofN x)) hp.2
    rw [show tagNames.getD j [] ++ ([32] ++ Lib.itoa (ofN x)) = tagNames.getD j [] ++ 32 :: Lib.itoa (ofN x) from rfl, e1, e2, e3, constFrom_hit hn 7 1 h1 (by omega) (by omega)]
    unfold wordV
    rw [if_pos rfl, numV_itoa (may_bd h5)]; exact hw
  · rw [if_neg hn]
    unfold constV
    obtain ⟨e1, e2, e3⟩ := cut_none hp.2
    rw [e1, e2, e3, constFrom_hit (by simpa using hn) 7 1 h1 (by omega) (by omega)]
    unfold wordV
    rw [if_neg (by simp)]
    have h0 : ofN x = 0 := by
      have := may_iff.1 h5
      have h5' : ¬ (5 : Int) ≤ j := by simpa [tagNumB] using hn
      unfold lo hi at this
      rw [if_neg (by omega), if_neg (by omega), if_neg (by omega), if_neg (by omega), if_neg (by omega), if_neg (by omega)] at this
      omega
    rw [h0] at hw; exact hw
theorem instrV_T {x : Ins} (h : isOpB x.op = true) (ha : 0 ≤ x.a ∧ x.a ≤ 2147483647) (h0 : opNumB x.op = false → x.a = 0) : instrV (instrT x) = some x := by
  obtain ⟨op, a⟩ := x
  have hb : 1 ≤ op ∧ op ≤ 18 := by simpa [isOpB] using h
  obtain ⟨j, rfl⟩ : ∃ j : Nat, op = j := ⟨op.toNat, by omega⟩
  have hp := all_isW_no (ops_plain j (by omega))
  unfold instrT
  simp only at ha h0 ⊢
  rw [show ((j : Int)).toNat = j from rfl]
  by_cases hn : opNumB j = true
  · rw [if_pos hn]
    unfold instrV
    obtain ⟨e1, e2, e3⟩ := cut_some (r := Lib.itoa a) hp.2
    rw [show opNames.getD j [] ++ ([32] ++ Lib.itoa a) = opNames.getD j [] ++ 32 :: Lib.itoa a from rfl, e1, e2, e3, instrFrom_hit hn 18 1 (by omega) (by omega) (by omega)]
    unfold insV
    rw [if_pos rfl, countV_itoa ha]
  · rw [if_neg hn]
    unfold instrV
    obtain ⟨e1, e2, e3⟩ := cut_none hp.2
    rw [e1, e2, e3, instrFrom_hit (by simpa using hn) 18 1 (by omega) (by omega) (by omega)]
    unfold insV
    rw [if_neg (by simp), h0 (by simpa using hn)]

theorem no10_const {x : Int} (h : isConstB x = true) (hr : Rng x) : (10 : UInt8) ∉ constT x := by
  obtain ⟨j, h1, h2, h3, _⟩ := const_is h hr
  have hp := all_isW_no (tags_plain j h2)
  have hi := all_isW_no (itoa_spec (ofN x)).1
  unfold constT
  rw [h3, show ((j : Int)).toNat = j from rfl]
  split
  · intro hm
    rcases List.mem_append.1 hm with e | e
    · exact hp.1 e
    · rcases List.mem_append.1 e with e | e
      · revert e; decide
      · exact hi.1 e
  · exact hp.1
theorem no10_instr {x : Ins} (h : isOpB x.op = true) : (10 : UInt8) ∉ instrT x := by
  obtain ⟨op, a⟩ := x
  have hb : 1 ≤ op ∧ op ≤ 18 := by simpa [isOpB] using h
  obtain ⟨j, rfl⟩ : ∃ j : Nat, op = j := ⟨op.toNat, by omega⟩
  have hp := all_isW_no (ops_plain j (by omega))
  have hi := all_isW_no (itoa_spec a).1
  unfold instrT
  simp only
  rw [show ((j : Int)).toNat = j from rfl]
  split
  · intro hm
    rcases List.mem_append.1 hm with e | e
    · exact hp.1 e
    · rcases List.mem_append.1 e with e | e
      · revert e; decide
      · exact hi.1 e
  · exact hp.1
theorem sym_plain {t : List UInt8} (h : symC t = true) : t.all isW = true := by
  unfold symC at h
  simp only [Bool.and_eq_true, beq_iff_eq] at h
  obtain ⟨_, h2, h3⟩ := h
  cases t with
  | nil => rfl
  | cons b r =>
    unfold begT begS at *
    simp only at h2 h3
    split at h2
    · cases h2
    · split at h2
      · cases h2
      · split at h2
        · cases h2
        · rename_i n1 n2 n3
          rw [if_neg n1, if_neg n2, if_neg n3] at h3
          split at h2
          · rename_i hb
            rw [if_pos hb] at h3
            have hl : ((b :: r).takeWhile isW).length = (b :: r).length := by omega
            have he : (b :: r).takeWhile isW = b :: r := (List.takeWhile_prefix isW).eq_of_length hl
            rw [List.all_eq_true]
            intro x hx
            rw [← he] at hx
            exact (List.all_eq_true.1 (List.all_takeWhile (p := isW) (l := b :: r))) x hx
          · cases h2
theorem globOk_all : ∀ (l ahead : List (List UInt8)), globOk ahead l = true → ∀ t ∈ l, symC t = true
  | [], _, _, t, h => by cases h
  | x :: l, ahead, h, t, ht => by
    unfold globOk at h
    simp only [Bool.and_eq_true] at h
    rcases List.mem_cons.1 ht with e | e
    · subst e; exact h.1
    · exact globOk_all l _ h.2.2 t e
theorem hasPrefix_app (p t : List UInt8) : Lib.hasPrefix (p ++ t) p = true := by
  unfold Lib.hasPrefix; exact List.isPrefixOf_iff_prefix.2 ⟨t, rfl⟩
theorem takeV_const (c : Cd) (t : List UInt8) : takeV c (constA ++ t) = takeC c t := by
  unfold takeV; rw [if_pos (hasPrefix_app constA t)]; rfl
theorem takeV_glob (c : Cd) (t : List UInt8) : takeV c (globA ++ t) = takeG c t := by
  unfold takeV; rw [if_neg (by simp [Lib.hasPrefix, constA, globA]), if_pos (hasPrefix_app globA t)]; rfl
theorem takeV_proc (c : Cd) (t : List UInt8) : takeV c (procA ++ t) = takeP c t := by
  unfold takeV; rw [if_neg (by simp [Lib.hasPrefix, constA, procA]), if_neg (by simp [Lib.hasPrefix, globA, procA]), if_pos (hasPrefix_app procA t)]; rfl
theorem takeV_instr (c : Cd) (t : List UInt8) : takeV c ([32] ++ t) = takeI c t := by
  unfold takeV; rw [if_neg (by simp [Lib.hasPrefix, constA]), if_neg (by simp [Lib.hasPrefix, globA]), if_neg (by simp [Lib.hasPrefix, procA]), if_pos (hasPrefix_app [32] t)]; rfl
theorem no10_app {p t : List UInt8} (hp : (10 : UInt8) ∉ p) (ht : (10 : UInt8) ∉ t) : (10 : UInt8) ∉ p ++ t := fun h => by
  rcases List.mem_append.1 h with e | e
  · exact hp e
  · exact ht e
theorem parse_consts (r : List UInt8) : ∀ (l cs : List Int) (n : Int), (∀ x ∈ l, isConstB x = true ∧ Rng x) → ∃ m, parsedV (constsT l ++ r) ⟨cs, [], []⟩ n = parsedV r ⟨cs ++ l, [], []⟩ m
  | [], cs, n, _ => ⟨n, by simp [constsT]⟩
  | x :: l, cs, n, h => by
    obtain ⟨h1, h2⟩ := h x (List.mem_cons_self ..)
    obtain ⟨m, hm⟩ := parse_consts r l (cs ++ [x]) (n + 1) (fun y hy => h y (List.mem_cons_of_mem _ hy))
    refine ⟨m, ?_⟩
    have e : constsT (x :: l) ++ r = (constA ++ constT x) ++ 10 :: (constsT l ++ r) := by simp [constsT, constA]
    rw [e, parsedV_line (no10_app (by decide) (no10_const h1 h2)), takeV_const]
    unfold takeC
    rw [constV_T h1 h2]
    simp only [List.length_nil, and_self, if_true]
    rw [hm]; simp
theorem parse_globs (r : List UInt8) (cs : List Int) : ∀ (l gs : List (List UInt8)) (n : Int), (∀ t ∈ l, symC t = true) → ∃ m, parsedV (globsT l ++ r) ⟨cs, [], gs⟩ n = parsedV r ⟨cs, [], gs ++ l⟩ m
  | [], gs, n, _ => ⟨n, by simp [globsT]⟩
  | x :: l, gs, n, h => by
    have h1 := h x (List.mem_cons_self ..)
    obtain ⟨m, hm⟩ := parse_globs r cs l (gs ++ [x]) (n + 1) (fun y hy => h y (List.mem_cons_of_mem _ hy))
    refine ⟨m, ?_⟩
    have e : globsT (x :: l) ++ r = (globA ++ x) ++ 10 :: (globsT l ++ r) := by simp [globsT, globA]
    rw [e, parsedV_line (no10_app (by decide) (all_isW_no (sym_plain h1)).1), takeV_glob]
    unfold takeG
    simp only [List.length_nil, if_true]
    rw [hm]; simp
theorem addLast_snoc (i : Ins) (p : Prc) : ∀ ps : List Prc, addLast i (ps ++ [p]) = ps ++ [⟨p.params, p.code ++ [i]⟩]
  | [] => rfl
  | [q] => rfl
  | q :: q' :: r => by
    have := addLast_snoc i p (q' :: r)
    rw [List.cons_append, List.cons_append, addLast, ← List.cons_append, this]; rfl
theorem parse_code (r : List UInt8) (cs : List Int) (gs : List (List UInt8)) (ps : List Prc) (k : Int) : ∀ (l done : List Ins) (n : Int), (∀ x ∈ l, isOpB x.op = true ∧ (0 ≤ x.a ∧ x.a ≤ 2147483647) ∧ (opNumB x.op = false → x.a = 0)) → ∃ m, parsedV (codeT l ++ r) ⟨cs, ps ++ [⟨k, done⟩], gs⟩ n = parsedV r ⟨cs, ps ++ [⟨k, done ++ l⟩], gs⟩ m
  | [], done, n, _ => ⟨n, by simp [codeT]⟩
  | x :: l, done, n, h => by
    obtain ⟨h1, h2, h3⟩ := h x (List.mem_cons_self ..)
    obtain ⟨m, hm⟩ := parse_code r cs gs ps k l (done ++ [x]) (n + 1) (fun y hy => h y (List.mem_cons_of_mem _ hy))
    refine ⟨m, ?_⟩
    have e : codeT (x :: l) ++ r = ([32] ++ instrT x) ++ 10 :: (codeT l ++ r) := by simp [codeT]
    rw [e, parsedV_line (no10_app (by decide) (no10_instr h1)), takeV_instr]
    unfold takeI
    rw [instrV_T h1 h2 h3]
    simp only
    rw [if_neg (by simp), addLast_snoc]
    simp only
    rw [hm]; simp
/-- What the written procedures must be. -/
def OkP (p : Prc) : Prop := (0 ≤ p.params ∧ p.params ≤ 2147483647) ∧ ∀ x ∈ p.code, isOpB x.op = true ∧ (0 ≤ x.a ∧ x.a ≤ 2147483647) ∧ (opNumB x.op = false → x.a = 0)
theorem parse_procs (r : List UInt8) (cs : List Int) (gs : List (List UInt8)) : ∀ (l ps : List Prc) (n : Int), (∀ p ∈ l, OkP p) → ∃ m, parsedV (procsT l ++ r) ⟨cs, ps, gs⟩ n = parsedV r ⟨cs, ps ++ l, gs⟩ m
  | [], ps, n, _ => ⟨n, by simp [procsT]⟩
  | p :: l, ps, n, h => by
    obtain ⟨h1, h2⟩ := h p (List.mem_cons_self ..)
    obtain ⟨m1, hm1⟩ := parse_code (procsT l ++ r) cs gs ps p.params p.code [] (n + 1) h2
    obtain ⟨m, hm⟩ := parse_procs r cs gs l (ps ++ [p]) m1 (fun y hy => h y (List.mem_cons_of_mem _ hy))
    refine ⟨m, ?_⟩
    have e : procsT (p :: l) ++ r = (procA ++ Lib.itoa p.params) ++ 10 :: (codeT p.code ++ (procsT l ++ r)) := by simp [procsT, procA]
    rw [e, parsedV_line (no10_app (by decide) (all_isW_no (itoa_spec _).1).1), takeV_proc]
    unfold takeP
    rw [countV_itoa h1]
    simp only
    rw [hm1, List.nil_append, hm]
    simp
theorem parsedV_T {c : Cd} (hc : ∀ x ∈ c.consts, isConstB x = true ∧ Rng x) (hg : ∀ t ∈ c.globals, symC t = true) (hp : ∀ p ∈ c.procs, OkP p) : parsedV (writtenT c) noCd 1 = (c, 0) := by
  unfold writtenT noCd
  obtain ⟨m1, e1⟩ := parse_consts (globsT c.globals ++ procsT c.procs) c.consts [] 1 hc
  obtain ⟨m2, e2⟩ := parse_globs (procsT c.procs) c.consts c.globals [] m1 hg
  obtain ⟨m3, e3⟩ := parse_procs [] c.consts c.globals c.procs [] m2 hp
  rw [List.append_nil] at e3
  rw [e1]
  simp only [List.nil_append] at *
  rw [e2, e3, parsedV_nil]
theorem fits_ok {nc ng np ni : Nat} {x : Ins} (h : fitsB nc ng np ni x = true) (h1 : nc ≤ 1024) (h2 : ng ≤ 64) (h3 : np ≤ 256) (h4 : ni ≤ 4096) : (0 ≤ x.a ∧ x.a ≤ 2147483647) ∧ (opNumB x.op = false → x.a = 0) := by
  unfold fitsB leastA mostA at h
  rw [decide_eq_true_eq] at h
  obtain ⟨ha, hb⟩ := h
  refine ⟨⟨?_, ?_⟩, fun ho => ?_⟩
  · split at ha <;> omega
  · repeat' split at hb
    all_goals omega
  · unfold opNumB at ho
    simp only [Bool.not_eq_false', Bool.or_eq_true, beq_iff_eq] at ho
    rw [if_neg (by omega)] at ha
    rw [if_neg (by omega), if_neg (by omega), if_neg (by omega), if_neg (by omega), if_neg (by omega), if_neg (by omega)] at hb
    omega
/-- PARSE OF TEXT: the text of code that may be is read as that code. -/
theorem parse_text {c : Cd} (h : (chkC c).1 = 0) (hr : ∀ x ∈ c.consts, Rng x) : parsedV (writtenT c) noCd 1 = (c, 0) := by
  obtain ⟨h1, h2⟩ := chkC_ok h
  obtain ⟨g1, g2, g3, g4, g5, g6⟩ := listsE_ok h1
  refine parsedV_T (fun x hx => ⟨g5 x hx, hr x hx⟩) (globOk_all _ _ g6) (fun p hp => ?_)
  obtain ⟨k1, k2, k3, k4⟩ := chkP_ok (h2 p hp)
  refine ⟨by omega, fun x hx => ?_⟩
  obtain ⟨m1, m2⟩ := k4 x hx
  exact ⟨m1, fits_ok m2 g2 g3 g1 k1⟩
end Go.Proofs.YtpkohocjgnodnaaGreatDoor
