/- What the lexer's functions say, as plain functions on lists of bytes: no program in it.; Plain mathematics of words: a tag and a number in one number of 64 bits, and the numbers' reckoning; it names no program.; Code, and when it may be: plain mathematics, no program in it.; Depths: plain mathematics. -/
import Derived.Lib.ParseIntB
import Derived.WalkKit
import Derived.Laws.BitsAllLaws
/- What the lexer's functions say, as plain functions on lists of bytes: no program in it. -/
namespace Go.Proofs.YtnblieohdngmiabGreatDoor

/-- A token, or what stands beside an error: kind, text, number, place. -/
structure Tok where
  kind : Int
  text : List UInt8
  n : Int
  pos : Int

def isWI (c : Int) : Bool := decide (33 ≤ c) && decide (c ≤ 126) && c != 40 && c != 41 && c != 39 && c != 59 && c != 34
def isBI (c : Int) : Bool := c == 32 || c == 9 || c == 10 || c == 13
def isDI (c : Int) : Bool := decide (48 ≤ c) && decide (c ≤ 57)
def isW (b : UInt8) : Bool := isWI b.toNat
def isB (b : UInt8) : Bool := isBI b.toNat
def isD (b : UInt8) : Bool := isDI b.toNat

/-- What is left behind blanks and comments; c: within a comment. -/
def leave : Bool → List UInt8 → List UInt8
  | _, [] => []
  | true, b :: r => if b.toNat = 10 then leave false r else leave true r
  | false, b :: r => if isB b then leave false r else if b.toNat = 59 then leave true r else b :: r

def unsign : List UInt8 → List UInt8
  | [] => []
  | b :: r => if b.toNat = 45 then r else b :: r
def isNum (l : List UInt8) : Bool := (unsign l).all isD && !(unsign l).isEmpty
def begNum (l : List UInt8) : Bool := match unsign l with | [] => false | d :: _ => isD d
/-- The number that digits spell, behind acc. -/
def val (acc : Nat) (l : List UInt8) : Nat := l.foldl (fun a d => 10 * a + (d.toNat - 48)) acc
theorem val_nil (acc : Nat) : val acc [] = acc := by unfold val; rw [List.foldl_nil]
theorem val_cons (acc : Nat) (d : UInt8) (r : List UInt8) : val acc (d :: r) = val (10 * acc + (d.toNat - 48)) r := by unfold val; rw [List.foldl_cons]
theorem val_snoc (acc : Nat) (d : UInt8) (r : List UInt8) : val acc (r ++ [d]) = 10 * val acc r + (d.toNat - 48) := by unfold val; rw [List.foldl_append, List.foldl_cons, List.foldl_nil]
def neg (l : List UInt8) : Bool := match l with | [] => false | b :: _ => b.toNat == 45
def num (l : List UInt8) : Int := if neg l then -(val 0 (unsign l) : Int) else (val 0 (unsign l) : Int)
def fits (n : Int) : Bool := decide (-576460752303423488 ≤ n) && decide (n ≤ 576460752303423487)
def hash (l : List UInt8) : Bool := match l with | [] => false | b :: _ => b.toNat == 35
def bad (l : List UInt8) : Bool := hash l || begNum l || decide (32 < l.length)

def tk (k : Int) : Tok := ⟨k, [], 0, 0⟩
def word (l : List UInt8) : Tok :=
  if l = [46] then tk 4 else if l = [35, 116] then tk 8 else if l = [35, 102] then tk 7
  else if isNum l then (if fits (num l) then ⟨5, [], num l, 0⟩ else tk 0)
  else if bad l then tk 0 else ⟨6, l, 0, 0⟩
def wordE (l : List UInt8) : Int :=
  if l = [46] then 0 else if l = [35, 116] then 0 else if l = [35, 102] then 0
  else if isNum l then (if fits (num l) then 0 else 52)
  else if bad l then 51 else 0

def begT (l : List UInt8) : Tok := match l with
  | [] => tk 9
  | b :: _ => if b.toNat = 40 then tk 1 else if b.toNat = 41 then tk 2 else if b.toNat = 39 then tk 3
    else if isW b then word (l.takeWhile isW) else tk 0
def begS (l : List UInt8) : Nat := match l with
  | [] => 0
  | b :: _ => if b.toNat = 40 then 1 else if b.toNat = 41 then 1 else if b.toNat = 39 then 1
    else if isW b then (l.takeWhile isW).length else 0
def begE (l : List UInt8) : Int := match l with
  | [] => 0
  | b :: _ => if b.toNat = 40 then 0 else if b.toNat = 41 then 0 else if b.toNat = 39 then 0
    else if isW b then wordE (l.takeWhile isW) else 50

def put (t : Tok) (p : Int) : Tok := { t with pos := p }

/-- One step of the going through: the token at which it stands, with its place. -/
def at0 (N : Nat) (l : List UInt8) : Tok := put (begT (leave false l)) ((N : Int) - (leave false l).length)
def er0 (l : List UInt8) : Int := begE (leave false l)
def nx0 (l : List UInt8) : List UInt8 := (leave false l).drop (begS (leave false l))
/-- It ends here: an error, or the end. -/
def last (l : List UInt8) : Bool := er0 l != 0 || (leave false l).isEmpty

/-- All that the going through gives, the error beside its place as the last: N: the source's length. -/
def scan (N : Nat) : Nat → List UInt8 → List (Tok × Int)
  | 0, _ => []
  | f + 1, l => (at0 N l, er0 l) :: (if last l then [] else scan N f (nx0 l))

theorem leave_le (c : Bool) (l : List UInt8) : (leave c l).length ≤ l.length := by
  induction l generalizing c with
  | nil => cases c <;> simp [leave]
  | cons b r ih =>
    cases c
    · have h1 := ih false; have h2 := ih true
      simp only [leave]; split
      · simp; omega
      · split
        · simp; omega
        · simp
    · have h1 := ih false; have h2 := ih true
      simp only [leave]; split <;> simp <;> omega

/-- What is left is the end of what there was. -/
theorem leave_drop (c : Bool) (l : List UInt8) : leave c l = l.drop (l.length - (leave c l).length) := by
  induction l generalizing c with
  | nil => cases c <;> simp [leave]
  | cons b r ih =>
    have key : ∀ c', leave c' r = (b :: r).drop ((b :: r).length - (leave c' r).length) := fun c' => by
      have h := ih c'
      have hl := leave_le c' r
      rw [show (b :: r).length - (leave c' r).length = (r.length - (leave c' r).length) + 1 from by simp; omega, List.drop_succ_cons]
      exact h
    cases c
    · simp only [leave]; split
      · exact key false
      · split
        · exact key true
        · simp
    · simp only [leave]; split
      · exact key false
      · exact key true

theorem begS_le (l : List UInt8) : begS l ≤ l.length := by
  cases l with
  | nil => simp [begS]
  | cons b r =>
    simp only [begS]
    split; · simp
    split; · simp
    split; · simp
    split
    · exact (List.takeWhile_sublist _).length_le
    · simp

theorem begS_pos (l : List UInt8) (h : l ≠ []) (he : begE l = 0) : 1 ≤ begS l := by
  cases l with
  | nil => exact absurd rfl h
  | cons b r =>
    simp only [begS, begE] at *
    split; · simp
    split; · simp
    split; · simp
    split
    · rename_i hw; simp [hw]
    · rename_i h1 h2 h3 h4; simp [h1, h2, h3, h4] at he

theorem leave_false_idem (c : Bool) (l : List UInt8) : leave false (leave c l) = leave c l := by
  induction l generalizing c with
  | nil => cases c <;> simp [leave]
  | cons b r ih =>
    cases c
    · by_cases h1 : isB b = true
      · simp [leave, h1, ih]
      · by_cases h2 : b.toNat = 59
        · simp [leave, h1, h2, ih]
        · simp [leave, h1, h2]
    · by_cases h1 : b.toNat = 10
      · simp [leave, h1, ih]
      · simp [leave, h1, ih]

end Go.Proofs.YtnblieohdngmiabGreatDoor

/- Plain mathematics of words: a tag and a number in one number of 64 bits, and the numbers' reckoning; it names no program. -/
namespace Go.Proofs.YtnblieohdngmiabGreatDoor
open Go.RowKit

def isTagB (t : Int) : Bool := decide (1 ≤ t ∧ t ≤ 8)
def lo (t : Int) : Int := if t = 5 then -576460752303423488 else if t = 7 then 1 else 0
def hi (t : Int) : Int := if t = 5 then 576460752303423487 else if t = 7 then 22 else if t = 6 then 2147483647 else if t = 8 then 2147483647 else 0
def mayB (t n : Int) : Bool := decide (lo t ≤ n ∧ n ≤ hi t)
/-- The word of a tag and a number. -/
def mk (t n : Int) : Int := (16 * n + t) % 18446744073709551616
def mkW (t n : Int) : Int := if isTagB t = true then (if mayB t n = true then mk t n else 0) else 0
def mkE (t n : Int) : Int := if isTagB t = true then (if mayB t n = true then 0 else 11) else 10
/-- A word's tag and number. -/
def tg (x : Int) : Int := x % 16
def nm (x : Int) : Int := wrap64 x / 16
def wd (x : Int) : Bool := isTagB (tg x) && mayB (tg x) (nm x)
def ofT (x : Int) : Int := if wd x = true then tg x else 0
def ofN (x : Int) : Int := if wd x = true then nm x else 0
def Rng (x : Int) : Prop := 0 ≤ x ∧ x ≤ 18446744073709551615

theorem isTag_iff {t : Int} : isTagB t = true ↔ 1 ≤ t ∧ t ≤ 8 := by unfold isTagB; simp
theorem may_iff {t n : Int} : mayB t n = true ↔ lo t ≤ n ∧ n ≤ hi t := by unfold mayB; simp
theorem lo_ge (t : Int) : -576460752303423488 ≤ lo t := by unfold lo; split <;> (try split) <;> omega
theorem hi_le (t : Int) : hi t ≤ 576460752303423487 := by unfold hi; repeat' split
                                                          all_goals omega
theorem may_bd {t n : Int} (h : mayB t n = true) : -576460752303423488 ≤ n ∧ n ≤ 576460752303423487 := by
  have := may_iff.1 h; have := lo_ge t; have := hi_le t; omega
theorem mk_rng (t n : Int) : Rng (mk t n) := by unfold Rng mk; omega
theorem mkW_rng (t n : Int) : Rng (mkW t n) := by
  unfold mkW; repeat' split
  · exact mk_rng t n
  all_goals (unfold Rng; omega)

theorem and15 (x : Int) (h : Rng x) : bits .and .u64 x 15 = tg x := by
  obtain ⟨h0, h1⟩ := h
  rw [u64_and x 15 h0 (by omega) (by omega) (by omega)]
  have e : x.toNat &&& 15 = x.toNat % 16 := Nat.and_two_pow_sub_one_eq_mod x.toNat 4
  rw [show (15 : Int).toNat = 15 from rfl, e]
  unfold tg; omega
theorem or_tag (n t : Int) (h0 : 0 ≤ t) (h1 : t < 16) : bits .or .u64 (IntKind.u64.wrap (IntKind.u64.wrap n * 16)) t = mk t n := by
  rw [IntKind.wrap_u64, IntKind.wrap_u64]
  have hd : (n % 18446744073709551616 * 16) % 18446744073709551616 = 16 * (n % 1152921504606846976) := by omega
  rw [hd, u64_or _ t (by omega) (by omega) h0 (by omega)]
  have e : (16 * (n % 1152921504606846976)).toNat ||| t.toNat = 16 * (n % 1152921504606846976).toNat + t.toNat := by
    have := Nat.two_pow_add_eq_or_of_lt (i := 4) (b := t.toNat) (by omega) (n % 1152921504606846976).toNat
    rw [show (16 * (n % 1152921504606846976)).toNat = 2 ^ 4 * (n % 1152921504606846976).toNat by omega, ← this]
  rw [e]; unfold mk; omega
theorem tg_bd (x : Int) : 0 ≤ tg x ∧ tg x ≤ 15 := by unfold tg; omega
/-- There and back: the tag, the number; and the word. -/
theorem tg_mk {t : Int} (n : Int) (h0 : 0 ≤ t) (h1 : t < 16) : tg (mk t n) = t := by unfold tg mk; omega
theorem nm_mk {t n : Int} (h0 : 0 ≤ t) (h1 : t < 16) (h : -576460752303423488 ≤ n ∧ n ≤ 576460752303423487) : nm (mk t n) = n := by unfold nm mk wrap64; omega
theorem mk_of {x : Int} (h : Rng x) : mk (tg x) (nm x) = x := by unfold Rng at h; unfold nm mk tg wrap64; omega
theorem nm_bd (x : Int) : -576460752303423488 ≤ nm x ∧ nm x ≤ 576460752303423487 := by unfold nm wrap64; omega
theorem wd_iff {x : Int} : wd x = true ↔ isTagB (tg x) = true ∧ mayB (tg x) (nm x) = true := by unfold wd; simp
theorem wd_mk {t n : Int} (h : isTagB t = true) (hm : mayB t n = true) : wd (mk t n) = true := by
  have := isTag_iff.1 h
  rw [wd_iff, tg_mk n (by omega) (by omega), nm_mk (by omega) (by omega) (may_bd hm)]; exact ⟨h, hm⟩
theorem nm_alt (x : Int) (h : Rng x) : nm x = if x / 16 ≤ 576460752303423487 then x / 16 else x / 16 - 1152921504606846976 := by
  unfold Rng at h; unfold nm wrap64; split <;> omega
theorem ofT_bd (x : Int) : 0 ≤ ofT x ∧ ofT x ≤ 15 := by have := tg_bd x; unfold ofT; split <;> omega
theorem ofN_bd (x : Int) : -576460752303423488 ≤ ofN x ∧ ofN x ≤ 576460752303423487 := by have := nm_bd x; unfold ofN; split <;> omega

/-- What is reckoned of two words. -/
def bothB (a b : Int) : Bool := (ofT a == 5) && (ofT b == 5)
def resW (b : Bool) (v : Int) : Int := if b = true then mkW 5 v else 0
def resE (b : Bool) (v : Int) : Int := if b = true then mkE 5 v else 10
def divW (b : Bool) (m v : Int) : Int := if b = true then (if m = 0 then 0 else mkW 5 v) else 0
def divE (b : Bool) (m v : Int) : Int := if b = true then (if m = 0 then 12 else mkE 5 v) else 10
def addW (a b : Int) : Int := resW (bothB a b) (ofN a + ofN b)
def addE (a b : Int) : Int := resE (bothB a b) (ofN a + ofN b)
def subW (a b : Int) : Int := resW (bothB a b) (ofN a - ofN b)
def subE (a b : Int) : Int := resE (bothB a b) (ofN a - ofN b)
def mulW (a b : Int) : Int := resW (bothB a b) (ofN a * ofN b)
def mulE (a b : Int) : Int := resE (bothB a b) (ofN a * ofN b)
def quoW (a b : Int) : Int := divW (bothB a b) (ofN b) ((ofN a).tdiv (ofN b))
def quoE (a b : Int) : Int := divE (bothB a b) (ofN b) ((ofN a).tdiv (ofN b))
def remW (a b : Int) : Int := divW (bothB a b) (ofN b) ((ofN a).tmod (ofN b))
def remE (a b : Int) : Int := divE (bothB a b) (ofN b) ((ofN a).tmod (ofN b))
def lessB (a b : Int) : Bool := bothB a b && decide (ofN a < ofN b)
def lessE (a b : Int) : Int := if bothB a b = true then 0 else 10

theorem resW_rng (b : Bool) (v : Int) : Rng (resW b v) := by
  unfold resW; split
  · exact mkW_rng 5 v
  · unfold Rng; omega
theorem divW_rng (b : Bool) (m v : Int) : Rng (divW b m v) := by
  unfold divW; repeat' split
  · unfold Rng; omega
  · exact mkW_rng 5 v
  · unfold Rng; omega
theorem may5 {v : Int} : mayB 5 v = true ↔ -576460752303423488 ≤ v ∧ v ≤ 576460752303423487 := by rw [may_iff]; simp [lo, hi]
theorem over5 {v : Int} (h : ¬ (-576460752303423488 ≤ v ∧ v ≤ 576460752303423487)) : mkW 5 v = 0 ∧ mkE 5 v = 11 := by
  have hm : mayB 5 v = false := by rw [← Bool.not_eq_true, may5]; exact h
  have ht : isTagB 5 = true := rfl
  exact ⟨by simp [mkW, ht, hm], by simp [mkE, ht, hm]⟩
theorem in5 {v : Int} (h : -576460752303423488 ≤ v ∧ v ≤ 576460752303423487) : mkW 5 v = mk 5 v ∧ mkE 5 v = 0 := by
  have hm : mayB 5 v = true := may5.2 h
  have ht : isTagB 5 = true := rfl
  exact ⟨by simp [mkW, ht, hm], by simp [mkE, ht, hm]⟩
/-- A product that was wrapped round: the test by a quotient finds it out. -/
theorem wrap_id {v : Int} (h0 : -9223372036854775808 ≤ v) (h1 : v ≤ 9223372036854775807) : wrap64 v = v := by unfold wrap64; omega
theorem wrap_bd (v : Int) : -9223372036854775808 ≤ wrap64 v ∧ wrap64 v ≤ 9223372036854775807 := by unfold wrap64; omega
theorem tdiv_abs (x k : Int) : -(x.natAbs : Int) ≤ x.tdiv k ∧ x.tdiv k ≤ (x.natAbs : Int) := by
  have h := Int.natAbs_tdiv x k
  have h2 : x.natAbs.div k.natAbs ≤ x.natAbs := Nat.div_le_self _ _
  rw [← h] at h2
  omega
theorem mul_yes {m n : Int} (hm : m ≠ 0) (h : wrap64 ((wrap64 (m * n)).tdiv m) = n)
    (hmb : -576460752303423488 ≤ m ∧ m ≤ 576460752303423487) (hnb : -576460752303423488 ≤ n ∧ n ≤ 576460752303423487) :
    wrap64 (m * n) = m * n := by
  generalize hp : wrap64 (m * n) = p at *
  have hpb := wrap_bd (m * n); rw [hp] at hpb
  have hq := tdiv_abs p m
  by_cases hz : p.tdiv m = 9223372036854775808
  · rw [hz] at h; unfold wrap64 at h; omega
  · rw [wrap_id (by omega) (by omega)] at h
    have hd := Int.tmod_add_tdiv_mul p m
    rw [h] at hd
    have hr : (p.tmod m).natAbs < m.natAbs := by
      rw [Int.natAbs_tmod]; exact Nat.mod_lt _ (by omega)
    have e : p = p.tmod m + m * n := by rw [Int.mul_comm m n]; omega
    generalize p.tmod m = r at *
    generalize m * n = v at *
    unfold wrap64 at hp
    omega
theorem mul_no {m n : Int} (hm : m ≠ 0) (h : wrap64 ((wrap64 (m * n)).tdiv m) ≠ n)
    (hnb : -576460752303423488 ≤ n ∧ n ≤ 576460752303423487) :
    ¬ (-576460752303423488 ≤ m * n ∧ m * n ≤ 576460752303423487) := by
  intro hv
  rw [wrap_id (v := m * n) (by omega) (by omega), Int.mul_tdiv_cancel_left _ hm, wrap_id (by omega) (by omega)] at h
  exact h rfl
theorem tdiv_bd {m n : Int} (hmb : -576460752303423488 ≤ m ∧ m ≤ 576460752303423487) :
    -576460752303423488 ≤ m.tdiv n ∧ m.tdiv n ≤ 576460752303423488 := by have := tdiv_abs m n; omega
theorem tmod_bd {m n : Int} (hmb : -576460752303423488 ≤ m ∧ m ≤ 576460752303423487) :
    -576460752303423488 ≤ m.tmod n ∧ m.tmod n ≤ 576460752303423487 := by
  have h := Int.natAbs_tmod m n
  have h2 : m.natAbs % n.natAbs ≤ m.natAbs := Nat.mod_le _ _
  rcases Int.le_total 0 m with h0 | h0
  · have := Int.tmod_nonneg n h0; omega
  · have : m.tmod n ≤ 0 := by
      have := Int.tmod_nonneg n (show 0 ≤ -m by omega)
      rw [Int.neg_tmod] at this; omega
    omega
theorem rem_eq (m n : Int) : m - n * m.tdiv n = m.tmod n := by have := Int.tmod_add_tdiv_mul m n; rw [Int.mul_comm] at this; omega
end Go.Proofs.YtnblieohdngmiabGreatDoor

/- Code, and when it may be: plain mathematics, no program in it. -/
namespace Go.Proofs.YtnblieohdngmiabGreatDoor

structure Ins where
  op : Int
  a : Int
structure Prc where
  params : Int
  code : List Ins
structure Cd where
  consts : List Int
  procs : List Prc
  globals : List (List UInt8)

def isConstB (x : Int) : Bool := wd x && (ofT x != 8)
def isOpB (op : Int) : Bool := decide (1 ≤ op ∧ op ≤ 18)
def leastA (op : Int) : Int := if op = 13 then 1 else 0
/-- The greatest A; nc, ng, np: how many constants, globals, procedures there are; ni: instructions. -/
def mostA (nc ng np ni : Nat) (op : Int) : Int :=
  if op = 1 then (nc : Int) - 1 else if op = 4 ∨ op = 5 then (ng : Int) - 1 else if op = 6 then (np : Int) - 1
  else if op = 8 ∨ op = 9 then (ni : Int) - 1 else if op = 2 ∨ op = 3 ∨ op = 10 ∨ op = 11 then 256 else if op = 13 then 22 else 0
def fitsB (nc ng np ni : Nat) (x : Ins) : Bool := decide (leastA x.op ≤ x.a ∧ x.a ≤ mostA nc ng np ni x.op)
def endsB (op : Int) : Bool := op == 12 || (op == 11 || op == 8)
/-- How many arguments the primitives have. -/
def primT : List Int := [0, 2, 1, 1, 2, 2, 1, 1, 2, 3, 2, 2, 1, 1, 1, 2, 2, 2, 2, 2, 2, 1, 1]
def primN (a : Int) : Int := primT.getD a.toNat 0
def takesN (x : Ins) : Int :=
  if x.op = 1 ∨ x.op = 2 ∨ x.op = 4 ∨ x.op = 6 ∨ x.op = 8 ∨ x.op = 18 then 0
  else if x.op = 10 ∨ x.op = 11 then x.a + 1 else if x.op = 13 then primN x.a else 1
def putsN (x : Ins) : Int := if x.op = 7 ∨ x.op = 8 ∨ x.op = 9 ∨ x.op = 11 ∨ x.op = 12 then 0 else 1
end Go.Proofs.YtnblieohdngmiabGreatDoor

/- Depths: plain mathematics. -/
namespace Go.Proofs.YtnblieohdngmiabGreatDoor

/-- The depths that came to a place, and how many. -/
structure Ar where
  d0 : Int
  d1 : Int
  c : Int
def isNewB (a : Ar) (d : Int) : Bool := a.c == 0 || (a.c == 1 && (a.d0 != d))
def isWrongB (a : Ar) (t : Int) : Bool := a.c != 1 || (decide (a.d0 < t) || decide (256 ≤ a.d0))
def putAr (a : Ar) (d : Int) : Ar := if a.c = 0 then ⟨d, a.d1, 1⟩ else ⟨a.d0, d, a.c + 1⟩
structure Sm where
  met : List Ar
  left : List (Nat × Int)
def comeM (m : Sm) (p : Nat) (d : Int) : Sm := match m.met[p]? with
  | none => m
  | some a => if isNewB a d then ⟨m.met.set p (putAr a d), m.left ++ [(p, d)]⟩ else m
def passM (m : Sm) (p : Nat) (d : Int) (x : Ins) : Sm :=
  if endsB x.op then (if x.op = 8 ∨ x.op = 9 then comeM m x.a.toNat (d - takesN x + putsN x) else m)
  else comeM (if x.op = 8 ∨ x.op = 9 then comeM m x.a.toNat (d - takesN x + putsN x) else m) (p + 1) (d - takesN x + putsN x)
def runM (code : List Ins) : Nat → Sm → Sm
  | 0, m => m
  | k + 1, m => match m.left.getLast? with
    | none => m
    | some q => match code[q.1]? with
      | none => m
      | some x => runM code k (passM ⟨m.met, m.left.dropLast⟩ q.1 q.2 x)
/-- The first place that is wrong by its depths. -/
def wrongAt : List Ar → List Ins → Nat → Option Nat
  | a :: l, x :: r, j => if isWrongB a (takesN x) then some j else wrongAt l r (j + 1)
  | _, _, _ => none

/-- How many arrivals there are. -/
def cnt : List Ar → Int
  | [] => 0
  | a :: l => a.c + cnt l
theorem cnt_set : ∀ (l : List Ar) (p : Nat) (a b : Ar), l[p]? = some a → cnt (l.set p b) = cnt l - a.c + b.c
  | [], p, a, b, h => by simp at h
  | x :: l, 0, a, b, h => by
    obtain rfl : x = a := by simpa using h
    simp only [List.set_cons_zero, cnt]; omega
  | x :: l, p + 1, a, b, h => by
    have := cnt_set l p a b (by simpa using h)
    simp only [List.set_cons_succ, cnt]; omega
/-- As a walk's arrivals are. -/
structure Okm (n : Nat) (m : Sm) : Prop where
  len : m.met.length = n
  c : ∀ a ∈ m.met, 0 ≤ a.c ∧ a.c ≤ 2
  left : ∀ q ∈ m.left, q.1 < n ∧ -300 * cnt m.met ≤ q.2 ∧ q.2 ≤ 300 * cnt m.met
theorem cnt_le : ∀ (l : List Ar), (∀ a ∈ l, 0 ≤ a.c ∧ a.c ≤ 2) → 0 ≤ cnt l ∧ cnt l ≤ 2 * l.length
  | [], _ => by simp [cnt]
  | a :: l, h => by
    have h1 := cnt_le l (fun x hx => h x (List.mem_cons_of_mem _ hx))
    have h2 := h a (List.mem_cons_self ..)
    simp only [cnt, List.length_cons]; omega
theorem isNew_c {a : Ar} {d : Int} (h : isNewB a d = true) : a.c = 0 ∨ a.c = 1 := by
  unfold isNewB at h
  simp at h
  omega
theorem putAr_c {a : Ar} {d : Int} (_ : isNewB a d = true) : (putAr a d).c = a.c + 1 := by
  unfold putAr
  split
  · simp; omega
  · rfl
theorem Okm.come {n : Nat} {m : Sm} (h : Okm n m) {p : Nat} {d : Int} (hp : p < n) (hd : -300 * (cnt m.met + 1) ≤ d ∧ d ≤ 300 * (cnt m.met + 1)) : Okm n (comeM m p d) := by
  have hlt : p < m.met.length := by rw [h.len]; exact hp
  unfold comeM
  rw [List.getElem?_eq_getElem hlt]
  dsimp only
  split
  · rename_i hn
    have hc := cnt_set m.met p _ (putAr m.met[p] d) (List.getElem?_eq_getElem hlt)
    have hpc := putAr_c hn
    have h01 := isNew_c hn
    refine ⟨by simpa using h.len, fun a ha => ?_, fun q hq => ?_⟩
    · rcases List.mem_or_eq_of_mem_set ha with ha | rfl
      · exact h.c a ha
      · rw [hpc]; omega
    · simp only at hq ⊢
      rw [hc, hpc]
      rcases List.mem_append.1 hq with hq | hq
      · have := h.left q hq; omega
      · obtain rfl : q = (p, d) := by simpa using hq
        exact ⟨hp, by simp only; omega, by simp only; omega⟩
  · exact h
/-- How far a walk is from its end. -/
def far (n : Nat) (m : Sm) : Int := 2 * (2 * (n : Int) - cnt m.met) + m.left.length
theorem far_come {n : Nat} {m : Sm} (h : Okm n m) {p : Nat} (d : Int) (hp : p < n) : far n (comeM m p d) ≤ far n m := by
  have hlt : p < m.met.length := by rw [h.len]; exact hp
  unfold comeM
  rw [List.getElem?_eq_getElem hlt]
  dsimp only
  split
  · rename_i hn
    have hc := cnt_set m.met p _ (putAr m.met[p] d) (List.getElem?_eq_getElem hlt)
    have hpc := putAr_c hn
    unfold far
    simp only [List.length_append, List.length_singleton]
    rw [hc, hpc]
    omega
  · exact Int.le_refl _
end Go.Proofs.YtnblieohdngmiabGreatDoor
