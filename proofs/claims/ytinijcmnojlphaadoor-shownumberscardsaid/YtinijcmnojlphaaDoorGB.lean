/- What the lexer's functions say, as plain functions on lists of bytes: no program in it. -/
import Derived.Lib.ParseIntB
/- What the lexer's functions say, as plain functions on lists of bytes: no program in it. -/
namespace Go.Proofs.YtinijcmnojlphaaDoor

/-- A token, or what stands beside an error: kind, text, number, place. -/
structure Tok where
  kind : Int
  text : List UInt8
  n : Int
  pos : Int

def isWI (c : Int) : Bool := decide (33 ≤ c) && decide (c ≤ 126) && c != 40 && c != 41 && c != 39 && c != 59 && c != 34
def isBI (c : Int) : Bool := c == 32 || c == 9 || c == 10 || c == 13
def isDI (c : Int) : Bool := decide (48 ≤ c) && decide (c ≤ 57)
def isW (b : UInt8) : Bool := isWI b.toNat
def isB (b : UInt8) : Bool := isBI b.toNat
def isD (b : UInt8) : Bool := isDI b.toNat

/-- What is left behind blanks and comments; c: within a comment. -/
def leave : Bool → List UInt8 → List UInt8
  | _, [] => []
  | true, b :: r => if b.toNat = 10 then leave false r else leave true r
  | false, b :: r => if isB b then leave false r else if b.toNat = 59 then leave true r else b :: r

def unsign : List UInt8 → List UInt8
  | [] => []
  | b :: r => if b.toNat = 45 then r else b :: r
def isNum (l : List UInt8) : Bool := (unsign l).all isD && !(unsign l).isEmpty
def begNum (l : List UInt8) : Bool := match unsign l with | [] => false | d :: _ => isD d
/-- The number that digits spell, behind acc. -/
def val (acc : Nat) (l : List UInt8) : Nat := l.foldl (fun a d => 10 * a + (d.toNat - 48)) acc
theorem val_nil (acc : Nat) : val acc [] = acc := by unfold val; rw [List.foldl_nil]
theorem val_cons (acc : Nat) (d : UInt8) (r : List UInt8) : val acc (d :: r) = val (10 * acc + (d.toNat - 48)) r := by unfold val; rw [List.foldl_cons]
theorem val_snoc (acc : Nat) (d : UInt8) (r : List UInt8) : val acc (r ++ [d]) = 10 * val acc r + (d.toNat - 48) := by unfold val; rw [List.foldl_append, List.foldl_cons, List.foldl_nil]
def neg (l : List UInt8) : Bool := match l with | [] => false | b :: _ => b.toNat == 45
def num (l : List UInt8) : Int := if neg l then -(val 0 (unsign l) : Int) else (val 0 (unsign l) : Int)
def fits (n : Int) : Bool := decide (-576460752303423488 ≤ n) && decide (n ≤ 576460752303423487)
def hash (l : List UInt8) : Bool := match l with | [] => false | b :: _ => b.toNat == 35
def bad (l : List UInt8) : Bool := hash l || begNum l || decide (32 < l.length)

def tk (k : Int) : Tok := ⟨k, [], 0, 0⟩
def word (l : List UInt8) : Tok :=
  if l = [46] then tk 4 else if l = [35, 116] then tk 8 else if l = [35, 102] then tk 7
  else if isNum l then (if fits (num l) then ⟨5, [], num l, 0⟩ else tk 0)
  else if bad l then tk 0 else ⟨6, l, 0, 0⟩
def wordE (l : List UInt8) : Int :=
  if l = [46] then 0 else if l = [35, 116] then 0 else if l = [35, 102] then 0
  else if isNum l then (if fits (num l) then 0 else 52)
  else if bad l then 51 else 0

def begT (l : List UInt8) : Tok := match l with
  | [] => tk 9
  | b :: _ => if b.toNat = 40 then tk 1 else if b.toNat = 41 then tk 2 else if b.toNat = 39 then tk 3
    else if isW b then word (l.takeWhile isW) else tk 0
def begS (l : List UInt8) : Nat := match l with
  | [] => 0
  | b :: _ => if b.toNat = 40 then 1 else if b.toNat = 41 then 1 else if b.toNat = 39 then 1
    else if isW b then (l.takeWhile isW).length else 0
def begE (l : List UInt8) : Int := match l with
  | [] => 0
  | b :: _ => if b.toNat = 40 then 0 else if b.toNat = 41 then 0 else if b.toNat = 39 then 0
    else if isW b then wordE (l.takeWhile isW) else 50

def put (t : Tok) (p : Int) : Tok := { t with pos := p }

/-- One step of the going through: the token at which it stands, with its place. -/
def at0 (N : Nat) (l : List UInt8) : Tok := put (begT (leave false l)) ((N : Int) - (leave false l).length)
def er0 (l : List UInt8) : Int := begE (leave false l)
def nx0 (l : List UInt8) : List UInt8 := (leave false l).drop (begS (leave false l))
/-- It ends here: an error, or the end. -/
def last (l : List UInt8) : Bool := er0 l != 0 || (leave false l).isEmpty

/-- All that the going through gives, the error beside its place as the last: N: the source's length. -/
def scan (N : Nat) : Nat → List UInt8 → List (Tok × Int)
  | 0, _ => []
  | f + 1, l => (at0 N l, er0 l) :: (if last l then [] else scan N f (nx0 l))

theorem leave_le (c : Bool) (l : List UInt8) : (leave c l).length ≤ l.length := by
  induction l generalizing c with
  | nil => cases c <;> simp [leave]
  | cons b r ih =>
    cases c
    · have h1 := ih false; have h2 := ih true
      simp only [leave]; split
      · simp; omega
      · split
        · simp; omega
        · simp
    · have h1 := ih false; have h2 := ih true
      simp only [leave]; split <;> simp <;> omega

/-- What is left is the end of what there was. -/
theorem leave_drop (c : Bool) (l : List UInt8) : leave c l = l.drop (l.length - (leave c l).length) := by
  induction l generalizing c with
  | nil => cases c <;> simp [leave]
  | cons b r ih =>
    have key : ∀ c', leave c' r = (b :: r).drop ((b :: r).length - (leave c' r).length) := fun c' => by
      have h := ih c'
      have hl := leave_le c' r
      rw [show (b :: r).length - (leave c' r).length = (r.length - (leave c' r).length) + 1 from by simp; omega, List.drop_succ_cons]
      exact h
    cases c
    · simp only [leave]; split
      · exact key false
      · split
        · exact key true
        · simp
    · simp only [leave]; split
      · exact key false
      · exact key true

theorem begS_le (l : List UInt8) : begS l ≤ l.length := by
  cases l with
  | nil => simp [begS]
  | cons b r =>
    simp only [begS]
    split; · simp
    split; · simp
    split; · simp
    split
    · exact (List.takeWhile_sublist _).length_le
    · simp

theorem begS_pos (l : List UInt8) (h : l ≠ []) (he : begE l = 0) : 1 ≤ begS l := by
  cases l with
  | nil => exact absurd rfl h
  | cons b r =>
    simp only [begS, begE] at *
    split; · simp
    split; · simp
    split; · simp
    split
    · rename_i hw; simp [hw]
    · rename_i h1 h2 h3 h4; simp [h1, h2, h3, h4] at he

theorem leave_false_idem (c : Bool) (l : List UInt8) : leave false (leave c l) = leave c l := by
  induction l generalizing c with
  | nil => cases c <;> simp [leave]
  | cons b r ih =>
    cases c
    · by_cases h1 : isB b = true
      · simp [leave, h1, ih]
      · by_cases h2 : b.toNat = 59
        · simp [leave, h1, h2, ih]
        · simp [leave, h1, h2]
    · by_cases h1 : b.toNat = 10
      · simp [leave, h1, ih]
      · simp [leave, h1, ih]

end Go.Proofs.YtinijcmnojlphaaDoor
