/- What the lexer's functions say, as plain functions on lists of bytes: no program in it.; The contracts of the lexer's inner functions: each returns what the plain functions on lists of bytes say. -/
import Derived.Test.YtejmoopgfnjaaaaDoorHShelf
import Derived.Lib.ParseIntB
import Derived.WalkKit
import Derived.WalkSpells
import Derived.WalkLawsBesides
import Derived.Below
/- What the lexer's functions say, as plain functions on lists of bytes: no program in it. -/
namespace Go.Proofs.YtejmoopgfnjaaaaDoor

/-- A token, or what stands beside an error: kind, text, number, place. -/
structure Tok where
  kind : Int
  text : List UInt8
  n : Int
  pos : Int

def isWI (c : Int) : Bool := decide (33 ≤ c) && decide (c ≤ 126) && c != 40 && c != 41 && c != 39 && c != 59 && c != 34
def isBI (c : Int) : Bool := c == 32 || c == 9 || c == 10 || c == 13
def isDI (c : Int) : Bool := decide (48 ≤ c) && decide (c ≤ 57)
def isW (b : UInt8) : Bool := isWI b.toNat
def isB (b : UInt8) : Bool := isBI b.toNat
def isD (b : UInt8) : Bool := isDI b.toNat

/-- What is left behind blanks and comments; c: within a comment. -/
def leave : Bool → List UInt8 → List UInt8
  | _, [] => []
  | true, b :: r => if b.toNat = 10 then leave false r else leave true r
  | false, b :: r => if isB b then leave false r else if b.toNat = 59 then leave true r else b :: r

def unsign : List UInt8 → List UInt8
  | [] => []
  | b :: r => if b.toNat = 45 then r else b :: r
def isNum (l : List UInt8) : Bool := (unsign l).all isD && !(unsign l).isEmpty
def begNum (l : List UInt8) : Bool := match unsign l with | [] => false | d :: _ => isD d
/-- The number that digits spell, behind acc. -/
def val (acc : Nat) (l : List UInt8) : Nat := l.foldl (fun a d => 10 * a + (d.toNat - 48)) acc
theorem val_nil (acc : Nat) : val acc [] = acc := by unfold val; rw [List.foldl_nil]
theorem val_cons (acc : Nat) (d : UInt8) (r : List UInt8) : val acc (d :: r) = val (10 * acc + (d.toNat - 48)) r := by unfold val; rw [List.foldl_cons]
theorem val_snoc (acc : Nat) (d : UInt8) (r : List UInt8) : val acc (r ++ [d]) = 10 * val acc r + (d.toNat - 48) := by unfold val; rw [List.foldl_append, List.foldl_cons, List.foldl_nil]
def neg (l : List UInt8) : Bool := match l with | [] => false | b :: _ => b.toNat == 45
def num (l : List UInt8) : Int := if neg l then -(val 0 (unsign l) : Int) else (val 0 (unsign l) : Int)
def fits (n : Int) : Bool := decide (-576460752303423488 ≤ n) && decide (n ≤ 576460752303423487)
def hash (l : List UInt8) : Bool := match l with | [] => false | b :: _ => b.toNat == 35
def bad (l : List UInt8) : Bool := hash l || begNum l || decide (32 < l.length)

def tk (k : Int) : Tok := ⟨k, [], 0, 0⟩
def word (l : List UInt8) : Tok :=
  if l = [46] then tk 4 else if l = [35, 116] then tk 8 else if l = [35, 102] then tk 7
  else if isNum l then (if fits (num l) then ⟨5, [], num l, 0⟩ else tk 0)
  else if bad l then tk 0 else ⟨6, l, 0, 0⟩
def wordE (l : List UInt8) : Int :=
  if l = [46] then 0 else if l = [35, 116] then 0 else if l = [35, 102] then 0
  else if isNum l then (if fits (num l) then 0 else 52)
  else if bad l then 51 else 0

def begT (l : List UInt8) : Tok := match l with
  | [] => tk 9
  | b :: _ => if b.toNat = 40 then tk 1 else if b.toNat = 41 then tk 2 else if b.toNat = 39 then tk 3
    else if isW b then word (l.takeWhile isW) else tk 0
def begS (l : List UInt8) : Nat := match l with
  | [] => 0
  | b :: _ => if b.toNat = 40 then 1 else if b.toNat = 41 then 1 else if b.toNat = 39 then 1
    else if isW b then (l.takeWhile isW).length else 0
def begE (l : List UInt8) : Int := match l with
  | [] => 0
  | b :: _ => if b.toNat = 40 then 0 else if b.toNat = 41 then 0 else if b.toNat = 39 then 0
    else if isW b then wordE (l.takeWhile isW) else 50

def put (t : Tok) (p : Int) : Tok := { t with pos := p }

/-- One step of the going through: the token at which it stands, with its place. -/
def at0 (N : Nat) (l : List UInt8) : Tok := put (begT (leave false l)) ((N : Int) - (leave false l).length)
def er0 (l : List UInt8) : Int := begE (leave false l)
def nx0 (l : List UInt8) : List UInt8 := (leave false l).drop (begS (leave false l))
/-- It ends here: an error, or the end. -/
def last (l : List UInt8) : Bool := er0 l != 0 || (leave false l).isEmpty

/-- All that the going through gives, the error beside its place as the last: N: the source's length. -/
def scan (N : Nat) : Nat → List UInt8 → List (Tok × Int)
  | 0, _ => []
  | f + 1, l => (at0 N l, er0 l) :: (if last l then [] else scan N f (nx0 l))

theorem leave_le (c : Bool) (l : List UInt8) : (leave c l).length ≤ l.length := by
  induction l generalizing c with
  | nil => cases c <;> simp [leave]
  | cons b r ih =>
    cases c
    · have h1 := ih false; have h2 := ih true
      simp only [leave]; split
      · simp; omega
      · split
        · simp; omega
        · simp
    · have h1 := ih false; have h2 := ih true
      simp only [leave]; split <;> simp <;> omega

/-- What is left is the end of what there was. -/
theorem leave_drop (c : Bool) (l : List UInt8) : leave c l = l.drop (l.length - (leave c l).length) := by
  induction l generalizing c with
  | nil => cases c <;> simp [leave]
  | cons b r ih =>
    have key : ∀ c', leave c' r = (b :: r).drop ((b :: r).length - (leave c' r).length) := fun c' => by
      have h := ih c'
      have hl := leave_le c' r
      rw [show (b :: r).length - (leave c' r).length = (r.length - (leave c' r).length) + 1 from by simp; omega, List.drop_succ_cons]
      exact h
    cases c
    · simp only [leave]; split
      · exact key false
      · split
        · exact key true
        · simp
    · simp only [leave]; split
      · exact key false
      · exact key true

theorem begS_le (l : List UInt8) : begS l ≤ l.length := by
  cases l with
  | nil => simp [begS]
  | cons b r =>
    simp only [begS]
    split; · simp
    split; · simp
    split; · simp
    split
    · exact (List.takeWhile_sublist _).length_le
    · simp

theorem begS_pos (l : List UInt8) (h : l ≠ []) (he : begE l = 0) : 1 ≤ begS l := by
  cases l with
  | nil => exact absurd rfl h
  | cons b r =>
    simp only [begS, begE] at *
    split; · simp
    split; · simp
    split; · simp
    split
    · rename_i hw; simp [hw]
    · rename_i h1 h2 h3 h4; simp [h1, h2, h3, h4] at he

theorem leave_false_idem (c : Bool) (l : List UInt8) : leave false (leave c l) = leave c l := by
  induction l generalizing c with
  | nil => cases c <;> simp [leave]
  | cons b r ih =>
    cases c
    · by_cases h1 : isB b = true
      · simp [leave, h1, ih]
      · by_cases h2 : b.toNat = 59
        · simp [leave, h1, h2, ih]
        · simp [leave, h1, h2]
    · by_cases h1 : b.toNat = 10
      · simp [leave, h1, ih]
      · simp [leave, h1, ih]

end Go.Proofs.YtejmoopgfnjaaaaDoor

/- The contracts of the lexer's inner functions: each returns what the plain functions on lists of bytes say. -/
namespace Go.Proofs.YtejmoopgfnjaaaaDoor
open Go.RowKit

theorem ret_bool {a b : Bool} (h : a = b) : Ending.returned (.bool a) = .returned (.bool b) := by rw [h]
theorem ret_int {k : IntKind} {a b : Int} (h : a = b) : Ending.returned (.int k a) = .returned (.int k b) := by rw [h]

set_option maxHeartbeats 400000 in
theorem isOfWord_any (c : Int) (w : World) (h0 : 0 ≤ c) (h1 : c ≤ 255) :
    Calls Tryd.prog 60 #[.int .u8 c] w fun e w' => e = .returned (.bool (isWI c)) ∧ w' = w := by
  go_enter Tryd.func60, Tryd.ntmps60
  go_wp2
  all_goals go_ret
  all_goals refine ⟨ret_bool ?_, rfl⟩
  all_goals (simp only [beq_iff_eq, beq_eq_false_iff_ne, ne_eq] at *; rw [Bool.eq_iff_iff]; simp [isWI]; omega)

set_option maxHeartbeats 400000 in
theorem isDigit_any (c : Int) (w : World) (h0 : 0 ≤ c) (h1 : c ≤ 255) :
    Calls Tryd.prog 75 #[.int .u8 c] w fun e w' => e = .returned (.bool (isDI c)) ∧ w' = w := by
  go_enter Tryd.func75, Tryd.ntmps75
  go_wp2
  all_goals go_ret
  all_goals exact ⟨ret_bool (by unfold isDI; rw [Bool.eq_iff_iff]; simp; omega), rfl⟩

theorem drop_step (s : ByteArray) (k : Nat) (h : k < s.size) : s.data.toList.drop k = s[k] :: s.data.toList.drop (k + 1) := by
  rw [List.drop_eq_getElem_cons (by simpa using h)]; rfl
theorem drop_all (s : ByteArray) (k : Nat) (h : s.size ≤ k) : s.data.toList.drop k = [] := by
  rw [List.drop_eq_nil_iff]; simpa using h

set_option maxHeartbeats 400000 in
theorem leave_blank (b : UInt8) (r : List UInt8) (h : (b.toNat : Int) = 32 ∨ (b.toNat : Int) = 9 ∨ (b.toNat : Int) = 10 ∨ (b.toNat : Int) = 13) : leave false (b :: r) = leave false r := by
  have : isB b = true := by simp [isB, isBI]; omega
  simp [leave, this]
theorem leave_semi (b : UInt8) (r : List UInt8) (h : (b.toNat : Int) = 59) : leave false (b :: r) = leave true (b :: r) := by
  have h1 : b.toNat = 59 := by omega
  have : isB b = false := by simp [isB, isBI, h1]
  simp [leave, this, h1]
theorem leave_stay (b : UInt8) (r : List UInt8) (h : ¬ ((b.toNat : Int) = 32 ∨ (b.toNat : Int) = 9 ∨ (b.toNat : Int) = 10 ∨ (b.toNat : Int) = 13)) (h' : ¬ (b.toNat : Int) = 59) : leave false (b :: r) = b :: r := by
  have : isB b = false := by
    cases e : isB b with
    | false => rfl
    | true => exfalso; apply h; simp [isB, isBI] at e; omega
  rw [leave, this, if_neg (by simp), if_neg (by omega)]
theorem size_len (s : ByteArray) : s.size = s.data.toList.length := by simp only [Array.length_toList]; rfl
theorem byte_le (s : ByteArray) (k : Nat) (h : k < s.size) : (s[k].toNat : Int) ≤ 255 := by have := s[k].toNat_lt; omega

set_option maxHeartbeats 400000 in
set_option maxHeartbeats 400000 in
theorem wordSize_any (s : ByteArray) (w : World) (hs : s.size ≤ maxLen) :
    Calls Tryd.prog 61 #[.string s] w fun e w' => e = .returned (.int .i64 ((s.data.toList.takeWhile isW).length : Nat)) ∧ w' = w := by
  unfold maxLen at hs
  go_enter Tryd.func61, Tryd.ntmps61
  go_wp2
  go_loop [3] (fun i => ∃ k : Nat, k ≤ s.size ∧ i = .int .i64 k ∧ Hid ((s.data.toList.takeWhile isW).length = k + ((s.data.toList.drop k).takeWhile isW).length)) (fun i => s.size - (intOf i).toNat)
  case atStart => exact ⟨0, Nat.zero_le _, rfl, by show _ = _; simp⟩
  case round =>
    obtain ⟨k, hk, rfl, H⟩ := hrel
    by_cases hlt : k < s.size
    · have hd : Hid _ := drop_step s k hlt
      have hb := byte_le s k hlt
      cases hc : isWI s[k].toNat
      · have nx : Hid ((s.data.toList.takeWhile isW).length = k) := by
          show _ = _
          rw [H.out, hd.out]; simp [isW, hc]
        go_wp2_with (go_at_call 60; refine (isOfWord_any _ _ (by omega) (by omega)).mono ?_; rintro e w' ⟨rfl, rfl⟩)
        go_ret
        exact ⟨ret_int (by rw [nx.out]), rfl⟩
      · have nx : Hid ((s.data.toList.takeWhile isW).length = (k + 1) + ((s.data.toList.drop (k + 1)).takeWhile isW).length) := by
          show _ = _
          rw [H.out, hd.out]; simp [isW, hc]; omega
        go_wp2_with (go_at_call 60; refine (isOfWord_any _ _ (by omega) (by omega)).mono ?_; rintro e w' ⟨rfl, rfl⟩)
        go_round
        case rel => exact ⟨k + 1, by omega, by go_num, nx⟩
        case measure => simp [intOf]; omega
    · have nx : Hid ((s.data.toList.takeWhile isW).length = k) := by
        show _ = _
        rw [H.out, drop_all s k (by omega)]; simp
      go_wp2
      go_ret
      exact ⟨ret_int (by rw [nx.out]), rfl⟩

theorem trim_unsign (l : List UInt8) : Lib.trimPrefix l [45] = unsign l := by
  cases l with
  | nil => rfl
  | cons b r =>
    simp only [Lib.trimPrefix, Lib.hasPrefix, unsign, List.isPrefixOf]
    by_cases h : b.toNat = 45
    · have : b = 45 := UInt8.toNat_inj.1 h
      simp [this]
    · have : ¬ b = 45 := fun e => h (by rw [e]; rfl)
      simp [h, Ne.symm this]
theorem trim_string (s : ByteArray) : ∃ d : ByteArray, d.data.toList = unsign s.data.toList ∧ (⟨(Lib.trimPrefix s.data.toList (ByteArray.mk #[45]).data.toList).toArray⟩ : ByteArray) = d :=
  ⟨_, by rw [show (ByteArray.mk #[45]).data.toList = [45] from rfl, trim_unsign], rfl⟩
theorem unsign_le (l : List UInt8) : (unsign l).length ≤ l.length := by
  cases l with
  | nil => simp [unsign]
  | cons b r => simp only [unsign]; split <;> simp

set_option maxHeartbeats 400000 in
theorem isNumber_any (s : ByteArray) (w : World) (hs : s.size ≤ maxLen) :
    Calls Tryd.prog 66 #[.string s] w fun e w' => e = .returned (.bool (isNum s.data.toList)) ∧ w' = w := by
  unfold maxLen at hs
  obtain ⟨d, hd, he⟩ := trim_string s
  have hds : d.size ≤ s.size := by rw [size_len, size_len, hd]; exact unsign_le _
  have Hd : Hid _ := hd
  have Hn : Hid (isNum s.data.toList = ((d.data.toList).all isD && !d.data.toList.isEmpty)) := by show _ = _; rw [hd]; rfl
  have He : Hid _ := he
  clear hd he
  go_enter Tryd.func66, Tryd.ntmps66
  go_wp2_with (go_at_call 74; refine (Tryd.strings_TrimPrefix _ _ _).mono ?_; rintro e w' ⟨rfl, rfl⟩; rw [He.out])
  go_loop [9] (fun i => ∃ k : Nat, k ≤ d.size ∧ i = .int .i64 k ∧ Hid ((d.data.toList).all isD = (d.data.toList.drop k).all isD)) (fun i => d.size - (intOf i).toNat)
  case atStart => exact ⟨0, Nat.zero_le _, rfl, by show _ = _; simp⟩
  case round =>
    obtain ⟨k, hk, rfl, H⟩ := hrel
    by_cases hlt : k < d.size
    · have hdr : Hid _ := drop_step d k hlt
      have hb := byte_le d k hlt
      cases hc : isDI d[k].toNat
      · have nx : Hid (isNum s.data.toList = false) := by
          show _ = _
          rw [Hn.out, H.out, hdr.out]; simp [isD, hc]
        go_wp2_with (go_at_call 75; refine (isDigit_any _ _ (by omega) (by omega)).mono ?_; rintro e w' ⟨rfl, rfl⟩)
        go_ret
        exact ⟨ret_bool (by rw [nx.out]), rfl⟩
      · have nx : Hid ((d.data.toList).all isD = (d.data.toList.drop (k + 1)).all isD) := by
          show _ = _
          rw [H.out, hdr.out]; simp [isD, hc]
        go_wp2_with (go_at_call 75; refine (isDigit_any _ _ (by omega) (by omega)).mono ?_; rintro e w' ⟨rfl, rfl⟩)
        go_round
        case rel => exact ⟨k + 1, by omega, by go_num, nx⟩
        case measure => simp [intOf]; omega
    · have nx : Hid (isNum s.data.toList = !d.data.toList.isEmpty) := by
        show _ = _
        rw [Hn.out, H.out, drop_all d k (by omega)]; simp
      go_wp2
      all_goals go_ret
      all_goals exact ⟨ret_bool (by rw [nx.out, Lib.toList_data]), rfl⟩

set_option maxHeartbeats 400000 in
theorem begNum_any (s : ByteArray) (w : World) :
    Calls Tryd.prog 68 #[.string s] w fun e w' => e = .returned (.bool (begNum s.data.toList)) ∧ w' = w := by
  obtain ⟨d, hd, he⟩ := trim_string s
  have Hn : Hid (begNum s.data.toList = match d.data.toList with | [] => false | x :: _ => isD x) := by show _ = _; rw [hd]; rfl
  have He : Hid _ := he
  clear hd he
  by_cases h0 : d.size = 0
  · have he : d.toList.isEmpty = true := by rw [Lib.toList_data, List.isEmpty_iff_length_eq_zero, ← size_len]; exact h0
    have nx : Hid (begNum s.data.toList = false) := by
      show _ = _
      have : d.data.toList = [] := by rw [← List.length_eq_zero_iff, ← size_len]; exact h0
      rw [Hn.out, this]
    clear h0
    go_enter Tryd.func68, Tryd.ntmps68
    go_wp2_with (go_at_call 74; refine (Tryd.strings_TrimPrefix _ _ _).mono ?_; rintro e w' ⟨rfl, rfl⟩; rw [He.out])
    go_ret
    exact ⟨ret_bool (by rw [nx.out]), rfl⟩
  · have he : d.toList.isEmpty = false := by
      rw [Lib.toList_data, Bool.eq_false_iff]; intro h; rw [List.isEmpty_iff_length_eq_zero, ← size_len] at h; exact h0 h
    have hlt : 0 < d.size := by omega
    have hb := byte_le d 0 hlt
    have nx : Hid (begNum s.data.toList = isDI d[0].toNat) := by
      show _ = _
      have := drop_step d 0 hlt
      rw [List.drop_zero] at this
      rw [Hn.out, this]; rfl
    clear h0
    go_enter Tryd.func68, Tryd.ntmps68
    go_wp2_with (first | (go_at_call 74; refine (Tryd.strings_TrimPrefix _ _ _).mono ?_; rintro e w' ⟨rfl, rfl⟩; rw [He.out]) | (go_at_call 75; refine (isDigit_any _ _ (by omega) (by omega)).mono ?_; rintro e w' ⟨rfl, rfl⟩))
    go_ret
    exact ⟨ret_bool (by rw [nx.out]), rfl⟩

end Go.Proofs.YtejmoopgfnjaaaaDoor
