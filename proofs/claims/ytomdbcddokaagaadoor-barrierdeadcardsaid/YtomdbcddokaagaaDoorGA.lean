/- Plain mathematics of words: a tag and a number in one number of 64 bits, and the numbers' reckoning; it names no program.; The contracts of Make, Of and what they call, of the program and of the document's answer: each returns what the plain functions on numbers say, and leaves the world as it was.; A heap that stands still, and how it is walked: plain mathematics.; Words and cells in memory; isWord.; What the barrier is asked about: plain mathematics.; What lies in memory: blocks, rows of a slice that is owned. -/
import Derived.WalkKit
import Derived.Laws.BitsAllLaws
import Derived.Test.YtomdbcddokaagaaDoorProg
import Derived.Below
import Derived.Deep.QuietTactic
import Derived.WalkSpells
import Derived.WalkLawsBesides
import Derived.BigQuiet
import Derived.OwnWalk
import Derived.Deep.AppendLies
import Derived.Deep.RegionHeld3
import Derived.Lib.SliceRun
import Derived.Laws.IdiomCopy
import Derived.Maps.AppendAt
import Derived.Deep.Cut
/- Plain mathematics of words: a tag and a number in one number of 64 bits, and the numbers' reckoning; it names no program. -/
namespace Go.Proofs.YtomdbcddokaagaaDoor
open Go.RowKit

def isTagB (t : Int) : Bool := decide (1 ≤ t ∧ t ≤ 8)
def lo (t : Int) : Int := if t = 5 then -576460752303423488 else if t = 7 then 1 else 0
def hi (t : Int) : Int := if t = 5 then 576460752303423487 else if t = 7 then 22 else if t = 6 then 2147483647 else if t = 8 then 2147483647 else 0
def mayB (t n : Int) : Bool := decide (lo t ≤ n ∧ n ≤ hi t)
/-- The word of a tag and a number. -/
def mk (t n : Int) : Int := (16 * n + t) % 18446744073709551616
def mkW (t n : Int) : Int := if isTagB t = true then (if mayB t n = true then mk t n else 0) else 0
def mkE (t n : Int) : Int := if isTagB t = true then (if mayB t n = true then 0 else 11) else 10
/-- A word's tag and number. -/
def tg (x : Int) : Int := x % 16
def nm (x : Int) : Int := wrap64 x / 16
def wd (x : Int) : Bool := isTagB (tg x) && mayB (tg x) (nm x)
def ofT (x : Int) : Int := if wd x = true then tg x else 0
def ofN (x : Int) : Int := if wd x = true then nm x else 0
def Rng (x : Int) : Prop := 0 ≤ x ∧ x ≤ 18446744073709551615

theorem isTag_iff {t : Int} : isTagB t = true ↔ 1 ≤ t ∧ t ≤ 8 := by unfold isTagB; simp
theorem may_iff {t n : Int} : mayB t n = true ↔ lo t ≤ n ∧ n ≤ hi t := by unfold mayB; simp
theorem lo_ge (t : Int) : -576460752303423488 ≤ lo t := by unfold lo; split <;> (try split) <;> omega
theorem hi_le (t : Int) : hi t ≤ 576460752303423487 := by unfold hi; repeat' split
                                                          all_goals omega
theorem may_bd {t n : Int} (h : mayB t n = true) : -576460752303423488 ≤ n ∧ n ≤ 576460752303423487 := by
  have := may_iff.1 h; have := lo_ge t; have := hi_le t; omega
theorem mk_rng (t n : Int) : Rng (mk t n) := by unfold Rng mk; omega
theorem mkW_rng (t n : Int) : Rng (mkW t n) := by
  unfold mkW; repeat' split
  · exact mk_rng t n
  all_goals (unfold Rng; omega)

theorem and15 (x : Int) (h : Rng x) : bits .and .u64 x 15 = tg x := by
  obtain ⟨h0, h1⟩ := h
  rw [u64_and x 15 h0 (by omega) (by omega) (by omega)]
  have e : x.toNat &&& 15 = x.toNat % 16 := Nat.and_two_pow_sub_one_eq_mod x.toNat 4
  rw [show (15 : Int).toNat = 15 from rfl, e]
  unfold tg; omega
theorem or_tag (n t : Int) (h0 : 0 ≤ t) (h1 : t < 16) : bits .or .u64 (IntKind.u64.wrap (IntKind.u64.wrap n * 16)) t = mk t n := by
  rw [IntKind.wrap_u64, IntKind.wrap_u64]
  have hd : (n % 18446744073709551616 * 16) % 18446744073709551616 = 16 * (n % 1152921504606846976) := by omega
  rw [hd, u64_or _ t (by omega) (by omega) h0 (by omega)]
  have e : (16 * (n % 1152921504606846976)).toNat ||| t.toNat = 16 * (n % 1152921504606846976).toNat + t.toNat := by
    have := Nat.two_pow_add_eq_or_of_lt (i := 4) (b := t.toNat) (by omega) (n % 1152921504606846976).toNat
    rw [show (16 * (n % 1152921504606846976)).toNat = 2 ^ 4 * (n % 1152921504606846976).toNat by omega, ← this]
  rw [e]; unfold mk; omega
theorem tg_bd (x : Int) : 0 ≤ tg x ∧ tg x ≤ 15 := by unfold tg; omega
/-- There and back: the tag, the number; and the word. -/
theorem tg_mk {t : Int} (n : Int) (h0 : 0 ≤ t) (h1 : t < 16) : tg (mk t n) = t := by unfold tg mk; omega
theorem nm_mk {t n : Int} (h0 : 0 ≤ t) (h1 : t < 16) (h : -576460752303423488 ≤ n ∧ n ≤ 576460752303423487) : nm (mk t n) = n := by unfold nm mk wrap64; omega
theorem mk_of {x : Int} (h : Rng x) : mk (tg x) (nm x) = x := by unfold Rng at h; unfold nm mk tg wrap64; omega
theorem nm_bd (x : Int) : -576460752303423488 ≤ nm x ∧ nm x ≤ 576460752303423487 := by unfold nm wrap64; omega
theorem wd_iff {x : Int} : wd x = true ↔ isTagB (tg x) = true ∧ mayB (tg x) (nm x) = true := by unfold wd; simp
theorem wd_mk {t n : Int} (h : isTagB t = true) (hm : mayB t n = true) : wd (mk t n) = true := by
  have := isTag_iff.1 h
  rw [wd_iff, tg_mk n (by omega) (by omega), nm_mk (by omega) (by omega) (may_bd hm)]; exact ⟨h, hm⟩
theorem nm_alt (x : Int) (h : Rng x) : nm x = if x / 16 ≤ 576460752303423487 then x / 16 else x / 16 - 1152921504606846976 := by
  unfold Rng at h; unfold nm wrap64; split <;> omega
theorem ofT_bd (x : Int) : 0 ≤ ofT x ∧ ofT x ≤ 15 := by have := tg_bd x; unfold ofT; split <;> omega
theorem ofN_bd (x : Int) : -576460752303423488 ≤ ofN x ∧ ofN x ≤ 576460752303423487 := by have := nm_bd x; unfold ofN; split <;> omega

/-- What is reckoned of two words. -/
def bothB (a b : Int) : Bool := (ofT a == 5) && (ofT b == 5)
def resW (b : Bool) (v : Int) : Int := if b = true then mkW 5 v else 0
def resE (b : Bool) (v : Int) : Int := if b = true then mkE 5 v else 10
def divW (b : Bool) (m v : Int) : Int := if b = true then (if m = 0 then 0 else mkW 5 v) else 0
def divE (b : Bool) (m v : Int) : Int := if b = true then (if m = 0 then 12 else mkE 5 v) else 10
def addW (a b : Int) : Int := resW (bothB a b) (ofN a + ofN b)
def addE (a b : Int) : Int := resE (bothB a b) (ofN a + ofN b)
def subW (a b : Int) : Int := resW (bothB a b) (ofN a - ofN b)
def subE (a b : Int) : Int := resE (bothB a b) (ofN a - ofN b)
def mulW (a b : Int) : Int := resW (bothB a b) (ofN a * ofN b)
def mulE (a b : Int) : Int := resE (bothB a b) (ofN a * ofN b)
def quoW (a b : Int) : Int := divW (bothB a b) (ofN b) ((ofN a).tdiv (ofN b))
def quoE (a b : Int) : Int := divE (bothB a b) (ofN b) ((ofN a).tdiv (ofN b))
def remW (a b : Int) : Int := divW (bothB a b) (ofN b) ((ofN a).tmod (ofN b))
def remE (a b : Int) : Int := divE (bothB a b) (ofN b) ((ofN a).tmod (ofN b))
def lessB (a b : Int) : Bool := bothB a b && decide (ofN a < ofN b)
def lessE (a b : Int) : Int := if bothB a b = true then 0 else 10

theorem resW_rng (b : Bool) (v : Int) : Rng (resW b v) := by
  unfold resW; split
  · exact mkW_rng 5 v
  · unfold Rng; omega
theorem divW_rng (b : Bool) (m v : Int) : Rng (divW b m v) := by
  unfold divW; repeat' split
  · unfold Rng; omega
  · exact mkW_rng 5 v
  · unfold Rng; omega
theorem may5 {v : Int} : mayB 5 v = true ↔ -576460752303423488 ≤ v ∧ v ≤ 576460752303423487 := by rw [may_iff]; simp [lo, hi]
theorem over5 {v : Int} (h : ¬ (-576460752303423488 ≤ v ∧ v ≤ 576460752303423487)) : mkW 5 v = 0 ∧ mkE 5 v = 11 := by
  have hm : mayB 5 v = false := by rw [← Bool.not_eq_true, may5]; exact h
  have ht : isTagB 5 = true := rfl
  exact ⟨by simp [mkW, ht, hm], by simp [mkE, ht, hm]⟩
theorem in5 {v : Int} (h : -576460752303423488 ≤ v ∧ v ≤ 576460752303423487) : mkW 5 v = mk 5 v ∧ mkE 5 v = 0 := by
  have hm : mayB 5 v = true := may5.2 h
  have ht : isTagB 5 = true := rfl
  exact ⟨by simp [mkW, ht, hm], by simp [mkE, ht, hm]⟩
/-- A product that was wrapped round: the test by a quotient finds it out. -/
theorem wrap_id {v : Int} (h0 : -9223372036854775808 ≤ v) (h1 : v ≤ 9223372036854775807) : wrap64 v = v := by unfold wrap64; omega
theorem wrap_bd (v : Int) : -9223372036854775808 ≤ wrap64 v ∧ wrap64 v ≤ 9223372036854775807 := by unfold wrap64; omega
theorem tdiv_abs (x k : Int) : -(x.natAbs : Int) ≤ x.tdiv k ∧ x.tdiv k ≤ (x.natAbs : Int) := by
  have h := Int.natAbs_tdiv x k
  have h2 : x.natAbs.div k.natAbs ≤ x.natAbs := Nat.div_le_self _ _
  rw [← h] at h2
  omega
theorem mul_yes {m n : Int} (hm : m ≠ 0) (h : wrap64 ((wrap64 (m * n)).tdiv m) = n)
    (hmb : -576460752303423488 ≤ m ∧ m ≤ 576460752303423487) (hnb : -576460752303423488 ≤ n ∧ n ≤ 576460752303423487) :
    wrap64 (m * n) = m * n := by
  generalize hp : wrap64 (m * n) = p at *
  have hpb := wrap_bd (m * n); rw [hp] at hpb
  have hq := tdiv_abs p m
  by_cases hz : p.tdiv m = 9223372036854775808
  · rw [hz] at h; unfold wrap64 at h; omega
  · rw [wrap_id (by omega) (by omega)] at h
    have hd := Int.tmod_add_tdiv_mul p m
    rw [h] at hd
    have hr : (p.tmod m).natAbs < m.natAbs := by
      rw [Int.natAbs_tmod]; exact Nat.mod_lt _ (by omega)
    have e : p = p.tmod m + m * n := by rw [Int.mul_comm m n]; omega
    generalize p.tmod m = r at *
    generalize m * n = v at *
    unfold wrap64 at hp
    omega
theorem mul_no {m n : Int} (hm : m ≠ 0) (h : wrap64 ((wrap64 (m * n)).tdiv m) ≠ n)
    (hnb : -576460752303423488 ≤ n ∧ n ≤ 576460752303423487) :
    ¬ (-576460752303423488 ≤ m * n ∧ m * n ≤ 576460752303423487) := by
  intro hv
  rw [wrap_id (v := m * n) (by omega) (by omega), Int.mul_tdiv_cancel_left _ hm, wrap_id (by omega) (by omega)] at h
  exact h rfl
theorem tdiv_bd {m n : Int} (hmb : -576460752303423488 ≤ m ∧ m ≤ 576460752303423487) :
    -576460752303423488 ≤ m.tdiv n ∧ m.tdiv n ≤ 576460752303423488 := by have := tdiv_abs m n; omega
theorem tmod_bd {m n : Int} (hmb : -576460752303423488 ≤ m ∧ m ≤ 576460752303423487) :
    -576460752303423488 ≤ m.tmod n ∧ m.tmod n ≤ 576460752303423487 := by
  have h := Int.natAbs_tmod m n
  have h2 : m.natAbs % n.natAbs ≤ m.natAbs := Nat.mod_le _ _
  rcases Int.le_total 0 m with h0 | h0
  · have := Int.tmod_nonneg n h0; omega
  · have : m.tmod n ≤ 0 := by
      have := Int.tmod_nonneg n (show 0 ≤ -m by omega)
      rw [Int.neg_tmod] at this; omega
    omega
theorem rem_eq (m n : Int) : m - n * m.tdiv n = m.tmod n := by have := Int.tmod_add_tdiv_mul m n; rw [Int.mul_comm] at this; omega
end Go.Proofs.YtomdbcddokaagaaDoor

/- The contracts of Make, Of and what they call, of the program and of the document's answer: each returns what the plain functions on numbers say, and leaves the world as it was. -/
namespace Go.Proofs.YtomdbcddokaagaaDoor
open Go.RowKit

/-- The table lies in its block as its initialiser lays it. -/
def Tab (w : World) : Prop := ∀ t : Nat, t < 9 → w.cell? ⟨0, t * 2, none⟩ = some (.int .i64 (lo t)) ∧ w.cell? ⟨0, t * 2 + 1, none⟩ = some (.int .i64 (hi t))

theorem ret_bool {a b : Bool} (h : a = b) : Ending.returned (.bool a) = .returned (.bool b) := by rw [h]
theorem ret_we {a b c d : Int} (h : a = b) (h' : c = d) : Ending.returned (.tuple #[.int .u64 a, .int .i64 c]) = .returned (.tuple #[.int .u64 b, .int .i64 d]) := by rw [h, h']
theorem ret_of {a b c d : Int} {p q : Bool} (h : a = b) (h' : c = d) (hb : p = q) : Ending.returned (.tuple #[.int .u8 a, .int .i64 c, .bool p]) = .returned (.tuple #[.int .u8 b, .int .i64 d, .bool q]) := by rw [h, h', hb]

set_option maxHeartbeats 400000 in
theorem isTag_any (t : Int) (w : World) (h0 : 0 ≤ t) (h1 : t ≤ 255) :
    Calls Tryd.prog 103 #[.int .u8 t] w fun e w' => e = .returned (.bool (isTagB t)) ∧ w' = w := by
  go_enter Tryd.func103, Tryd.ntmps103
  go_wp2
  all_goals go_ret
  all_goals exact ⟨ret_bool (by unfold isTagB; rw [Bool.eq_iff_iff]; simp; omega), rfl⟩

set_option maxHeartbeats 400000 in
theorem isNumberOf_any (t n : Int) (w : World) (ht : 1 ≤ t) (ht' : t ≤ 8) (hT : Tab w) :
    Calls Tryd.prog 104 #[.int .u8 t, .int .i64 n] w fun e w' => e = .returned (.bool (mayB t n)) ∧ w' = w := by
  obtain ⟨k, rfl⟩ := Int.eq_ofNat_of_zero_le (show 0 ≤ t by omega)
  obtain ⟨c1, c2⟩ := hT k (by omega)
  clear hT
  have hk : k < 9 := by omega
  generalize hl : lo k = l at *
  generalize hh : hi k = h at *
  have Hl : Hid (lo k = l) := hl
  have Hh : Hid (hi k = h) := hh
  clear hl hh
  go_enter Tryd.func104, Tryd.ntmps104
  go_wp2
  all_goals go_ret
  all_goals exact ⟨ret_bool (by unfold mayB; rw [Hl.out, Hh.out, Bool.eq_iff_iff]; simp; omega), rfl⟩

set_option maxHeartbeats 400000 in
theorem of_any (x : Int) (w : World) (hx : Rng x) (hT : Tab w) :
    Calls Tryd.prog 95 #[.int .u64 x] w fun e w' => e = .returned (.tuple #[.int .u8 (ofT x), .int .i64 (ofN x), .bool (wd x)]) ∧ w' = w := by
  have HT : Hid (Tab w) := hT
  clear hT
  have ha := and15 x hx
  have hb := tg_bd x
  have e256 : tg x % 256 = tg x := by omega
  have en : wrap64 x / 16 = nm x := rfl
  obtain ⟨hx0, hx1⟩ := hx
  cases h : isTagB (tg x)
  · go_enter Tryd.func95, Tryd.ntmps95
    go_wp2_with (first | (go_at_call 103; refine (isTag_any _ _ (by omega) (by omega)).mono ?_; rintro e w' ⟨rfl, rfl⟩))
    go_ret3
    exact ⟨ret_of (by simp [ofT, wd, h]) (by simp [ofN, wd, h]) (by simp [wd, h]), rfl⟩
  · have ht := isTag_iff.1 h
    obtain ⟨h1', h8⟩ := ht
    cases hm : mayB (tg x) (nm x)
    · go_enter Tryd.func95, Tryd.ntmps95
      go_wp2_with (first | (go_at_call 103; refine (isTag_any _ _ (by omega) (by omega)).mono ?_; rintro e w' ⟨rfl, rfl⟩) | (go_at_call 104; refine (isNumberOf_any _ _ _ (by omega) (by omega) HT.out).mono ?_; rintro e w' ⟨rfl, rfl⟩))
      go_ret3
      exact ⟨ret_of (by simp [ofT, wd, h, hm]) (by simp [ofN, wd, h, hm]) (by simp [wd, h, hm]), rfl⟩
    · go_enter Tryd.func95, Tryd.ntmps95
      go_wp2_with (first | (go_at_call 103; refine (isTag_any _ _ (by omega) (by omega)).mono ?_; rintro e w' ⟨rfl, rfl⟩) | (go_at_call 104; refine (isNumberOf_any _ _ _ (by omega) (by omega) HT.out).mono ?_; rintro e w' ⟨rfl, rfl⟩))
      go_ret3
      exact ⟨ret_of (by simp [ofT, wd, h, hm]) (by simp [ofN, wd, h, hm]) (by simp [wd, h, hm]), rfl⟩

theorem Tab.lt {w : World} (h : Tab w) : 0 < w.heap.size := by
  have h0 := (h 0 (by omega)).1
  rcases Nat.lt_or_ge 0 w.heap.size with h' | h'
  · exact h'
  · simp [World.cell?, Array.getElem?_eq_none h'] at h0
theorem Tab.below {w w' : World} (h : Tab w) (hb : Below w.heap.size w w') : Tab w' := fun t ht =>
  ⟨(hb.cell (p := ⟨0, t * 2, none⟩) h.lt).trans (h t ht).1, (hb.cell (p := ⟨0, t * 2 + 1, none⟩) h.lt).trans (h t ht).2⟩
theorem heap_lt {w : World} {b : Nat} {o : Obj} (h : w.heap[b]? = some o) : b < w.heap.size := (Array.getElem?_eq_some_iff.1 h).1
theorem heap_cell {w : World} {b j : Nat} {cs : Array Value} {t : TypeId} {v : Value} (h : w.heap[b]? = some (.cells cs t (0, 0))) (hv : cs[j]? = some v) : w.cell? ⟨b, j, none⟩ = some v := by
  simp [World.cell?, h, hv]
/-- The cell of a word, and whether it names one. -/
def cellV (x : Int) : Int := if ofT x = 8 then ofN x else 0
def refB (x : Int) : Bool := ofT x == 8
set_option maxHeartbeats 400000 in
theorem cell_any (x : Int) (w : World) (hx : Rng x) (hT : Tab w) :
    Calls Tryd.prog 78 #[.int .u64 x] w fun e w' => e = .returned (.tuple #[.int .i64 (cellV x), .bool (refB x)]) ∧ w' = w := by
  have HT : Hid (Tab w) := hT
  have HR : Hid (Rng x) := hx
  clear hT hx
  cases hw : wd x
  · have HV : Hid (cellV x = 0 ∧ refB x = false) := by
      have : ofT x = 0 := by unfold ofT; rw [hw]; rfl
      exact ⟨by unfold cellV; rw [this]; rfl, by unfold refB; rw [this]; rfl⟩
    go_enter Tryd.func78, Tryd.ntmps78
    go_wp2_with (first | (go_at_call 95; refine (of_any _ _ HR.out HT.out).mono ?_; rintro e w' ⟨rfl, rfl⟩))
    go_ret2
    exact ⟨by rw [HV.out.1, HV.out.2]; rfl, rfl⟩
  · cases h8 : (ofT x == 8)
    · have h8' : (ofT x != 8) = true := by simp [bne, h8]
      have HV : Hid (cellV x = 0 ∧ refB x = false) := ⟨by unfold cellV; rw [if_neg (by simpa using h8)], h8⟩
      go_enter Tryd.func78, Tryd.ntmps78
      go_wp2_with (first | (go_at_call 95; refine (of_any _ _ HR.out HT.out).mono ?_; rintro e w' ⟨rfl, rfl⟩))
      go_ret2
      exact ⟨by rw [HV.out.1, HV.out.2]; rfl, rfl⟩
    · have h8' : (ofT x != 8) = false := by simp [bne, h8]
      have HV : Hid (cellV x = ofN x ∧ refB x = true) := ⟨by unfold cellV; rw [if_pos (by simpa using h8)], h8⟩
      go_enter Tryd.func78, Tryd.ntmps78
      go_wp2_with (first | (go_at_call 95; refine (of_any _ _ HR.out HT.out).mono ?_; rintro e w' ⟨rfl, rfl⟩))
      go_ret2
      exact ⟨by rw [HV.out.1, HV.out.2]; rfl, rfl⟩
end Go.Proofs.YtomdbcddokaagaaDoor

/- A heap that stands still, and how it is walked: plain mathematics. -/
namespace Go.Proofs.YtomdbcddokaagaaDoor

structure Cl where
  k : Int
  c : Int
  a : Int
  b : Int
/-- The cell that a word names. -/
def refN (x : Int) : Option Nat := if ofT x = 8 then some (ofN x).toNat else none
/-- May a word stand in a heap of n cells? -/
def fitsW (n : Nat) (x : Int) : Bool := wd x && (match refN x with | some c => decide (c < n) | none => true)
def okCl (n : Nat) (x : Cl) : Bool := (decide (x.k ≤ 3) && decide (x.c ≤ 2)) && (decide (x.k = 0) || (fitsW n x.a && fitsW n x.b))
/-- The least cell that is not so. -/
def badC (n : Nat) : List Cl → Nat → Option Nat
  | [], _ => none
  | x :: r, j => if okCl n x then badC n r (j + 1) else some j
def heapB (h : List Cl) (roots : List Int) : Bool := (badC h.length h 0).isNone && roots.all (fitsW h.length)

/-- What is met: the cells, each with the one that named it first (-1: a root). -/
abbrev St := List (Nat × Int)
def metB (r : St) (c : Nat) : Bool := r.any (fun p => p.1 == c)
def lookM (r : St) (x : Int) (q : Int) : St := match refN x with
  | none => r
  | some c => if metB r c then r else r ++ [(c, q)]
/-- A cell's words in the order in which they are met. -/
def ownW (s : Bool) (x : Cl) : Int × Int := if s then (min x.a x.b, max x.a x.b) else (x.a, x.b)
def goM (h : List Cl) (s : Bool) : Nat → Nat → St → St
  | 0, _, r => r
  | f + 1, at', r => match r[at']? with
    | none => r
    | some p => match h[p.1]? with
      | none => r
      | some x => goM h s f (at' + 1) (if x.k = 0 then r else lookM (lookM r (ownW s x).1 p.1) (ownW s x).2 p.1)
def rootsM (roots : List Int) (r : St) : St := roots.foldl (fun r x => lookM r x (-1)) r
def walkM (h : List Cl) (s : Bool) (roots : List Int) : St := goM h s h.length 0 (rootsM roots [])

theorem metB_iff {r : St} {c : Nat} : metB r c = true ↔ ∃ q, (c, q) ∈ r := by
  unfold metB
  rw [List.any_eq_true]
  constructor
  · rintro ⟨⟨a, q⟩, h, e⟩
    have : a = c := by simpa using e
    exact ⟨q, by rw [← this]; exact h⟩
  · rintro ⟨q, h⟩
    exact ⟨(c, q), h, by simp⟩
/-- As a row of cells that are met is. -/
structure OkS (n : Nat) (r : St) : Prop where
  nd : (r.map (·.1)).Nodup
  lt : ∀ p ∈ r, p.1 < n
theorem OkS.nil (n : Nat) : OkS n [] := ⟨List.nodup_nil, fun p hp => by cases hp⟩
theorem ref_fits {n : Nat} {x : Int} {c : Nat} (h : fitsW n x = true) (hc : refN x = some c) : c < n := by
  unfold fitsW at h
  rw [hc] at h
  rw [Bool.and_eq_true] at h
  exact of_decide_eq_true h.2
theorem OkS.look {n : Nat} {r : St} (h : OkS n r) {x q : Int} (hx : fitsW n x = true) : OkS n (lookM r x q) := by
  unfold lookM
  split
  · exact h
  · rename_i c hc
    split
    · exact h
    · rename_i hm
      refine ⟨?_, fun p hp => ?_⟩
      · rw [List.map_append, List.nodup_append]
        refine ⟨h.nd, by simp, fun a ha b hb => ?_⟩
        have : b = c := by simpa using hb
        subst this
        intro e
        subst e
        obtain ⟨⟨a', q'⟩, hp, rfl⟩ := List.mem_map.1 ha
        exact hm (metB_iff.2 ⟨q', hp⟩)
      · rcases List.mem_append.1 hp with hp | hp
        · exact h.lt p hp
        · rw [List.mem_singleton.1 hp]; exact ref_fits hx hc
theorem OkS.len {n : Nat} {r : St} (h : OkS n r) : r.length ≤ n := by
  have h1 : (r.map (·.1)).length ≤ (List.range n).length := by
    refine List.Nodup.length_le_of_subset h.nd (fun c hc => ?_)
    obtain ⟨p, hp, rfl⟩ := List.mem_map.1 hc
    exact List.mem_range.2 (h.lt p hp)
  simpa using h1
theorem OkS.roots {n : Nat} : ∀ (l : List Int) {r : St}, OkS n r → (∀ x ∈ l, fitsW n x = true) → OkS n (rootsM l r)
  | [], _, h, _ => h
  | x :: l, r, h, hx => by
    show OkS n (rootsM l (lookM r x (-1)))
    exact OkS.roots l (h.look (hx x (List.mem_cons_self ..))) (fun y hy => hx y (List.mem_cons_of_mem _ hy))
theorem badC_none {n : Nat} : ∀ (l : List Cl) (j : Nat), badC n l j = none → ∀ x ∈ l, okCl n x = true
  | [], _, _ => fun x hx => by cases hx
  | y :: r, j, h => by
    unfold badC at h
    split at h
    · rename_i hy
      intro x hx
      rcases List.mem_cons.1 hx with h1 | h1
      · subst h1; exact hy
      · exact badC_none r (j + 1) h x h1
    · cases h
theorem heap_ok {h : List Cl} {roots : List Int} (hh : heapB h roots = true) : (∀ x ∈ h, okCl h.length x = true) ∧ ∀ x ∈ roots, fitsW h.length x = true := by
  unfold heapB at hh
  rw [Bool.and_eq_true] at hh
  refine ⟨badC_none h 0 (by simpa using hh.1), fun x hx => ?_⟩
  exact List.all_eq_true.1 hh.2 x hx
theorem own_fits {n : Nat} {x : Cl} (s : Bool) (h : okCl n x = true) (hk : x.k ≠ 0) : fitsW n (ownW s x).1 = true ∧ fitsW n (ownW s x).2 = true := by
  unfold okCl at h
  have h2 : fitsW n x.a = true ∧ fitsW n x.b = true := by
    simp only [Bool.and_eq_true, Bool.or_eq_true, decide_eq_true_eq] at h
    exact h.2.resolve_left hk
  unfold ownW
  split
  · simp only
    constructor
    · rcases Int.le_total x.a x.b with h | h
      · rw [Int.min_eq_left h]; exact h2.1
      · rw [Int.min_eq_right h]; exact h2.2
    · rcases Int.le_total x.a x.b with h | h
      · rw [Int.max_eq_right h]; exact h2.2
      · rw [Int.max_eq_left h]; exact h2.1
  · exact h2
/-- One round of the walk. -/
def roundM (h : List Cl) (s : Bool) (at' : Nat) (r : St) : St := match r[at']? with
  | none => r
  | some p => match h[p.1]? with
    | none => r
    | some x => if x.k = 0 then r else lookM (lookM r (ownW s x).1 p.1) (ownW s x).2 p.1
theorem OkS.round {h : List Cl} {s : Bool} {at' : Nat} {r : St} (hr : OkS h.length r) (hh : ∀ x ∈ h, okCl h.length x = true) : OkS h.length (roundM h s at' r) := by
  unfold roundM
  split
  · exact hr
  · split
    · exact hr
    · rename_i x hx
      split
      · exact hr
      · rename_i hk
        have := own_fits s (hh x (List.mem_of_getElem? hx)) hk
        exact (hr.look this.1).look this.2
theorem goM_step {h : List Cl} {s : Bool} {f at' : Nat} {r : St} (hr : OkS h.length r) (ha : at' < r.length) : goM h s (f + 1) at' r = goM h s f (at' + 1) (roundM h s at' r) := by
  have h1 := List.getElem?_eq_getElem ha
  have h2 : r[at'].1 < h.length := hr.lt _ (List.getElem_mem ha)
  have h3 := List.getElem?_eq_getElem h2
  rw [goM, h1]; dsimp only; rw [h3]
  unfold roundM; rw [h1]; dsimp only; rw [h3]
theorem goM_end {h : List Cl} {s : Bool} {f at' : Nat} {r : St} (ha : r.length ≤ at') : goM h s f at' r = r := by
  cases f with
  | zero => rfl
  | succ f => unfold goM; rw [List.getElem?_eq_none ha]
end Go.Proofs.YtomdbcddokaagaaDoor

/- Words and cells in memory; isWord. -/
namespace Go.Proofs.YtomdbcddokaagaaDoor
open Go.RowKit

/-- A row of words that is read. -/
def WR (w : World) (ra : Option Addr) (l : List Int) : Prop := ∃ b o, (l.length = 0 ∨ ra = some ⟨b, o, none⟩) ∧ ∀ (j : Nat) (x : Int), l[j]? = some x → b < w.heap.size ∧ w.cell? ⟨b, o + j, none⟩ = some (.int .u64 x) ∧ Rng x
structure OkK (x : Cl) : Prop where
  k : 0 ≤ x.k ∧ x.k ≤ 255
  c : 0 ≤ x.c ∧ x.c ≤ 255
  a : Rng x.a
  b : Rng x.b
/-- A row of cells that is read. -/
def HR (w : World) (ra : Option Addr) (l : List Cl) : Prop := ∃ b o, (l.length = 0 ∨ ra = some ⟨b, o, none⟩) ∧ ∀ (j : Nat) (x : Cl), l[j]? = some x → b < w.heap.size ∧ (w.cell? ⟨b, o + j * 4, none⟩ = some (.int .u8 x.k) ∧ w.cell? ⟨b, o + j * 4 + 1, none⟩ = some (.int .u8 x.c) ∧ w.cell? ⟨b, o + j * 4 + 1 + 1, none⟩ = some (.int .u64 x.a) ∧ w.cell? ⟨b, o + j * 4 + 1 + 1 + 1, none⟩ = some (.int .u64 x.b)) ∧ OkK x
theorem WR.below {w w' : World} {ra : Option Addr} {l : List Int} (h : WR w ra l) (hb : Below w.heap.size w w') : WR w' ra l := by
  obtain ⟨b, o, h1, h2⟩ := h
  exact ⟨b, o, h1, fun j x hx => ⟨Nat.lt_of_lt_of_le (h2 j x hx).1 hb.size, (hb.cell (p := ⟨b, o + j, none⟩) (h2 j x hx).1).trans (h2 j x hx).2.1, (h2 j x hx).2.2⟩⟩
theorem HR.below {w w' : World} {ra : Option Addr} {l : List Cl} (h : HR w ra l) (hb : Below w.heap.size w w') : HR w' ra l := by
  obtain ⟨b, o, h1, h2⟩ := h
  refine ⟨b, o, h1, fun j x hx => ?_⟩
  obtain ⟨g, ⟨a0, a1, a2, a3⟩, k⟩ := h2 j x hx
  have e := fun q => hb.cell (p := ⟨b, q, none⟩) g
  exact ⟨Nat.lt_of_lt_of_le g hb.size, ⟨(e _).trans a0, (e _).trans a1, (e _).trans a2, (e _).trans a3⟩, k⟩
theorem ofN_ref {x : Int} (h : refB x = true) : 0 ≤ ofN x ∧ ofN x ≤ 2147483647 := by
  have h8 : ofT x = 8 := by simpa [refB] using h
  have hw : wd x = true := by
    cases hw : wd x
    · unfold ofT at h8; rw [hw] at h8; simp at h8
    · rfl
  unfold ofT at h8
  rw [if_pos hw] at h8
  have := (may_iff.1 (wd_iff.1 hw).2)
  rw [h8] at this
  unfold ofN
  rw [if_pos hw]
  simp [lo, hi] at this
  exact this
/-- May a word stand there, by what the program reckons? -/
theorem fits_is (n : Nat) (x : Int) : fitsW n x = (wd x && (!refB x || decide (cellV x < (n : Int)))) := by
  unfold fitsW refN
  cases hr : refB x
  · have : ¬ ofT x = 8 := by simpa [refB] using hr
    rw [if_neg this]; rfl
  · have h8 : ofT x = 8 := by simpa [refB] using hr
    have hb := ofN_ref hr
    rw [if_pos h8]
    unfold cellV
    rw [if_pos h8]
    congr 1
    show decide ((ofN x).toNat < n) = decide (ofN x < (n : Int))
    exact decide_eq_decide.2 (by omega)
set_option maxRecDepth 100000 in
set_option maxHeartbeats 4000000 in
theorem isWord_any (x : Int) (n : Nat) (w : World) (hx : Rng x) (hT : Tab w) :
    Calls Tryd.prog 98 #[.int .u64 x, .int .i64 n] w fun e w' => e = .returned (.bool (fitsW n x)) ∧ w' = w := by
  have HV : Hid (fitsW n x = (wd x && (!refB x || decide (cellV x < (n : Int))))) := fits_is n x
  have HO : Hid (Calls Tryd.prog 95 #[.int .u64 x] w fun e w' => e = .returned (.tuple #[.int .u8 (ofT x), .int .i64 (ofN x), .bool (wd x)]) ∧ w' = w) := of_any x w hx hT
  have HC : Hid (Calls Tryd.prog 78 #[.int .u64 x] w fun e w' => e = .returned (.tuple #[.int .i64 (cellV x), .bool (refB x)]) ∧ w' = w) := cell_any x w hx hT
  clear hx hT
  generalize fitsW n x = fv at *
  generalize wd x = b1 at *
  generalize refB x = b2 at *
  generalize cellV x = cv at *
  cases b1
  · go_enter Tryd.func98, Tryd.ntmps98
    go_wp2_with (first | (go_at_call 95; refine HO.out.mono ?_; rintro e w' ⟨rfl, rfl⟩))
    go_ret
    exact ⟨by rw [HV.out]; rfl, rfl⟩
  · cases b2
    · go_enter Tryd.func98, Tryd.ntmps98
      go_wp2_with (first | (go_at_call 95; refine HO.out.mono ?_; rintro e w' ⟨rfl, rfl⟩) | (go_at_call 78; refine HC.out.mono ?_; rintro e w' ⟨rfl, rfl⟩))
      go_ret
      exact ⟨by rw [HV.out]; rfl, rfl⟩
    · go_enter Tryd.func98, Tryd.ntmps98
      go_wp2_with (first | (go_at_call 95; refine HO.out.mono ?_; rintro e w' ⟨rfl, rfl⟩) | (go_at_call 78; refine HC.out.mono ?_; rintro e w' ⟨rfl, rfl⟩))
      go_ret
      exact ⟨by rw [HV.out]; rfl, rfl⟩
end Go.Proofs.YtomdbcddokaagaaDoor

/- What the barrier is asked about: plain mathematics. -/
namespace Go.Proofs.YtomdbcddokaagaaDoor

structure Ln where
  roots : List Int
  sc : Bool
  en : Bool
structure Vw where
  h : List Cl
  ph : Int
  sw : Int
  grey : List Int
  gl : List Int
  laid : Int
  lanes : List Ln
/-- Something that names cells: its sort (0 a cell, 1 a global, 2 a lane), its place, its words. -/
structure Hd where
  s : Nat
  i : Nat
  ws : List Int
def usedB (x : Cl) : Bool := !decide (x.k = 0)
def whiteB (x : Cl) : Bool := usedB x && decide (x.c = 0)
def greyB (x : Cl) : Bool := usedB x && decide (x.c = 1)
def cellsH : List Cl → Nat → List Hd
  | [], _ => []
  | x :: r, i => if x.k = 0 then cellsH r (i + 1) else ⟨0, i, [x.a, x.b]⟩ :: cellsH r (i + 1)
def globsH : List Int → Nat → List Hd
  | [], _ => []
  | x :: r, i => ⟨1, i, [x]⟩ :: globsH r (i + 1)
def lanesH : List Ln → Nat → List Hd
  | [], _ => []
  | x :: r, i => ⟨2, i, x.roots⟩ :: lanesH r (i + 1)
def holdersM (v : Vw) : List Hd := cellsH v.h 0 ++ (globsH v.gl 0 ++ lanesH v.lanes 0)
/-- What the collector makes of it. -/
def colM (v : Vw) (x : Hd) : Int := if x.s = 0 then (match v.h[x.i]? with | some c => c.c | none => 0) else if x.s = 1 ∧ v.laid ≤ (x.i : Int) then 1 else if x.s = 2 ∧ (match v.lanes[x.i]? with | some l => l.sc | none => true) = false then 1 else 2
/-- The cells that some holders name. -/
def namedM (v : Vw) (counts : Hd → Bool) (c : Nat) : Bool := (holdersM v).any (fun x => counts x && x.ws.any (fun w => refN w == some c))
def wordsOk (v : Vw) : Bool := (holdersM v).all (fun x => x.ws.all (fitsW v.h.length))
theorem cellsH_take : ∀ (h : List Cl) (i j : Nat) (x : Cl), h[j]? = some x → cellsH (h.take (j + 1)) i = cellsH (h.take j) i ++ if x.k = 0 then [] else [⟨0, i + j, [x.a, x.b]⟩]
  | [], i, j, x, hx => by simp at hx
  | y :: r, i, 0, x, hx => by
    have e : y = x := by simpa using hx
    subst e
    simp only [List.take_succ_cons, List.take_zero, cellsH, List.nil_append, Nat.add_zero]
  | y :: r, i, j + 1, x, hx => by
    have hx' : r[j]? = some x := by simpa using hx
    have := cellsH_take r (i + 1) j x hx'
    rw [List.take_succ_cons, List.take_succ_cons]
    unfold cellsH
    rw [this, show i + 1 + j = i + (j + 1) by omega]
    split
    · rfl
    · rfl
theorem globsH_take : ∀ (h : List Int) (i j : Nat) (x : Int), h[j]? = some x → globsH (h.take (j + 1)) i = globsH (h.take j) i ++ [⟨1, i + j, [x]⟩]
  | [], i, j, x, hx => by simp at hx
  | y :: r, i, 0, x, hx => by
    have e : y = x := by simpa using hx
    subst e
    simp only [List.take_succ_cons, List.take_zero, globsH, List.nil_append, Nat.add_zero]
  | y :: r, i, j + 1, x, hx => by
    have hx' : r[j]? = some x := by simpa using hx
    have := globsH_take r (i + 1) j x hx'
    rw [List.take_succ_cons, List.take_succ_cons]
    unfold globsH
    rw [this, show i + 1 + j = i + (j + 1) by omega]
    rfl
theorem lanesH_take : ∀ (h : List Ln) (i j : Nat) (x : Ln), h[j]? = some x → lanesH (h.take (j + 1)) i = lanesH (h.take j) i ++ [⟨2, i + j, x.roots⟩]
  | [], i, j, x, hx => by simp at hx
  | y :: r, i, 0, x, hx => by
    have e : y = x := by simpa using hx
    subst e
    simp only [List.take_succ_cons, List.take_zero, lanesH, List.nil_append, Nat.add_zero]
  | y :: r, i, j + 1, x, hx => by
    have hx' : r[j]? = some x := by simpa using hx
    have := lanesH_take r (i + 1) j x hx'
    rw [List.take_succ_cons, List.take_succ_cons]
    unfold lanesH
    rw [this, show i + 1 + j = i + (j + 1) by omega]
    rfl
end Go.Proofs.YtomdbcddokaagaaDoor

/- What lies in memory: blocks, rows of a slice that is owned. -/
namespace Go.Proofs.YtomdbcddokaagaaDoor
open Go.RowKit

theorem own_same {w w' : World} {base e size n : Nat} {v : Value} {xs : List Value} (h : w.ownsRow base e size v n xs) (hk : ∀ g, v.ownBlock = some g → w'.heap[g]? = w.heap[g]?) : w'.ownsRow base e size v n xs := by
  refine ⟨h.1, ?_⟩
  rcases h.2 with h' | ⟨g, cap, cur, hv, hg, hh, r⟩
  · exact .inl h'
  · exact .inr ⟨g, cap, cur, hv, hg, (hk g (by rw [hv]; rfl)).trans hh, r⟩
theorem own_sl {w : World} {base e size n : Nat} {v : Value} {xs : List Value} (h : w.ownsRow base e size v n xs) : ∃ ra cap, v = .slice ra n cap := by
  rcases h.2 with ⟨h', h0⟩ | ⟨g, cap, cur, hv, _⟩
  · exact ⟨none, 0, by rw [h', h0]⟩
  · exact ⟨_, cap, hv⟩
theorem set_atC {W : World} {b j : Nat} {cs : Array Value} {t : TypeId} (h : W.heap[b]? = some (.cells cs t (0, 0))) (v : Value) : (W.setCell ⟨b, j, none⟩ v).heap[b]? = some (.cells (cs.setIfInBounds j v) t (0, 0)) := by
  have hlt := (Array.getElem?_eq_some_iff.1 h).1
  rw [Array.getElem?_eq_getElem hlt] at h
  have h2 := Option.some.inj h
  show (W.heap.modify b _)[b]? = _
  rw [Array.getElem?_modify]
  simp [h2, hlt]
/-- A row of a type in a block: what each cell holds. -/
def DR (W : World) (t g n : Nat) (P : Nat → Value → Prop) : Prop := ∃ cs, W.heap[g]? = some (.cells cs t (0, 0)) ∧ cs.size = n ∧ ∀ k u, cs[k]? = some u → P k u
theorem DR.set {W : World} {t g n j : Nat} {P P' : Nat → Value → Prop} {v : Value} (h : DR W t g n P) (hP : ∀ k u, k ≠ j → P k u → P' k u) (hv : P' j v) : DR (W.setCell ⟨g, j, none⟩ v) t g n P' := by
  obtain ⟨cs, h1, h2, h3⟩ := h
  refine ⟨_, set_atC h1 v, by simp [h2], fun k u hk => ?_⟩
  rw [Array.getElem?_setIfInBounds] at hk
  split at hk
  · rename_i hjk
    subst hjk
    split at hk
    · cases hk; exact hv
    · cases hk
  · rename_i hjk
    exact hP k u (fun e => hjk e.symm) (h3 k u hk)
theorem DR.cell {W : World} {t g n j : Nat} {P : Nat → Value → Prop} (h : DR W t g n P) (hj : j < n) : ∃ u, W.cell? ⟨g, j, none⟩ = some u ∧ P j u := by
  obtain ⟨cs, h1, h2, h3⟩ := h
  subst h2
  have := Array.getElem?_eq_getElem hj
  exact ⟨_, by simp only [World.cell?, h1]; simp, h3 j _ this⟩
theorem DR.fz {W : World} {t g n : Nat} {P : Nat → Value → Prop} (h : DR W t g n P) (j : Nat) : W.frozen? ⟨g, j, none⟩ = false := by
  obtain ⟨cs, h1, _⟩ := h
  simp [World.frozen?, h1]
theorem DR.lt {W : World} {t g n : Nat} {P : Nat → Value → Prop} (h : DR W t g n P) : g < W.heap.size := by
  obtain ⟨cs, h1, _⟩ := h
  exact heap_lt h1
theorem DR.kept {W W' : World} {t g n : Nat} {P : Nat → Value → Prop} (h : DR W t g n P) (hk : W'.heap[g]? = W.heap[g]?) : DR W' t g n P := by
  obtain ⟨cs, h1, h2⟩ := h
  exact ⟨cs, hk.trans h1, h2⟩
theorem DR.mono {W : World} {t g n : Nat} {P P' : Nat → Value → Prop} (h : DR W t g n P) (hP : ∀ k u, k < n → P k u → P' k u) : DR W t g n P' := by
  obtain ⟨cs, h1, h2, h3⟩ := h
  exact ⟨cs, h1, h2, fun k u hk => hP k u (by rw [← h2]; exact (Array.getElem?_eq_some_iff.1 hk).1) (h3 k u hk)⟩
theorem new_cell (W : World) (cs : Array Value) (t : TypeId) (j : Nat) (u : Value) (h : cs.toList[j]? = some u) : (W.alloc (.cells cs t)).cell? ⟨W.heap.size, j, none⟩ = some u := by
  have hn := heap_alloc_new W (.cells cs t)
  simp only [World.cell?, hn]
  simpa using h
theorem ad_add (b o j : Nat) : (⟨b, o, none⟩ : Addr).add j = ⟨b, o + j, none⟩ := by
  simp [Addr.add]
theorem infoI : (Tryd.prog.info? 3).map (fun i => (i.zero, i.size, i.bytes)) = some (some (.int .i64 0), 1, 8) := by kernel_rfl
theorem grown_low {w w' : World} {row : Option Nat} {B : Nat} (hg : w.grownBy w' row) (hB : ∀ g, row = some g → B ≤ g) (hs : B ≤ w.heap.size) : Below B w w' := (Below.refl B w).grown hg hs hB

theorem stop_of {P : Prop} (h : Hid P) : P := h
/-- Blocks that are left as they are. -/
def Fr (A : Nat → Prop) (w w' : World) : Prop := Below 0 w w' ∧ ∀ g, A g → g < w.heap.size → w'.heap[g]? = w.heap[g]?
theorem Fr.trans {A : Nat → Prop} {w w' w'' : World} (h : Fr A w w') (k : Fr A w' w'') : Fr A w w'' :=
  ⟨h.1.trans k.1, fun g hg hl => (k.2 g hg (Nat.lt_of_lt_of_le hl h.1.size)).trans (h.2 g hg hl)⟩
theorem Fr.refl (A : Nat → Prop) (w : World) : Fr A w w := ⟨Below.refl _ _, fun _ _ _ => rfl⟩
theorem Fr.of {A : Nat → Prop} {B : Nat} {w w' : World} (h : Below B w w') (hA : ∀ g, A g → g < w.heap.size → g < B) : Fr A w w' := ⟨h.mono (Nat.zero_le _), fun g hg hl => h.block g (hA g hg hl)⟩
theorem Fr.below {B : Nat} {w w' : World} (h : Fr (fun g => g < B) w w') (hs : B ≤ w.heap.size) : Below B w w' := ⟨h.1.os, h.1.tape, h.1.output, h.1.size, fun g hg => h.2 g hg (Nat.lt_of_lt_of_le hg hs)⟩
/-- What many cells that are set leave of a block. -/
theorem setCells_at {t g : Nat} : ∀ (vs : List Value) (o : Nat) (W : World) (cs : Array Value), W.heap[g]? = some (.cells cs t (0, 0)) →
    ∃ cs', (W.setCells g o vs).heap[g]? = some (.cells cs' t (0, 0)) ∧ cs'.size = cs.size ∧ ∀ k, k < cs.size → cs'[k]? = if o ≤ k ∧ k < o + vs.length then vs[k - o]? else cs[k]?
  | [], o, W, cs, h => ⟨cs, h, rfl, fun k _ => by rw [if_neg (by simp)]⟩
  | v :: r, o, W, cs, h => by
    obtain ⟨cs', h1, h2, h3⟩ := setCells_at r (o + 1) (W.setCell ⟨g, o, none⟩ v) _ (set_atC h v)
    refine ⟨cs', h1, h2.trans (by simp), fun k hk => ?_⟩
    rw [h3 k (by simpa using hk)]
    by_cases e : k = o
    · subst e
      rw [if_neg (by omega), if_pos (by simp)]
      simp [hk]
    · rw [Array.getElem?_setIfInBounds_ne (fun e' => e e'.symm)]
      by_cases e2 : o ≤ k ∧ k < o + (v :: r).length
      · rw [if_pos e2, if_pos (by simp at e2; omega), show k - o = (k - (o + 1)) + 1 by omega, List.getElem?_cons_succ]
      · rw [if_neg e2, if_neg (by simp at e2; omega)]
theorem setCells_far {g : Nat} : ∀ (vs : List Value) (o : Nat) (W : World) (k : Nat), k ≠ g → (W.setCells g o vs).heap[k]? = W.heap[k]?
  | [], _, _, _, _ => rfl
  | _ :: r, o, _, k, h => (setCells_far r (o + 1) _ k h).trans (Below.heap_setCell _ _ _ _ h)
theorem setCells_size {g : Nat} : ∀ (vs : List Value) (o : Nat) (W : World), (W.setCells g o vs).heap.size = W.heap.size
  | [], _, _ => rfl
  | _ :: r, o, _ => (setCells_size r (o + 1) _).trans (World.size_setCell ..)
theorem setCells_below {g : Nat} : ∀ (vs : List Value) (o : Nat) (W0 W : World), Below 0 W0 W → Below 0 W0 (W.setCells g o vs)
  | [], _, _, _, h => h
  | v :: r, o, W0, _, h => setCells_below r (o + 1) W0 _ (h.setCell (p := ⟨g, o, none⟩) (Nat.zero_le _) v)
/-- A row that is owned, cell by cell. -/
theorem own_out {w : World} {base e size n cap g : Nat} {xs : List Value} (h : w.ownsRow base e size (.slice (some ⟨g, 0, none⟩) n cap) n xs) :
    ∃ cs, w.heap[g]? = some (.cells cs e (0, 0)) ∧ cs.size = cap * size ∧ n ≤ cap ∧ cap ≤ maxLen ∧ base ≤ g ∧ xs.length = n * size ∧ ∀ (k : Nat) (u : Value), xs[k]? = some u → cs[k]? = some u := by
  rcases h.2 with ⟨h', _⟩ | ⟨g', cap', cur, hv, hb, hh, hn, hm, hs, ht⟩
  · cases h'
  · cases hv
    refine ⟨cur, hh, hs, hn, hm, hb, h.1, fun k u hk => ?_⟩
    have hl := (List.getElem?_eq_some_iff.1 hk).1
    rw [← ht, List.getElem?_take] at hk
    split at hk
    · simpa using hk
    · cases hk
theorem own_of {w : World} {base e size n cap g : Nat} {cs : Array Value} {xs : List Value} (hh : w.heap[g]? = some (.cells cs e (0, 0))) (hs : cs.size = cap * size) (hn : n ≤ cap) (hm : cap ≤ maxLen) (hb : base ≤ g) (hx : xs.length = n * size)
    (hc : ∀ (k : Nat) (u : Value), xs[k]? = some u → cs[k]? = some u) : w.ownsRow base e size (.slice (some ⟨g, 0, none⟩) n cap) n xs := by
  refine ⟨hx, .inr ⟨g, cap, cs, rfl, hb, hh, hn, hm, hs, ?_⟩⟩
  have hle : n * size ≤ cs.size := by rw [hs]; exact Nat.mul_le_mul_right _ hn
  refine List.ext_getElem? (fun k => ?_)
  rw [List.getElem?_take]
  split
  · rename_i hk
    have hk' : k < xs.length := by omega
    rw [List.getElem?_eq_getElem hk', Array.getElem?_toList]
    exact hc k _ (List.getElem?_eq_getElem hk')
  · rw [List.getElem?_eq_none (by omega)]
theorem own_cell {w : World} {base e size n cap g : Nat} {xs : List Value} (h : w.ownsRow base e size (.slice (some ⟨g, 0, none⟩) n cap) n xs) {k : Nat} {u : Value} (hk : xs[k]? = some u) : w.cell? ⟨g, k, none⟩ = some u := by
  obtain ⟨cs, h1, _, _, _, _, _, h2⟩ := own_out h
  exact heap_cell h1 (h2 k u hk)
theorem ty_ne {w : World} {g h : Nat} {cs ds : Array Value} {t u : TypeId} (hg : w.heap[g]? = some (.cells cs t (0, 0))) (hh : w.heap[h]? = some (.cells ds u (0, 0))) (hn : t ≠ u) : g ≠ h := fun e => by
  subst e
  rw [hg] at hh
  cases hh
  exact hn rfl
theorem own_blk {w : World} {base e size n g : Nat} {v : Value} {xs : List Value} (h : w.ownsRow base e size v n xs) (hg : v.ownBlock = some g) : ∃ cs, w.heap[g]? = some (.cells cs e (0, 0)) := by
  rcases h.2 with ⟨h', _⟩ | ⟨g', cap, cur, hv, _, hh, _⟩
  · rw [h'] at hg; cases hg
  · rw [hv] at hg
    cases hg
    exact ⟨cur, hh⟩
def RX {α : Type} (enc : α → Value) (w : World) (ra : Option Addr) (l : List α) : Prop := ∃ b o, (l.length = 0 ∨ ra = some ⟨b, o, none⟩) ∧ ∀ (j : Nat) (x : α), l[j]? = some x → b < w.heap.size ∧ w.cell? ⟨b, o + j, none⟩ = some (enc x)
theorem RX.at {α : Type} {enc : α → Value} {w : World} {ra : Option Addr} {l : List α} (h : RX enc w ra l) : ∃ b o, (l.length ≠ 0 → ra = some ⟨b, o, none⟩) ∧ ∀ (j : Nat) (x : α), l[j]? = some x → b < w.heap.size ∧ w.cell? ⟨b, o + j, none⟩ = some (enc x) := by
  obtain ⟨b, o, h1, h2⟩ := h
  exact ⟨b, o, fun q => h1.resolve_left q, h2⟩
theorem RX.below {α : Type} {enc : α → Value} {w w' : World} {ra : Option Addr} {l : List α} (h : RX enc w ra l) (hb : Below w.heap.size w w') : RX enc w' ra l := by
  obtain ⟨b, o, h1, h2⟩ := h
  exact ⟨b, o, h1, fun j x hx => ⟨Nat.lt_of_lt_of_le (h2 j x hx).1 hb.size, (hb.cell (p := ⟨b, o + j, none⟩) (h2 j x hx).1).trans (h2 j x hx).2⟩⟩
theorem own_rx {w : World} {base n : Nat} {ra : Option Addr} {c : Nat} {l : List Int} (h : w.ownsRow base 3 1 (.slice ra n c) n (l.map (Value.int .i64))) (hn : l.length = n) : RX (Value.int .i64) w ra l := by
  rcases h.2 with ⟨_, h0⟩ | ⟨g, cap, cur, hv, _⟩
  · exact ⟨0, 0, .inl (by omega), fun j x hx => by have := (List.getElem?_eq_some_iff.1 hx).1; omega⟩
  · cases hv
    obtain ⟨cs, hc⟩ := own_blk h rfl
    exact ⟨g, 0, .inr rfl, fun j x hx => ⟨heap_lt hc, by rw [Nat.zero_add]; exact own_cell h (by rw [List.getElem?_map, hx]; rfl)⟩⟩
end Go.Proofs.YtomdbcddokaagaaDoor
