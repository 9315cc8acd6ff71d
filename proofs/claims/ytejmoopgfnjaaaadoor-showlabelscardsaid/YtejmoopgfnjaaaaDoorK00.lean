/- Plain mathematics of words: a tag and a number in one number of 64 bits, and the numbers' reckoning; it names no program.; The contracts of Make, Of and what they call, of the program and of the document's answer: each returns what the plain functions on numbers say, and leaves the world as it was. -/
import Derived.WalkKit
import Derived.Laws.BitsAllLaws
import Derived.Test.YtejmoopgfnjaaaaDoorProg
import Derived.Below
import Derived.Deep.QuietTactic
import Derived.WalkSpells
import Derived.WalkLawsBesides
/- Plain mathematics of words: a tag and a number in one number of 64 bits, and the numbers' reckoning; it names no program. -/
namespace Go.Proofs.YtejmoopgfnjaaaaDoor
open Go.RowKit

def isTagB (t : Int) : Bool := decide (1 ≤ t ∧ t ≤ 8)
def lo (t : Int) : Int := if t = 5 then -576460752303423488 else if t = 7 then 1 else 0
def hi (t : Int) : Int := if t = 5 then 576460752303423487 else if t = 7 then 22 else if t = 6 then 2147483647 else if t = 8 then 2147483647 else 0
def mayB (t n : Int) : Bool := decide (lo t ≤ n ∧ n ≤ hi t)
/-- The word of a tag and a number. -/
def mk (t n : Int) : Int := (16 * n + t) % 18446744073709551616
def mkW (t n : Int) : Int := if isTagB t = true then (if mayB t n = true then mk t n else 0) else 0
def mkE (t n : Int) : Int := if isTagB t = true then (if mayB t n = true then 0 else 11) else 10
/-- A word's tag and number. -/
def tg (x : Int) : Int := x % 16
def nm (x : Int) : Int := wrap64 x / 16
def wd (x : Int) : Bool := isTagB (tg x) && mayB (tg x) (nm x)
def ofT (x : Int) : Int := if wd x = true then tg x else 0
def ofN (x : Int) : Int := if wd x = true then nm x else 0
def Rng (x : Int) : Prop := 0 ≤ x ∧ x ≤ 18446744073709551615

theorem isTag_iff {t : Int} : isTagB t = true ↔ 1 ≤ t ∧ t ≤ 8 := by unfold isTagB; simp
theorem may_iff {t n : Int} : mayB t n = true ↔ lo t ≤ n ∧ n ≤ hi t := by unfold mayB; simp
theorem lo_ge (t : Int) : -576460752303423488 ≤ lo t := by unfold lo; split <;> (try split) <;> omega
theorem hi_le (t : Int) : hi t ≤ 576460752303423487 := by unfold hi; repeat' split
                                                          all_goals omega
theorem may_bd {t n : Int} (h : mayB t n = true) : -576460752303423488 ≤ n ∧ n ≤ 576460752303423487 := by
  have := may_iff.1 h; have := lo_ge t; have := hi_le t; omega
theorem mk_rng (t n : Int) : Rng (mk t n) := by unfold Rng mk; omega
theorem mkW_rng (t n : Int) : Rng (mkW t n) := by
  unfold mkW; repeat' split
  · exact mk_rng t n
  all_goals (unfold Rng; omega)

theorem and15 (x : Int) (h : Rng x) : bits .and .u64 x 15 = tg x := by
  obtain ⟨h0, h1⟩ := h
  rw [u64_and x 15 h0 (by omega) (by omega) (by omega)]
  have e : x.toNat &&& 15 = x.toNat % 16 := Nat.and_two_pow_sub_one_eq_mod x.toNat 4
  rw [show (15 : Int).toNat = 15 from rfl, e]
  unfold tg; omega
theorem or_tag (n t : Int) (h0 : 0 ≤ t) (h1 : t < 16) : bits .or .u64 (IntKind.u64.wrap (IntKind.u64.wrap n * 16)) t = mk t n := by
  rw [IntKind.wrap_u64, IntKind.wrap_u64]
  have hd : (n % 18446744073709551616 * 16) % 18446744073709551616 = 16 * (n % 1152921504606846976) := by omega
  rw [hd, u64_or _ t (by omega) (by omega) h0 (by omega)]
  have e : (16 * (n % 1152921504606846976)).toNat ||| t.toNat = 16 * (n % 1152921504606846976).toNat + t.toNat := by
    have := Nat.two_pow_add_eq_or_of_lt (i := 4) (b := t.toNat) (by omega) (n % 1152921504606846976).toNat
    rw [show (16 * (n % 1152921504606846976)).toNat = 2 ^ 4 * (n % 1152921504606846976).toNat by omega, ← this]
  rw [e]; unfold mk; omega
theorem tg_bd (x : Int) : 0 ≤ tg x ∧ tg x ≤ 15 := by unfold tg; omega
/-- There and back: the tag, the number; and the word. -/
theorem tg_mk {t : Int} (n : Int) (h0 : 0 ≤ t) (h1 : t < 16) : tg (mk t n) = t := by unfold tg mk; omega
theorem nm_mk {t n : Int} (h0 : 0 ≤ t) (h1 : t < 16) (h : -576460752303423488 ≤ n ∧ n ≤ 576460752303423487) : nm (mk t n) = n := by unfold nm mk wrap64; omega
theorem mk_of {x : Int} (h : Rng x) : mk (tg x) (nm x) = x := by unfold Rng at h; unfold nm mk tg wrap64; omega
theorem nm_bd (x : Int) : -576460752303423488 ≤ nm x ∧ nm x ≤ 576460752303423487 := by unfold nm wrap64; omega
theorem wd_iff {x : Int} : wd x = true ↔ isTagB (tg x) = true ∧ mayB (tg x) (nm x) = true := by unfold wd; simp
theorem wd_mk {t n : Int} (h : isTagB t = true) (hm : mayB t n = true) : wd (mk t n) = true := by
  have := isTag_iff.1 h
  rw [wd_iff, tg_mk n (by omega) (by omega), nm_mk (by omega) (by omega) (may_bd hm)]; exact ⟨h, hm⟩
theorem nm_alt (x : Int) (h : Rng x) : nm x = if x / 16 ≤ 576460752303423487 then x / 16 else x / 16 - 1152921504606846976 := by
  unfold Rng at h; unfold nm wrap64; split <;> omega
theorem ofT_bd (x : Int) : 0 ≤ ofT x ∧ ofT x ≤ 15 := by have := tg_bd x; unfold ofT; split <;> omega
theorem ofN_bd (x : Int) : -576460752303423488 ≤ ofN x ∧ ofN x ≤ 576460752303423487 := by have := nm_bd x; unfold ofN; split <;> omega

/-- What is reckoned of two words. -/
def bothB (a b : Int) : Bool := (ofT a == 5) && (ofT b == 5)
def resW (b : Bool) (v : Int) : Int := if b = true then mkW 5 v else 0
def resE (b : Bool) (v : Int) : Int := if b = true then mkE 5 v else 10
def divW (b : Bool) (m v : Int) : Int := if b = true then (if m = 0 then 0 else mkW 5 v) else 0
def divE (b : Bool) (m v : Int) : Int := if b = true then (if m = 0 then 12 else mkE 5 v) else 10
def addW (a b : Int) : Int := resW (bothB a b) (ofN a + ofN b)
def addE (a b : Int) : Int := resE (bothB a b) (ofN a + ofN b)
def subW (a b : Int) : Int := resW (bothB a b) (ofN a - ofN b)
def subE (a b : Int) : Int := resE (bothB a b) (ofN a - ofN b)
def mulW (a b : Int) : Int := resW (bothB a b) (ofN a * ofN b)
def mulE (a b : Int) : Int := resE (bothB a b) (ofN a * ofN b)
def quoW (a b : Int) : Int := divW (bothB a b) (ofN b) ((ofN a).tdiv (ofN b))
def quoE (a b : Int) : Int := divE (bothB a b) (ofN b) ((ofN a).tdiv (ofN b))
def remW (a b : Int) : Int := divW (bothB a b) (ofN b) ((ofN a).tmod (ofN b))
def remE (a b : Int) : Int := divE (bothB a b) (ofN b) ((ofN a).tmod (ofN b))
def lessB (a b : Int) : Bool := bothB a b && decide (ofN a < ofN b)
def lessE (a b : Int) : Int := if bothB a b = true then 0 else 10

theorem resW_rng (b : Bool) (v : Int) : Rng (resW b v) := by
  unfold resW; split
  · exact mkW_rng 5 v
  · unfold Rng; omega
theorem divW_rng (b : Bool) (m v : Int) : Rng (divW b m v) := by
  unfold divW; repeat' split
  · unfold Rng; omega
  · exact mkW_rng 5 v
  · unfold Rng; omega
theorem may5 {v : Int} : mayB 5 v = true ↔ -576460752303423488 ≤ v ∧ v ≤ 576460752303423487 := by rw [may_iff]; simp [lo, hi]
theorem over5 {v : Int} (h : ¬ (-576460752303423488 ≤ v ∧ v ≤ 576460752303423487)) : mkW 5 v = 0 ∧ mkE 5 v = 11 := by
  have hm : mayB 5 v = false := by rw [← Bool.not_eq_true, may5]; exact h
  have ht : isTagB 5 = true := rfl
  exact ⟨by simp [mkW, ht, hm], by simp [mkE, ht, hm]⟩
theorem in5 {v : Int} (h : -576460752303423488 ≤ v ∧ v ≤ 576460752303423487) : mkW 5 v = mk 5 v ∧ mkE 5 v = 0 := by
  have hm : mayB 5 v = true := may5.2 h
  have ht : isTagB 5 = true := rfl
  exact ⟨by simp [mkW, ht, hm], by simp [mkE, ht, hm]⟩
/-- A product that was wrapped round: the test by a quotient finds it out. -/
theorem wrap_id {v : Int} (h0 : -9223372036854775808 ≤ v) (h1 : v ≤ 9223372036854775807) : wrap64 v = v := by unfold wrap64; omega
theorem wrap_bd (v : Int) : -9223372036854775808 ≤ wrap64 v ∧ wrap64 v ≤ 9223372036854775807 := by unfold wrap64; omega
theorem tdiv_abs (x k : Int) : -(x.natAbs : Int) ≤ x.tdiv k ∧ x.tdiv k ≤ (x.natAbs : Int) := by
  have h := Int.natAbs_tdiv x k
  have h2 : x.natAbs.div k.natAbs ≤ x.natAbs := Nat.div_le_self _ _
  rw [← h] at h2
  omega
theorem mul_yes {m n : Int} (hm : m ≠ 0) (h : wrap64 ((wrap64 (m * n)).tdiv m) = n)
    (hmb : -576460752303423488 ≤ m ∧ m ≤ 576460752303423487) (hnb : -576460752303423488 ≤ n ∧ n ≤ 576460752303423487) :
    wrap64 (m * n) = m * n := by
  generalize hp : wrap64 (m * n) = p at *
  have hpb := wrap_bd (m * n); rw [hp] at hpb
  have hq := tdiv_abs p m
  by_cases hz : p.tdiv m = 9223372036854775808
  · rw [hz] at h; unfold wrap64 at h; omega
  · rw [wrap_id (by omega) (by omega)] at h
    have hd := Int.tmod_add_tdiv_mul p m
    rw [h] at hd
    have hr : (p.tmod m).natAbs < m.natAbs := by
      rw [Int.natAbs_tmod]; exact Nat.mod_lt _ (by omega)
    have e : p = p.tmod m + m * n := by rw [Int.mul_comm m n]; omega
    generalize p.tmod m = r at *
    generalize m * n = v at *
    unfold wrap64 at hp
    omega
theorem mul_no {m n : Int} (hm : m ≠ 0) (h : wrap64 ((wrap64 (m * n)).tdiv m) ≠ n)
    (hnb : -576460752303423488 ≤ n ∧ n ≤ 576460752303423487) :
    ¬ (-576460752303423488 ≤ m * n ∧ m * n ≤ 576460752303423487) := by
  intro hv
  rw [wrap_id (v := m * n) (by omega) (by omega), Int.mul_tdiv_cancel_left _ hm, wrap_id (by omega) (by omega)] at h
  exact h rfl
theorem tdiv_bd {m n : Int} (hmb : -576460752303423488 ≤ m ∧ m ≤ 576460752303423487) :
    -576460752303423488 ≤ m.tdiv n ∧ m.tdiv n ≤ 576460752303423488 := by have := tdiv_abs m n; omega
theorem tmod_bd {m n : Int} (hmb : -576460752303423488 ≤ m ∧ m ≤ 576460752303423487) :
    -576460752303423488 ≤ m.tmod n ∧ m.tmod n ≤ 576460752303423487 := by
  have h := Int.natAbs_tmod m n
  have h2 : m.natAbs % n.natAbs ≤ m.natAbs := Nat.mod_le _ _
  rcases Int.le_total 0 m with h0 | h0
  · have := Int.tmod_nonneg n h0; omega
  · have : m.tmod n ≤ 0 := by
      have := Int.tmod_nonneg n (show 0 ≤ -m by omega)
      rw [Int.neg_tmod] at this; omega
    omega
theorem rem_eq (m n : Int) : m - n * m.tdiv n = m.tmod n := by have := Int.tmod_add_tdiv_mul m n; rw [Int.mul_comm] at this; omega
end Go.Proofs.YtejmoopgfnjaaaaDoor

/- The contracts of Make, Of and what they call, of the program and of the document's answer: each returns what the plain functions on numbers say, and leaves the world as it was. -/
namespace Go.Proofs.YtejmoopgfnjaaaaDoor
open Go.RowKit

/-- The table lies in its block as its initialiser lays it. -/
def Tab (w : World) : Prop := ∀ t : Nat, t < 9 → w.cell? ⟨0, t * 2, none⟩ = some (.int .i64 (lo t)) ∧ w.cell? ⟨0, t * 2 + 1, none⟩ = some (.int .i64 (hi t))

theorem ret_bool {a b : Bool} (h : a = b) : Ending.returned (.bool a) = .returned (.bool b) := by rw [h]
theorem ret_we {a b c d : Int} (h : a = b) (h' : c = d) : Ending.returned (.tuple #[.int .u64 a, .int .i64 c]) = .returned (.tuple #[.int .u64 b, .int .i64 d]) := by rw [h, h']
theorem ret_of {a b c d : Int} {p q : Bool} (h : a = b) (h' : c = d) (hb : p = q) : Ending.returned (.tuple #[.int .u8 a, .int .i64 c, .bool p]) = .returned (.tuple #[.int .u8 b, .int .i64 d, .bool q]) := by rw [h, h', hb]

set_option maxHeartbeats 400000 in
theorem isTag_any (t : Int) (w : World) (h0 : 0 ≤ t) (h1 : t ≤ 255) :
    Calls Tryd.prog 25 #[.int .u8 t] w fun e w' => e = .returned (.bool (isTagB t)) ∧ w' = w := by
  go_enter Tryd.func25, Tryd.ntmps25
  go_wp2
  all_goals go_ret
  all_goals exact ⟨ret_bool (by unfold isTagB; rw [Bool.eq_iff_iff]; simp; omega), rfl⟩

set_option maxHeartbeats 400000 in
theorem isNumberOf_any (t n : Int) (w : World) (ht : 1 ≤ t) (ht' : t ≤ 8) (hT : Tab w) :
    Calls Tryd.prog 26 #[.int .u8 t, .int .i64 n] w fun e w' => e = .returned (.bool (mayB t n)) ∧ w' = w := by
  obtain ⟨k, rfl⟩ := Int.eq_ofNat_of_zero_le (show 0 ≤ t by omega)
  obtain ⟨c1, c2⟩ := hT k (by omega)
  clear hT
  have hk : k < 9 := by omega
  generalize hl : lo k = l at *
  generalize hh : hi k = h at *
  have Hl : Hid (lo k = l) := hl
  have Hh : Hid (hi k = h) := hh
  clear hl hh
  go_enter Tryd.func26, Tryd.ntmps26
  go_wp2
  all_goals go_ret
  all_goals exact ⟨ret_bool (by unfold mayB; rw [Hl.out, Hh.out, Bool.eq_iff_iff]; simp; omega), rfl⟩

set_option maxHeartbeats 400000 in
theorem make_any (t n : Int) (w : World) (h0 : 0 ≤ t) (h1 : t ≤ 255) (hT : Tab w) :
    Calls Tryd.prog 14 #[.int .u8 t, .int .i64 n] w fun e w' => e = .returned (.tuple #[.int .u64 (mkW t n), .int .i64 (mkE t n)]) ∧ w' = w := by
  have HT : Hid (Tab w) := hT
  clear hT
  cases h : isTagB t
  · go_enter Tryd.func14, Tryd.ntmps14
    go_wp2_with (first | (go_at_call 25; refine (isTag_any _ _ (by omega) (by omega)).mono ?_; rintro e w' ⟨rfl, rfl⟩))
    go_ret2
    exact ⟨ret_we (by simp [mkW, h]) (by simp [mkE, h]), rfl⟩
  · have ht := isTag_iff.1 h
    obtain ⟨h1', h8⟩ := ht
    cases hm : mayB t n
    · go_enter Tryd.func14, Tryd.ntmps14
      go_wp2_with (first | (go_at_call 25; refine (isTag_any _ _ (by omega) (by omega)).mono ?_; rintro e w' ⟨rfl, rfl⟩) | (go_at_call 26; refine (isNumberOf_any _ _ _ (by omega) (by omega) HT.out).mono ?_; rintro e w' ⟨rfl, rfl⟩))
      go_ret2
      exact ⟨ret_we (by simp [mkW, h, hm]) (by simp [mkE, h, hm]), rfl⟩
    · go_enter Tryd.func14, Tryd.ntmps14
      go_wp2_with (first | (go_at_call 25; refine (isTag_any _ _ (by omega) (by omega)).mono ?_; rintro e w' ⟨rfl, rfl⟩) | (go_at_call 26; refine (isNumberOf_any _ _ _ (by omega) (by omega) HT.out).mono ?_; rintro e w' ⟨rfl, rfl⟩))
      go_ret2
      exact ⟨ret_we (by rw [or_tag n t (by omega) (by omega)]; simp [mkW, h, hm]) (by simp [mkE, h, hm]), rfl⟩

set_option maxHeartbeats 400000 in
theorem of_any (x : Int) (w : World) (hx : Rng x) (hT : Tab w) :
    Calls Tryd.prog 24 #[.int .u64 x] w fun e w' => e = .returned (.tuple #[.int .u8 (ofT x), .int .i64 (ofN x), .bool (wd x)]) ∧ w' = w := by
  have HT : Hid (Tab w) := hT
  clear hT
  have ha := and15 x hx
  have hb := tg_bd x
  have e256 : tg x % 256 = tg x := by omega
  have en : wrap64 x / 16 = nm x := rfl
  obtain ⟨hx0, hx1⟩ := hx
  cases h : isTagB (tg x)
  · go_enter Tryd.func24, Tryd.ntmps24
    go_wp2_with (first | (go_at_call 25; refine (isTag_any _ _ (by omega) (by omega)).mono ?_; rintro e w' ⟨rfl, rfl⟩))
    go_ret3
    exact ⟨ret_of (by simp [ofT, wd, h]) (by simp [ofN, wd, h]) (by simp [wd, h]), rfl⟩
  · have ht := isTag_iff.1 h
    obtain ⟨h1', h8⟩ := ht
    cases hm : mayB (tg x) (nm x)
    · go_enter Tryd.func24, Tryd.ntmps24
      go_wp2_with (first | (go_at_call 25; refine (isTag_any _ _ (by omega) (by omega)).mono ?_; rintro e w' ⟨rfl, rfl⟩) | (go_at_call 26; refine (isNumberOf_any _ _ _ (by omega) (by omega) HT.out).mono ?_; rintro e w' ⟨rfl, rfl⟩))
      go_ret3
      exact ⟨ret_of (by simp [ofT, wd, h, hm]) (by simp [ofN, wd, h, hm]) (by simp [wd, h, hm]), rfl⟩
    · go_enter Tryd.func24, Tryd.ntmps24
      go_wp2_with (first | (go_at_call 25; refine (isTag_any _ _ (by omega) (by omega)).mono ?_; rintro e w' ⟨rfl, rfl⟩) | (go_at_call 26; refine (isNumberOf_any _ _ _ (by omega) (by omega) HT.out).mono ?_; rintro e w' ⟨rfl, rfl⟩))
      go_ret3
      exact ⟨ret_of (by simp [ofT, wd, h, hm]) (by simp [ofN, wd, h, hm]) (by simp [wd, h, hm]), rfl⟩

theorem Tab.lt {w : World} (h : Tab w) : 0 < w.heap.size := by
  have h0 := (h 0 (by omega)).1
  rcases Nat.lt_or_ge 0 w.heap.size with h' | h'
  · exact h'
  · simp [World.cell?, Array.getElem?_eq_none h'] at h0
theorem Tab.below {w w' : World} (h : Tab w) (hb : Below w.heap.size w w') : Tab w' := fun t ht =>
  ⟨(hb.cell (p := ⟨0, t * 2, none⟩) h.lt).trans (h t ht).1, (hb.cell (p := ⟨0, t * 2 + 1, none⟩) h.lt).trans (h t ht).2⟩
theorem heap_lt {w : World} {b : Nat} {o : Obj} (h : w.heap[b]? = some o) : b < w.heap.size := (Array.getElem?_eq_some_iff.1 h).1
theorem heap_cell {w : World} {b j : Nat} {cs : Array Value} {t : TypeId} {v : Value} (h : w.heap[b]? = some (.cells cs t (0, 0))) (hv : cs[j]? = some v) : w.cell? ⟨b, j, none⟩ = some v := by
  simp [World.cell?, h, hv]
/-- The cell of a word, and whether it names one. -/
def cellV (x : Int) : Int := if ofT x = 8 then ofN x else 0
def refB (x : Int) : Bool := ofT x == 8
set_option maxHeartbeats 400000 in
theorem cell_any (x : Int) (w : World) (hx : Rng x) (hT : Tab w) :
    Calls Tryd.prog 12 #[.int .u64 x] w fun e w' => e = .returned (.tuple #[.int .i64 (cellV x), .bool (refB x)]) ∧ w' = w := by
  have HT : Hid (Tab w) := hT
  have HR : Hid (Rng x) := hx
  clear hT hx
  cases hw : wd x
  · have HV : Hid (cellV x = 0 ∧ refB x = false) := by
      have : ofT x = 0 := by unfold ofT; rw [hw]; rfl
      exact ⟨by unfold cellV; rw [this]; rfl, by unfold refB; rw [this]; rfl⟩
    go_enter Tryd.func12, Tryd.ntmps12
    go_wp2_with (first | (go_at_call 24; refine (of_any _ _ HR.out HT.out).mono ?_; rintro e w' ⟨rfl, rfl⟩))
    go_ret2
    exact ⟨by rw [HV.out.1, HV.out.2]; rfl, rfl⟩
  · cases h8 : (ofT x == 8)
    · have h8' : (ofT x != 8) = true := by simp [bne, h8]
      have HV : Hid (cellV x = 0 ∧ refB x = false) := ⟨by unfold cellV; rw [if_neg (by simpa using h8)], h8⟩
      go_enter Tryd.func12, Tryd.ntmps12
      go_wp2_with (first | (go_at_call 24; refine (of_any _ _ HR.out HT.out).mono ?_; rintro e w' ⟨rfl, rfl⟩))
      go_ret2
      exact ⟨by rw [HV.out.1, HV.out.2]; rfl, rfl⟩
    · have h8' : (ofT x != 8) = false := by simp [bne, h8]
      have HV : Hid (cellV x = ofN x ∧ refB x = true) := ⟨by unfold cellV; rw [if_pos (by simpa using h8)], h8⟩
      go_enter Tryd.func12, Tryd.ntmps12
      go_wp2_with (first | (go_at_call 24; refine (of_any _ _ HR.out HT.out).mono ?_; rintro e w' ⟨rfl, rfl⟩))
      go_ret2
      exact ⟨by rw [HV.out.1, HV.out.2]; rfl, rfl⟩
set_option maxHeartbeats 400000 in
theorem ref_any (n : Int) (w : World) (hT : Tab w) :
    Calls Tryd.prog 15 #[.int .i64 n] w fun e w' => e = .returned (.int .u64 (mkW 8 n)) ∧ w' = w := by
  have HT : Hid (Tab w) := hT
  clear hT
  go_enter Tryd.func15, Tryd.ntmps15
  go_wp2_with (first | (go_at_call 14; refine (make_any _ _ _ (by omega) (by omega) HT.out).mono ?_; rintro e w' ⟨rfl, rfl⟩))
  go_ret
  exact ⟨rfl, rfl⟩

end Go.Proofs.YtejmoopgfnjaaaaDoor
