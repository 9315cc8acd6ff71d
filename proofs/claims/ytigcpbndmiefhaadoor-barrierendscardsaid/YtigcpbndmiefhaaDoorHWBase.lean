/- The contracts of Make, Of and what they call, of the program and of the document's answer: each returns what the plain functions on numbers say, and leaves the world as it was. -/
import Derived.Test.YtigcpbndmiefhaaDoorProg
import Derived.Below
import Derived.Deep.QuietTactic
import Derived.Test.YtigcpbndmiefhaaDoorHWMath
import Derived.WalkKit
import Derived.WalkSpells
import Derived.WalkLawsBesides
namespace Go.Proofs.YtigcpbndmiefhaaDoor
open Go.RowKit

/-- The table lies in its block as its initialiser lays it. -/
def Tab (w : World) : Prop := ∀ t : Nat, t < 9 → w.cell? ⟨0, t * 2, none⟩ = some (.int .i64 (lo t)) ∧ w.cell? ⟨0, t * 2 + 1, none⟩ = some (.int .i64 (hi t))

theorem ret_bool {a b : Bool} (h : a = b) : Ending.returned (.bool a) = .returned (.bool b) := by rw [h]
theorem ret_we {a b c d : Int} (h : a = b) (h' : c = d) : Ending.returned (.tuple #[.int .u64 a, .int .i64 c]) = .returned (.tuple #[.int .u64 b, .int .i64 d]) := by rw [h, h']
theorem ret_of {a b c d : Int} {p q : Bool} (h : a = b) (h' : c = d) (hb : p = q) : Ending.returned (.tuple #[.int .u8 a, .int .i64 c, .bool p]) = .returned (.tuple #[.int .u8 b, .int .i64 d, .bool q]) := by rw [h, h', hb]

set_option maxHeartbeats 400000 in
theorem isTag_any (t : Int) (w : World) (h0 : 0 ≤ t) (h1 : t ≤ 255) :
    Calls Tryd.prog 109 #[.int .u8 t] w fun e w' => e = .returned (.bool (isTagB t)) ∧ w' = w := by
  go_enter Tryd.func109, Tryd.ntmps109
  go_wp2
  all_goals go_ret
  all_goals exact ⟨ret_bool (by unfold isTagB; rw [Bool.eq_iff_iff]; simp; omega), rfl⟩

set_option maxHeartbeats 400000 in
theorem isNumberOf_any (t n : Int) (w : World) (ht : 1 ≤ t) (ht' : t ≤ 8) (hT : Tab w) :
    Calls Tryd.prog 110 #[.int .u8 t, .int .i64 n] w fun e w' => e = .returned (.bool (mayB t n)) ∧ w' = w := by
  obtain ⟨k, rfl⟩ := Int.eq_ofNat_of_zero_le (show 0 ≤ t by omega)
  obtain ⟨c1, c2⟩ := hT k (by omega)
  clear hT
  have hk : k < 9 := by omega
  generalize hl : lo k = l at *
  generalize hh : hi k = h at *
  have Hl : Hid (lo k = l) := hl
  have Hh : Hid (hi k = h) := hh
  clear hl hh
  go_enter Tryd.func110, Tryd.ntmps110
  go_wp2
  all_goals go_ret
  all_goals exact ⟨ret_bool (by unfold mayB; rw [Hl.out, Hh.out, Bool.eq_iff_iff]; simp; omega), rfl⟩

set_option maxHeartbeats 400000 in
theorem of_any (x : Int) (w : World) (hx : Rng x) (hT : Tab w) :
    Calls Tryd.prog 101 #[.int .u64 x] w fun e w' => e = .returned (.tuple #[.int .u8 (ofT x), .int .i64 (ofN x), .bool (wd x)]) ∧ w' = w := by
  have HT : Hid (Tab w) := hT
  clear hT
  have ha := and15 x hx
  have hb := tg_bd x
  have e256 : tg x % 256 = tg x := by omega
  have en : wrap64 x / 16 = nm x := rfl
  obtain ⟨hx0, hx1⟩ := hx
  cases h : isTagB (tg x)
  · go_enter Tryd.func101, Tryd.ntmps101
    go_wp2_with (first | (go_at_call 109; refine (isTag_any _ _ (by omega) (by omega)).mono ?_; rintro e w' ⟨rfl, rfl⟩))
    go_ret3
    exact ⟨ret_of (by simp [ofT, wd, h]) (by simp [ofN, wd, h]) (by simp [wd, h]), rfl⟩
  · have ht := isTag_iff.1 h
    obtain ⟨h1', h8⟩ := ht
    cases hm : mayB (tg x) (nm x)
    · go_enter Tryd.func101, Tryd.ntmps101
      go_wp2_with (first | (go_at_call 109; refine (isTag_any _ _ (by omega) (by omega)).mono ?_; rintro e w' ⟨rfl, rfl⟩) | (go_at_call 110; refine (isNumberOf_any _ _ _ (by omega) (by omega) HT.out).mono ?_; rintro e w' ⟨rfl, rfl⟩))
      go_ret3
      exact ⟨ret_of (by simp [ofT, wd, h, hm]) (by simp [ofN, wd, h, hm]) (by simp [wd, h, hm]), rfl⟩
    · go_enter Tryd.func101, Tryd.ntmps101
      go_wp2_with (first | (go_at_call 109; refine (isTag_any _ _ (by omega) (by omega)).mono ?_; rintro e w' ⟨rfl, rfl⟩) | (go_at_call 110; refine (isNumberOf_any _ _ _ (by omega) (by omega) HT.out).mono ?_; rintro e w' ⟨rfl, rfl⟩))
      go_ret3
      exact ⟨ret_of (by simp [ofT, wd, h, hm]) (by simp [ofN, wd, h, hm]) (by simp [wd, h, hm]), rfl⟩

theorem Tab.lt {w : World} (h : Tab w) : 0 < w.heap.size := by
  have h0 := (h 0 (by omega)).1
  rcases Nat.lt_or_ge 0 w.heap.size with h' | h'
  · exact h'
  · simp [World.cell?, Array.getElem?_eq_none h'] at h0
theorem Tab.below {w w' : World} (h : Tab w) (hb : Below w.heap.size w w') : Tab w' := fun t ht =>
  ⟨(hb.cell (p := ⟨0, t * 2, none⟩) h.lt).trans (h t ht).1, (hb.cell (p := ⟨0, t * 2 + 1, none⟩) h.lt).trans (h t ht).2⟩
theorem heap_lt {w : World} {b : Nat} {o : Obj} (h : w.heap[b]? = some o) : b < w.heap.size := (Array.getElem?_eq_some_iff.1 h).1
theorem heap_cell {w : World} {b j : Nat} {cs : Array Value} {t : TypeId} {v : Value} (h : w.heap[b]? = some (.cells cs t (0, 0))) (hv : cs[j]? = some v) : w.cell? ⟨b, j, none⟩ = some v := by
  simp [World.cell?, h, hv]
/-- The cell of a word, and whether it names one. -/
def cellV (x : Int) : Int := if ofT x = 8 then ofN x else 0
def refB (x : Int) : Bool := ofT x == 8
set_option maxHeartbeats 400000 in
theorem cell_any (x : Int) (w : World) (hx : Rng x) (hT : Tab w) :
    Calls Tryd.prog 80 #[.int .u64 x] w fun e w' => e = .returned (.tuple #[.int .i64 (cellV x), .bool (refB x)]) ∧ w' = w := by
  have HT : Hid (Tab w) := hT
  have HR : Hid (Rng x) := hx
  clear hT hx
  cases hw : wd x
  · have HV : Hid (cellV x = 0 ∧ refB x = false) := by
      have : ofT x = 0 := by unfold ofT; rw [hw]; rfl
      exact ⟨by unfold cellV; rw [this]; rfl, by unfold refB; rw [this]; rfl⟩
    go_enter Tryd.func80, Tryd.ntmps80
    go_wp2_with (first | (go_at_call 101; refine (of_any _ _ HR.out HT.out).mono ?_; rintro e w' ⟨rfl, rfl⟩))
    go_ret2
    exact ⟨by rw [HV.out.1, HV.out.2]; rfl, rfl⟩
  · cases h8 : (ofT x == 8)
    · have h8' : (ofT x != 8) = true := by simp [bne, h8]
      have HV : Hid (cellV x = 0 ∧ refB x = false) := ⟨by unfold cellV; rw [if_neg (by simpa using h8)], h8⟩
      go_enter Tryd.func80, Tryd.ntmps80
      go_wp2_with (first | (go_at_call 101; refine (of_any _ _ HR.out HT.out).mono ?_; rintro e w' ⟨rfl, rfl⟩))
      go_ret2
      exact ⟨by rw [HV.out.1, HV.out.2]; rfl, rfl⟩
    · have h8' : (ofT x != 8) = false := by simp [bne, h8]
      have HV : Hid (cellV x = ofN x ∧ refB x = true) := ⟨by unfold cellV; rw [if_pos (by simpa using h8)], h8⟩
      go_enter Tryd.func80, Tryd.ntmps80
      go_wp2_with (first | (go_at_call 101; refine (of_any _ _ HR.out HT.out).mono ?_; rintro e w' ⟨rfl, rfl⟩))
      go_ret2
      exact ⟨by rw [HV.out.1, HV.out.2]; rfl, rfl⟩
end Go.Proofs.YtigcpbndmiefhaaDoor
