/- The contract of Make (of WBase). -/
import Derived.Test.YtdlnkdcgipaoeaaDoorHLEnd
import Derived.Below
import Derived.Deep.QuietTactic
import Derived.Test.YtdlnkdcgipaoeaaDoorHWMath
import Derived.WalkKit
import Derived.WalkSpells
import Derived.WalkLawsBesides
namespace Go.Proofs.YtdlnkdcgipaoeaaDoor
open Go.RowKit

/-- The table lies in its block as its initialiser lays it. -/
def Tab (w : World) : Prop := ∀ t : Nat, t < 9 → w.cell? ⟨0, t * 2, none⟩ = some (.int .i64 (lo t)) ∧ w.cell? ⟨0, t * 2 + 1, none⟩ = some (.int .i64 (hi t))

theorem ret_we {a b c d : Int} (h : a = b) (h' : c = d) : Ending.returned (.tuple #[.int .u64 a, .int .i64 c]) = .returned (.tuple #[.int .u64 b, .int .i64 d]) := by rw [h, h']

set_option maxHeartbeats 400000 in
theorem isTag_any (t : Int) (w : World) (h0 : 0 ≤ t) (h1 : t ≤ 255) :
    Calls Tryd.prog 74 #[.int .u8 t] w fun e w' => e = .returned (.bool (isTagB t)) ∧ w' = w := by
  go_enter Tryd.func74, Tryd.ntmps74
  go_wp2
  all_goals go_ret
  all_goals exact ⟨ret_bool (by unfold isTagB; rw [Bool.eq_iff_iff]; simp; omega), rfl⟩

set_option maxHeartbeats 400000 in
theorem isNumberOf_any (t n : Int) (w : World) (ht : 1 ≤ t) (ht' : t ≤ 8) (hT : Tab w) :
    Calls Tryd.prog 75 #[.int .u8 t, .int .i64 n] w fun e w' => e = .returned (.bool (mayB t n)) ∧ w' = w := by
  obtain ⟨k, rfl⟩ := Int.eq_ofNat_of_zero_le (show 0 ≤ t by omega)
  obtain ⟨c1, c2⟩ := hT k (by omega)
  clear hT
  have hk : k < 9 := by omega
  generalize hl : lo k = l at *
  generalize hh : hi k = h at *
  have Hl : Hid (lo k = l) := hl
  have Hh : Hid (hi k = h) := hh
  clear hl hh
  go_enter Tryd.func75, Tryd.ntmps75
  go_wp2
  all_goals go_ret
  all_goals exact ⟨ret_bool (by unfold mayB; rw [Hl.out, Hh.out, Bool.eq_iff_iff]; simp; omega), rfl⟩

set_option maxHeartbeats 400000 in
theorem make_any (t n : Int) (w : World) (h0 : 0 ≤ t) (h1 : t ≤ 255) (hT : Tab w) :
    Calls Tryd.prog 29 #[.int .u8 t, .int .i64 n] w fun e w' => e = .returned (.tuple #[.int .u64 (mkW t n), .int .i64 (mkE t n)]) ∧ w' = w := by
  have HT : Hid (Tab w) := hT
  clear hT
  cases h : isTagB t
  · go_enter Tryd.func29, Tryd.ntmps29
    go_wp2_with (first | (go_at_call 74; refine (isTag_any _ _ (by omega) (by omega)).mono ?_; rintro e w' ⟨rfl, rfl⟩))
    go_ret2
    exact ⟨ret_we (by simp [mkW, h]) (by simp [mkE, h]), rfl⟩
  · have ht := isTag_iff.1 h
    obtain ⟨h1', h8⟩ := ht
    cases hm : mayB t n
    · go_enter Tryd.func29, Tryd.ntmps29
      go_wp2_with (first | (go_at_call 74; refine (isTag_any _ _ (by omega) (by omega)).mono ?_; rintro e w' ⟨rfl, rfl⟩) | (go_at_call 75; refine (isNumberOf_any _ _ _ (by omega) (by omega) HT.out).mono ?_; rintro e w' ⟨rfl, rfl⟩))
      go_ret2
      exact ⟨ret_we (by simp [mkW, h, hm]) (by simp [mkE, h, hm]), rfl⟩
    · go_enter Tryd.func29, Tryd.ntmps29
      go_wp2_with (first | (go_at_call 74; refine (isTag_any _ _ (by omega) (by omega)).mono ?_; rintro e w' ⟨rfl, rfl⟩) | (go_at_call 75; refine (isNumberOf_any _ _ _ (by omega) (by omega) HT.out).mono ?_; rintro e w' ⟨rfl, rfl⟩))
      go_ret2
      exact ⟨ret_we (by rw [or_tag n t (by omega) (by omega)]; simp [mkW, h, hm]) (by simp [mkE, h, hm]), rfl⟩

end Go.Proofs.YtdlnkdcgipaoeaaDoor
