/- The document's words. -/
import Derived.Test.YtdcmkifljcdmmaaGreatDoorHGForm
namespace Go.Proofs.YtdcmkifljcdmmaaGreatDoor
open Go.RowKit

theorem mayB_of (t n : Int) (b : Bool) (h : (lo t ≤ n ∧ n ≤ hi t) ↔ b = true) : b = mayB t n := by
  unfold mayB; rw [Bool.eq_iff_iff]; simp only [decide_eq_true_eq]; exact h.symm
set_option maxHeartbeats 1000000 in
theorem may_any (t n : Int) (w : World) (h0 : 0 ≤ t) (h1 : t ≤ 255) :
    Calls Tryz.prog 78 #[.int .u8 t, .int .i64 n] w fun e w' => e = .returned (.bool (isTagB t && mayB t n)) ∧ w' = w := by
  by_cases ht : 1 ≤ t ∧ t ≤ 8
  · obtain ⟨ha, hb⟩ := ht
    have hd : t = 1 ∨ t = 2 ∨ t = 3 ∨ t = 4 ∨ t = 5 ∨ t = 6 ∨ t = 7 ∨ t = 8 := by omega
    rcases hd with rfl | rfl | rfl | rfl | rfl | rfl | rfl | rfl
    all_goals
      go_enter Tryz.func78, Tryz.ntmps78
      go_wp2
      all_goals go_ret
      all_goals exact ⟨ret_bool (by rw [show isTagB _ = true from rfl, Bool.true_and]; refine mayB_of _ _ _ ?_; simp [lo, hi]; omega), rfl⟩
  · have hf : isTagB t = false := by unfold isTagB; simpa using ht
    have e1 : (t == 1) = false := beq_eq_false_iff_ne.2 (by omega)
    have e2 : (t == 2) = false := beq_eq_false_iff_ne.2 (by omega)
    have e3 : (t == 3) = false := beq_eq_false_iff_ne.2 (by omega)
    have e4 : (t == 4) = false := beq_eq_false_iff_ne.2 (by omega)
    have e5 : (t == 5) = false := beq_eq_false_iff_ne.2 (by omega)
    have e6 : (t == 6) = false := beq_eq_false_iff_ne.2 (by omega)
    have e7 : (t == 7) = false := beq_eq_false_iff_ne.2 (by omega)
    have e8 : (t == 8) = false := beq_eq_false_iff_ne.2 (by omega)
    clear ht
    go_enter Tryz.func78, Tryz.ntmps78
    go_wp2
    go_ret
    exact ⟨ret_bool (by rw [hf]; rfl), rfl⟩
theorem ret_ib {a b : Int} {p q : Bool} (h : a = b) (hb : p = q) : Ending.returned (.tuple #[.int .i64 a, .bool p]) = .returned (.tuple #[.int .i64 b, .bool q]) := by rw [h, hb]
theorem ret_w {a b : Int} (h : a = b) : Ending.returned (.int .u64 a) = .returned (.int .u64 b) := by rw [h]
set_option maxHeartbeats 400000 in
theorem refMake_any (t n : Int) (w : World) (h0 : 0 ≤ t) (h1 : t ≤ 255) :
    Calls Tryz.prog 58 #[.int .u8 t, .int .i64 n] w fun e w' => e = .returned (.tuple #[.int .u64 (mkW t n), .int .i64 (mkE t n)]) ∧ w' = w := by
  cases h : isTagB t
  · have hn : t < 1 ∨ 8 < t := by have : ¬ (1 ≤ t ∧ t ≤ 8) := fun g => by rw [isTag_iff.2 g] at h; cases h
                                  omega
    rcases hn with hn | hn
    · go_enter Tryz.func58, Tryz.ntmps58
      go_wp2_with fail
      go_ret2
      exact ⟨ret_we (by simp [mkW, h]) (by simp [mkE, h]), rfl⟩
    · have hn' : ¬ t < 1 := by omega
      go_enter Tryz.func58, Tryz.ntmps58
      go_wp2_with fail
      go_ret2
      exact ⟨ret_we (by simp [mkW, h]) (by simp [mkE, h]), rfl⟩
  · obtain ⟨h1', h8⟩ := isTag_iff.1 h
    cases hm : mayB t n
    · go_enter Tryz.func58, Tryz.ntmps58
      go_wp2_with (first | (go_at_call 78; refine (may_any _ _ _ (by omega) (by omega)).mono ?_; rintro e w' ⟨rfl, rfl⟩))
      go_ret2
      exact ⟨ret_we (by simp [mkW, h, hm]) (by simp [mkE, h, hm]), rfl⟩
    · go_enter Tryz.func58, Tryz.ntmps58
      go_wp2_with (first | (go_at_call 78; refine (may_any _ _ _ (by omega) (by omega)).mono ?_; rintro e w' ⟨rfl, rfl⟩))
      go_ret2
      exact ⟨ret_we (by simp only [mkW, h, hm, if_true, mk, IntKind.wrap_u64]; omega) (by simp [mkE, h, hm]), rfl⟩
set_option maxHeartbeats 400000 in
theorem refOf_any (x : Int) (w : World) (hx : Rng x) :
    Calls Tryz.prog 71 #[.int .u64 x] w fun e w' => e = .returned (.tuple #[.int .u8 (ofT x), .int .i64 (ofN x), .bool (wd x)]) ∧ w' = w := by
  have hna := nm_alt x hx
  obtain ⟨hx0, hx1⟩ := hx
  have hb := tg_bd x
  have e0 : ∀ n, nm x = n → (isTagB (x % 16) && mayB (x % 16) n) = wd x := by
    intro n hn; unfold wd tg; rw [hn]
  have He : Hid _ := e0
  clear e0
  by_cases hg : x / 16 ≤ 576460752303423487
  all_goals
    (first | rw [if_pos hg] at hna | rw [if_neg hg] at hna)
    have Hna : Hid _ := hna
    clear hna
    cases hw : wd x
    all_goals
      go_enter Tryz.func71, Tryz.ntmps71
      go_wp2_with fail
      refine (may_any _ _ _ (by omega) (by omega)).mono ?_
      rintro e w' ⟨rfl, rfl⟩
      rw [He.out _ Hna.out, hw]
      go_wp2_with fail
      go_ret3
      exact ⟨ret_of (by simp [ofT, tg, hw]) (by simp [ofN, hw, Hna.out]) rfl, rfl⟩
def isRefB (x : Int) : Bool := wd x && (tg x == 8)
def cellN (x : Int) : Int := if isRefB x = true then nm x else 0
set_option maxHeartbeats 400000 in
theorem refRef_any (n : Int) (w : World) :
    Calls Tryz.prog 20 #[.int .i64 n] w fun e w' => e = .returned (.int .u64 (mkW 8 n)) ∧ w' = w := by
  go_enter Tryz.func20, Tryz.ntmps20
  go_wp2_with (first | (go_at_call 58; refine (refMake_any _ _ _ (by omega) (by omega)).mono ?_; rintro e w' ⟨rfl, rfl⟩))
  go_ret
  exact ⟨rfl, rfl⟩
set_option maxHeartbeats 400000 in
theorem refCell_any (x : Int) (w : World) (hx : Rng x) :
    Calls Tryz.prog 69 #[.int .u64 x] w fun e w' => e = .returned (.tuple #[.int .i64 (cellN x), .bool (isRefB x)]) ∧ w' = w := by
  have Hx : Hid (Rng x) := hx
  clear hx
  cases hw : wd x
  · have Hw : Hid _ := hw
    clear hw
    go_enter Tryz.func69, Tryz.ntmps69
    go_wp2_with fail
    refine (refOf_any _ _ Hx.out).mono ?_
    rintro e w' ⟨rfl, rfl⟩
    rw [Hw.out]
    go_wp2_with fail
    go_ret2
    exact ⟨ret_ib (by simp [cellN, isRefB, Hw.out]) (by simp [isRefB, Hw.out]), rfl⟩
  · have Hw : Hid _ := hw
    have eT : Hid (ofT x = tg x) := by show ofT x = tg x; simp [ofT, hw]
    have eN : Hid (ofN x = nm x) := by show ofN x = nm x; simp [ofN, hw]
    clear hw
    cases h8 : (tg x == 8)
    · have h8' : (tg x != 8) = true := by simp [bne, h8]
      go_enter Tryz.func69, Tryz.ntmps69
      go_wp2_with fail
      refine (refOf_any _ _ Hx.out).mono ?_
      rintro e w' ⟨rfl, rfl⟩
      rw [Hw.out, eT.out, eN.out]
      go_wp2_with fail
      go_ret2
      exact ⟨ret_ib (by simp [cellN, isRefB, h8]) (by simp [isRefB, h8]), rfl⟩
    · have h8' : (tg x != 8) = false := by simp [bne, h8]
      have H8 : Hid _ := h8
      clear h8
      go_enter Tryz.func69, Tryz.ntmps69
      go_wp2_with fail
      refine (refOf_any _ _ Hx.out).mono ?_
      rintro e w' ⟨rfl, rfl⟩
      rw [Hw.out, eT.out, eN.out]
      go_wp2_with fail
      go_ret2
      exact ⟨ret_ib (by simp [cellN, isRefB, H8.out, Hw.out]) (by simp [isRefB, H8.out, Hw.out]), rfl⟩
set_option maxHeartbeats 400000 in
theorem refInt_any (n : Int) (w : World) :
    Calls Tryz.prog 60 #[.int .i64 n] w fun e w' => e = .returned (.int .u64 (mkW 5 n)) ∧ w' = w := by
  go_enter Tryz.func60, Tryz.ntmps60
  go_wp2_with (first | (go_at_call 58; refine (refMake_any _ _ _ (by omega) (by omega)).mono ?_; rintro e w' ⟨rfl, rfl⟩))
  go_ret
  exact ⟨rfl, rfl⟩
theorem isRef_is (x : Int) : isRefB x = refB x := by
  unfold isRefB refB ofT
  cases wd x
  · rfl
  · simp
theorem cellN_is (x : Int) : cellN x = cellV x := by
  unfold cellN cellV
  rw [isRef_is]
  cases h : refB x
  · rw [if_neg (by decide), if_neg (by simpa [refB] using h)]
  · have h8 : ofT x = 8 := by simpa [refB] using h
    have hw : wd x = true := by
      cases hw : wd x
      · unfold ofT at h8; rw [hw] at h8; simp at h8
      · rfl
    rw [if_pos rfl, if_pos h8]
    unfold ofN; rw [if_pos hw]
end Go.Proofs.YtdcmkifljcdmmaaGreatDoor
