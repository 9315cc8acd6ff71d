/- The walk of WordsBack: it returns true wherever the table lies as its initialiser lays it, and leaves the world as it was. -/
import Derived.Test.YtiijmhilhdpahaaDoorKnown
namespace Go.Proofs.YtiijmhilhdpahaaDoor
open Go.RowKit

theorem mk_back {v : Int} (hv : Rng v) (hw : wd v = true) : mkW (ofT v) (ofN v) = v ∧ mkE (ofT v) (ofN v) = 0 := by
  obtain ⟨h1, h2⟩ := wd_iff.1 hw
  have e1 : ofT v = tg v := by simp [ofT, hw]
  have e2 : ofN v = nm v := by simp [ofN, hw]
  rw [e1, e2]
  exact ⟨by simp [mkW, h1, h2, mk_of hv], by simp [mkE, h1, h2]⟩
theorem same_iff {v w : Int} (hv : Rng v) (hw : Rng w) (h1 : wd v = true) (h2 : wd w = true) : (v == w) = ((ofT v == ofT w) && (ofN v == ofN w)) := by
  have a1 : ofT v = tg v := by simp [ofT, h1]
  have a2 : ofN v = nm v := by simp [ofN, h1]
  have b1 : ofT w = tg w := by simp [ofT, h2]
  have b2 : ofN w = nm w := by simp [ofN, h2]
  rw [a1, a2, b1, b2, Bool.eq_iff_iff]
  simp only [beq_iff_eq, Bool.and_eq_true]
  constructor
  · rintro rfl; exact ⟨rfl, rfl⟩
  · rintro ⟨x, y⟩; rw [← mk_of hv, ← mk_of hw, x, y]
theorem isRef_of {v : Int} (h : wd v = true) : isRefB v = (ofT v == 8) := by simp [isRefB, ofT, h]
theorem cell_of {v : Int} (h : wd v = true) (h8 : (ofT v == 8) = true) : cellN v = ofN v := by
  have e1 := isRef_of h
  rw [h8] at e1
  simp [cellN, e1, ofN, h]
theorem ref_of {v : Int} (hv : Rng v) (h : wd v = true) (h8 : (ofT v == 8) = true) : mkW 8 (ofN v) = v := by
  have e1 : ofT v = 8 := by simpa using h8
  have := (mk_back hv h).1
  rwa [e1] at this


set_option maxHeartbeats 1000000 in
theorem back_none_no (v w : Int) (W : World) (hv : Rng v) (hw : Rng w) (hT : Tab W) (h1 : wd v = true) (h8 : (ofT v == 8) = false) (h2 : wd w = false) :
    Calls Tryd.prog 6 #[.int .u64 v, .int .u64 w] W fun e W' => e = .returned (.bool true) ∧ W' = W := by
  have HT : Hid (Tab W) := hT
  have Hv : Hid (Rng v) := hv
  have Hw : Hid (Rng w) := hw
  have bt := ofT_bd v
  have Hb : Hid _ := mk_back hv h1
  have Hr : Hid _ := isRef_of h1
  have H1 : Hid _ := h1
  have H2 : Hid _ := h2
  have H8 : Hid _ := h8
  have vv : (v != v) = false := by simp
  clear hT hv hw h1 h2
  go_enter Tryd.func6, Tryd.ntmps6
  go_wp2_with fail
  refine (known_any _ HT.out).mono ?_
  rintro e w' ⟨rfl, rfl⟩
  go_wp2_with fail
  refine (of_any _ _ Hv.out HT.out).mono ?_
  rintro e w' ⟨rfl, rfl⟩
  rw [H1.out]
  go_wp2_with fail
  refine (of_any _ _ Hw.out HT.out).mono ?_
  rintro e w' ⟨rfl, rfl⟩
  rw [H2.out]
  go_wp2_with fail
  refine (make_any _ _ _ (by omega) (by omega) HT.out).mono ?_
  rintro e w' ⟨rfl, rfl⟩
  rw [Hb.out.1, Hb.out.2]
  go_wp2_with fail
  refine (cell_any _ _ Hv.out HT.out).mono ?_
  rintro e w' ⟨rfl, rfl⟩
  rw [Hr.out, H8.out]
  go_wp2_with fail
  refine (true_any _ _ Hv.out HT.out).mono ?_
  rintro e w' ⟨rfl, rfl⟩
  go_wp2_with fail
  go_ret
  exact ⟨rfl, rfl⟩

set_option maxHeartbeats 1000000 in
theorem back_none_ref (v w : Int) (W : World) (hv : Rng v) (hw : Rng w) (hT : Tab W) (h1 : wd v = true) (h8 : (ofT v == 8) = true) (h2 : wd w = false) :
    Calls Tryd.prog 6 #[.int .u64 v, .int .u64 w] W fun e W' => e = .returned (.bool true) ∧ W' = W := by
  have HT : Hid (Tab W) := hT
  have Hv : Hid (Rng v) := hv
  have Hw : Hid (Rng w) := hw
  have bt := ofT_bd v
  have Hb : Hid _ := mk_back hv h1
  have Hr : Hid _ := isRef_of h1
  have H1 : Hid _ := h1
  have H2 : Hid _ := h2
  have H8 : Hid _ := h8
  have Hc : Hid _ := cell_of h1 h8
  have Hf : Hid _ := ref_of hv h1 h8
  have vv : (v != v) = false := by simp
  have vb : (v == v) = true := by simp
  have nb : (ofN v == ofN v) = true := by simp
  clear hT hv hw h1 h2
  go_enter Tryd.func6, Tryd.ntmps6
  go_wp2_with fail
  refine (known_any _ HT.out).mono ?_
  rintro e w' ⟨rfl, rfl⟩
  go_wp2_with fail
  refine (of_any _ _ Hv.out HT.out).mono ?_
  rintro e w' ⟨rfl, rfl⟩
  rw [H1.out]
  go_wp2_with fail
  refine (of_any _ _ Hw.out HT.out).mono ?_
  rintro e w' ⟨rfl, rfl⟩
  rw [H2.out]
  go_wp2_with fail
  refine (make_any _ _ _ (by omega) (by omega) HT.out).mono ?_
  rintro e w' ⟨rfl, rfl⟩
  rw [Hb.out.1, Hb.out.2]
  go_wp2_with fail
  refine (cell_any _ _ Hv.out HT.out).mono ?_
  rintro e w' ⟨rfl, rfl⟩
  rw [Hr.out, H8.out, Hc.out]
  go_wp2_with fail
  refine (ref_any _ _ HT.out).mono ?_
  rintro e w' ⟨rfl, rfl⟩
  rw [Hf.out]
  go_wp2_with fail
  refine (true_any _ _ Hv.out HT.out).mono ?_
  rintro e w' ⟨rfl, rfl⟩
  go_wp2_with fail
  go_ret
  exact ⟨rfl, rfl⟩

set_option maxHeartbeats 1000000 in
theorem back_other_no (v w : Int) (W : World) (hv : Rng v) (hw : Rng w) (hT : Tab W) (h1 : wd v = true) (h8 : (ofT v == 8) = false) (h2 : wd w = true) (ht : (ofT v == ofT w) = false) :
    Calls Tryd.prog 6 #[.int .u64 v, .int .u64 w] W fun e W' => e = .returned (.bool true) ∧ W' = W := by
  have HT : Hid (Tab W) := hT
  have Hv : Hid (Rng v) := hv
  have Hw : Hid (Rng w) := hw
  have bt := ofT_bd v
  have Hb : Hid _ := mk_back hv h1
  have Hr : Hid _ := isRef_of h1
  have H1 : Hid _ := h1
  have H2 : Hid _ := h2
  have H8 : Hid _ := h8
  have vv : (v != v) = false := by simp
  have hs := same_iff hv hw h1 h2
  rw [ht] at hs
  have hs' : (v == w) = false := by simpa using hs
  clear hs
  clear hT hv hw h1 h2
  go_enter Tryd.func6, Tryd.ntmps6
  go_wp2_with fail
  refine (known_any _ HT.out).mono ?_
  rintro e w' ⟨rfl, rfl⟩
  go_wp2_with fail
  refine (of_any _ _ Hv.out HT.out).mono ?_
  rintro e w' ⟨rfl, rfl⟩
  rw [H1.out]
  go_wp2_with fail
  refine (of_any _ _ Hw.out HT.out).mono ?_
  rintro e w' ⟨rfl, rfl⟩
  rw [H2.out]
  go_wp2_with fail
  refine (make_any _ _ _ (by omega) (by omega) HT.out).mono ?_
  rintro e w' ⟨rfl, rfl⟩
  rw [Hb.out.1, Hb.out.2]
  go_wp2_with fail
  refine (cell_any _ _ Hv.out HT.out).mono ?_
  rintro e w' ⟨rfl, rfl⟩
  rw [Hr.out, H8.out]
  go_wp2_with fail
  refine (true_any _ _ Hv.out HT.out).mono ?_
  rintro e w' ⟨rfl, rfl⟩
  go_wp2_with fail
  go_ret
  exact ⟨rfl, rfl⟩

set_option maxHeartbeats 1000000 in
theorem back_other_ref (v w : Int) (W : World) (hv : Rng v) (hw : Rng w) (hT : Tab W) (h1 : wd v = true) (h8 : (ofT v == 8) = true) (h2 : wd w = true) (ht : (ofT v == ofT w) = false) :
    Calls Tryd.prog 6 #[.int .u64 v, .int .u64 w] W fun e W' => e = .returned (.bool true) ∧ W' = W := by
  have HT : Hid (Tab W) := hT
  have Hv : Hid (Rng v) := hv
  have Hw : Hid (Rng w) := hw
  have bt := ofT_bd v
  have Hb : Hid _ := mk_back hv h1
  have Hr : Hid _ := isRef_of h1
  have H1 : Hid _ := h1
  have H2 : Hid _ := h2
  have H8 : Hid _ := h8
  have Hc : Hid _ := cell_of h1 h8
  have Hf : Hid _ := ref_of hv h1 h8
  have vv : (v != v) = false := by simp
  have vb : (v == v) = true := by simp
  have nb : (ofN v == ofN v) = true := by simp
  have hs := same_iff hv hw h1 h2
  rw [ht] at hs
  have hs' : (v == w) = false := by simpa using hs
  clear hs
  clear hT hv hw h1 h2
  go_enter Tryd.func6, Tryd.ntmps6
  go_wp2_with fail
  refine (known_any _ HT.out).mono ?_
  rintro e w' ⟨rfl, rfl⟩
  go_wp2_with fail
  refine (of_any _ _ Hv.out HT.out).mono ?_
  rintro e w' ⟨rfl, rfl⟩
  rw [H1.out]
  go_wp2_with fail
  refine (of_any _ _ Hw.out HT.out).mono ?_
  rintro e w' ⟨rfl, rfl⟩
  rw [H2.out]
  go_wp2_with fail
  refine (make_any _ _ _ (by omega) (by omega) HT.out).mono ?_
  rintro e w' ⟨rfl, rfl⟩
  rw [Hb.out.1, Hb.out.2]
  go_wp2_with fail
  refine (cell_any _ _ Hv.out HT.out).mono ?_
  rintro e w' ⟨rfl, rfl⟩
  rw [Hr.out, H8.out, Hc.out]
  go_wp2_with fail
  refine (ref_any _ _ HT.out).mono ?_
  rintro e w' ⟨rfl, rfl⟩
  rw [Hf.out]
  go_wp2_with fail
  refine (true_any _ _ Hv.out HT.out).mono ?_
  rintro e w' ⟨rfl, rfl⟩
  go_wp2_with fail
  go_ret
  exact ⟨rfl, rfl⟩

set_option maxHeartbeats 1000000 in
theorem back_same_no (v w : Int) (W : World) (hv : Rng v) (hw : Rng w) (hT : Tab W) (h1 : wd v = true) (h8 : (ofT v == 8) = false) (h2 : wd w = true) (ht : (ofT v == ofT w) = true) (hn : (ofN v == ofN w) = true) :
    Calls Tryd.prog 6 #[.int .u64 v, .int .u64 w] W fun e W' => e = .returned (.bool true) ∧ W' = W := by
  have HT : Hid (Tab W) := hT
  have Hv : Hid (Rng v) := hv
  have Hw : Hid (Rng w) := hw
  have bt := ofT_bd v
  have Hb : Hid _ := mk_back hv h1
  have Hr : Hid _ := isRef_of h1
  have H1 : Hid _ := h1
  have H2 : Hid _ := h2
  have H8 : Hid _ := h8
  have vv : (v != v) = false := by simp
  have hs := same_iff hv hw h1 h2
  rw [ht, hn] at hs
  have hs' : (v == w) = true := by simpa using hs
  clear hs
  clear hT hv hw h1 h2
  go_enter Tryd.func6, Tryd.ntmps6
  go_wp2_with fail
  refine (known_any _ HT.out).mono ?_
  rintro e w' ⟨rfl, rfl⟩
  go_wp2_with fail
  refine (of_any _ _ Hv.out HT.out).mono ?_
  rintro e w' ⟨rfl, rfl⟩
  rw [H1.out]
  go_wp2_with fail
  refine (of_any _ _ Hw.out HT.out).mono ?_
  rintro e w' ⟨rfl, rfl⟩
  rw [H2.out]
  go_wp2_with fail
  refine (make_any _ _ _ (by omega) (by omega) HT.out).mono ?_
  rintro e w' ⟨rfl, rfl⟩
  rw [Hb.out.1, Hb.out.2]
  go_wp2_with fail
  refine (cell_any _ _ Hv.out HT.out).mono ?_
  rintro e w' ⟨rfl, rfl⟩
  rw [Hr.out, H8.out]
  go_wp2_with fail
  refine (true_any _ _ Hv.out HT.out).mono ?_
  rintro e w' ⟨rfl, rfl⟩
  go_wp2_with fail
  go_ret
  exact ⟨rfl, rfl⟩

set_option maxHeartbeats 1000000 in
theorem back_same_ref (v w : Int) (W : World) (hv : Rng v) (hw : Rng w) (hT : Tab W) (h1 : wd v = true) (h8 : (ofT v == 8) = true) (h2 : wd w = true) (ht : (ofT v == ofT w) = true) (hn : (ofN v == ofN w) = true) :
    Calls Tryd.prog 6 #[.int .u64 v, .int .u64 w] W fun e W' => e = .returned (.bool true) ∧ W' = W := by
  have HT : Hid (Tab W) := hT
  have Hv : Hid (Rng v) := hv
  have Hw : Hid (Rng w) := hw
  have bt := ofT_bd v
  have Hb : Hid _ := mk_back hv h1
  have Hr : Hid _ := isRef_of h1
  have H1 : Hid _ := h1
  have H2 : Hid _ := h2
  have H8 : Hid _ := h8
  have Hc : Hid _ := cell_of h1 h8
  have Hf : Hid _ := ref_of hv h1 h8
  have vv : (v != v) = false := by simp
  have vb : (v == v) = true := by simp
  have nb : (ofN v == ofN v) = true := by simp
  have hs := same_iff hv hw h1 h2
  rw [ht, hn] at hs
  have hs' : (v == w) = true := by simpa using hs
  clear hs
  clear hT hv hw h1 h2
  go_enter Tryd.func6, Tryd.ntmps6
  go_wp2_with fail
  refine (known_any _ HT.out).mono ?_
  rintro e w' ⟨rfl, rfl⟩
  go_wp2_with fail
  refine (of_any _ _ Hv.out HT.out).mono ?_
  rintro e w' ⟨rfl, rfl⟩
  rw [H1.out]
  go_wp2_with fail
  refine (of_any _ _ Hw.out HT.out).mono ?_
  rintro e w' ⟨rfl, rfl⟩
  rw [H2.out]
  go_wp2_with fail
  refine (make_any _ _ _ (by omega) (by omega) HT.out).mono ?_
  rintro e w' ⟨rfl, rfl⟩
  rw [Hb.out.1, Hb.out.2]
  go_wp2_with fail
  refine (cell_any _ _ Hv.out HT.out).mono ?_
  rintro e w' ⟨rfl, rfl⟩
  rw [Hr.out, H8.out, Hc.out]
  go_wp2_with fail
  refine (ref_any _ _ HT.out).mono ?_
  rintro e w' ⟨rfl, rfl⟩
  rw [Hf.out]
  go_wp2_with fail
  refine (true_any _ _ Hv.out HT.out).mono ?_
  rintro e w' ⟨rfl, rfl⟩
  go_wp2_with fail
  go_ret
  exact ⟨rfl, rfl⟩

set_option maxHeartbeats 1000000 in
theorem back_numb_no (v w : Int) (W : World) (hv : Rng v) (hw : Rng w) (hT : Tab W) (h1 : wd v = true) (h8 : (ofT v == 8) = false) (h2 : wd w = true) (ht : (ofT v == ofT w) = true) (hn : (ofN v == ofN w) = false) :
    Calls Tryd.prog 6 #[.int .u64 v, .int .u64 w] W fun e W' => e = .returned (.bool true) ∧ W' = W := by
  have HT : Hid (Tab W) := hT
  have Hv : Hid (Rng v) := hv
  have Hw : Hid (Rng w) := hw
  have bt := ofT_bd v
  have Hb : Hid _ := mk_back hv h1
  have Hr : Hid _ := isRef_of h1
  have H1 : Hid _ := h1
  have H2 : Hid _ := h2
  have H8 : Hid _ := h8
  have vv : (v != v) = false := by simp
  have hs := same_iff hv hw h1 h2
  rw [ht, hn] at hs
  have hs' : (v == w) = false := by simpa using hs
  clear hs
  clear hT hv hw h1 h2
  go_enter Tryd.func6, Tryd.ntmps6
  go_wp2_with fail
  refine (known_any _ HT.out).mono ?_
  rintro e w' ⟨rfl, rfl⟩
  go_wp2_with fail
  refine (of_any _ _ Hv.out HT.out).mono ?_
  rintro e w' ⟨rfl, rfl⟩
  rw [H1.out]
  go_wp2_with fail
  refine (of_any _ _ Hw.out HT.out).mono ?_
  rintro e w' ⟨rfl, rfl⟩
  rw [H2.out]
  go_wp2_with fail
  refine (make_any _ _ _ (by omega) (by omega) HT.out).mono ?_
  rintro e w' ⟨rfl, rfl⟩
  rw [Hb.out.1, Hb.out.2]
  go_wp2_with fail
  refine (cell_any _ _ Hv.out HT.out).mono ?_
  rintro e w' ⟨rfl, rfl⟩
  rw [Hr.out, H8.out]
  go_wp2_with fail
  refine (true_any _ _ Hv.out HT.out).mono ?_
  rintro e w' ⟨rfl, rfl⟩
  go_wp2_with fail
  go_ret
  exact ⟨rfl, rfl⟩

set_option maxHeartbeats 1000000 in
theorem back_numb_ref (v w : Int) (W : World) (hv : Rng v) (hw : Rng w) (hT : Tab W) (h1 : wd v = true) (h8 : (ofT v == 8) = true) (h2 : wd w = true) (ht : (ofT v == ofT w) = true) (hn : (ofN v == ofN w) = false) :
    Calls Tryd.prog 6 #[.int .u64 v, .int .u64 w] W fun e W' => e = .returned (.bool true) ∧ W' = W := by
  have HT : Hid (Tab W) := hT
  have Hv : Hid (Rng v) := hv
  have Hw : Hid (Rng w) := hw
  have bt := ofT_bd v
  have Hb : Hid _ := mk_back hv h1
  have Hr : Hid _ := isRef_of h1
  have H1 : Hid _ := h1
  have H2 : Hid _ := h2
  have H8 : Hid _ := h8
  have Hc : Hid _ := cell_of h1 h8
  have Hf : Hid _ := ref_of hv h1 h8
  have vv : (v != v) = false := by simp
  have vb : (v == v) = true := by simp
  have nb : (ofN v == ofN v) = true := by simp
  have hs := same_iff hv hw h1 h2
  rw [ht, hn] at hs
  have hs' : (v == w) = false := by simpa using hs
  clear hs
  clear hT hv hw h1 h2
  go_enter Tryd.func6, Tryd.ntmps6
  go_wp2_with fail
  refine (known_any _ HT.out).mono ?_
  rintro e w' ⟨rfl, rfl⟩
  go_wp2_with fail
  refine (of_any _ _ Hv.out HT.out).mono ?_
  rintro e w' ⟨rfl, rfl⟩
  rw [H1.out]
  go_wp2_with fail
  refine (of_any _ _ Hw.out HT.out).mono ?_
  rintro e w' ⟨rfl, rfl⟩
  rw [H2.out]
  go_wp2_with fail
  refine (make_any _ _ _ (by omega) (by omega) HT.out).mono ?_
  rintro e w' ⟨rfl, rfl⟩
  rw [Hb.out.1, Hb.out.2]
  go_wp2_with fail
  refine (cell_any _ _ Hv.out HT.out).mono ?_
  rintro e w' ⟨rfl, rfl⟩
  rw [Hr.out, H8.out, Hc.out]
  go_wp2_with fail
  refine (ref_any _ _ HT.out).mono ?_
  rintro e w' ⟨rfl, rfl⟩
  rw [Hf.out]
  go_wp2_with fail
  refine (true_any _ _ Hv.out HT.out).mono ?_
  rintro e w' ⟨rfl, rfl⟩
  go_wp2_with fail
  go_ret
  exact ⟨rfl, rfl⟩

set_option maxHeartbeats 1000000 in
theorem wordsBack_walk (v w : Int) (W : World) (hv : Rng v) (hw : Rng w) (hT : Tab W) :
    Calls Tryd.prog 6 #[.int .u64 v, .int .u64 w] W fun e W' => e = .returned (.bool true) ∧ W' = W := by
  have HT : Hid (Tab W) := hT
  have Hv : Hid (Rng v) := hv
  have Hw : Hid (Rng w) := hw
  clear hT hv hw
  have bt := ofT_bd v
  cases h1 : wd v
  · have H1 : Hid _ := h1
    have et : ofT v = 0 := by simp [ofT, h1]
    have en : ofN v = 0 := by simp [ofN, h1]
    have Et : Hid _ := et
    have En : Hid _ := en
    clear h1 et en
    go_enter Tryd.func6, Tryd.ntmps6
    go_wp2_with fail
    refine (known_any _ HT.out).mono ?_
    rintro e w' ⟨rfl, rfl⟩
    go_wp2_with fail
    refine (of_any _ _ Hv.out HT.out).mono ?_
    rintro e w' ⟨rfl, rfl⟩
    rw [H1.out, Et.out, En.out]
    go_wp2_with fail
    refine (of_any _ _ Hw.out HT.out).mono ?_
    rintro e w' ⟨rfl, rfl⟩
    go_wp2_with fail
    go_ret
    exact ⟨rfl, rfl⟩
  · have hv := Hv.out
    have hw := Hw.out
    have hT := HT.out
    cases h8 : (ofT v == 8) <;> cases h2 : wd w
    · exact back_none_no v w W hv hw hT h1 h8 h2
    · cases ht : (ofT v == ofT w)
      · exact back_other_no v w W hv hw hT h1 h8 h2 ht
      · cases hn : (ofN v == ofN w)
        · exact back_numb_no v w W hv hw hT h1 h8 h2 ht hn
        · exact back_same_no v w W hv hw hT h1 h8 h2 ht hn
    · exact back_none_ref v w W hv hw hT h1 h8 h2
    · cases ht : (ofT v == ofT w)
      · exact back_other_ref v w W hv hw hT h1 h8 h2 ht
      · cases hn : (ofN v == ofN w)
        · exact back_numb_ref v w W hv hw hT h1 h8 h2 ht hn
        · exact back_same_ref v w W hv hw hT h1 h8 h2 ht hn
end Go.Proofs.YtiijmhilhdpahaaDoor
