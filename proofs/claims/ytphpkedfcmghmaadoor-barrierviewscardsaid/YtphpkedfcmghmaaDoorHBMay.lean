/- May a view be? -/
import Derived.Test.YtphpkedfcmghmaaDoorHBGrey
namespace Go.Proofs.YtphpkedfcmghmaaDoor
open Go.RowKit

def mayV (v : Vw) : Bool := decide (v.ph ≤ 3) && (upToB v.sw v.h.length && (upToB v.laid v.gl.length && (v.h.all headB && (wordsOk v && greyOk v))))
set_option maxRecDepth 100000 in
set_option maxHeartbeats 8000000 in
theorem mayBe_any (p : Vp) (v : Vw) (w : World) (hV : VL w p v) (hT : Tab w) :
    Calls Tryd.prog 66 #[.agg (p.cells v)] w fun e w' => e = .returned (.bool (mayV v)) ∧ Below w.heap.size w w' := by
  have HV : Hid (VL w p v) := hV
  have HT : Hid (Tab w) := hT
  have hl := hV.hl
  obtain ⟨W1, hW1⟩ : ∃ W1, w.alloc (.cells (p.cells v) 28) = W1 := ⟨_, rfl⟩
  have b1 : Below w.heap.size w W1 := by rw [← hW1]; exact (Below.refl _ w).alloc (Nat.le_refl _) _
  have v1 : VB W1 w.heap.size p v := by unfold VB; rw [← hW1]; exact World.alloc_heap_new w _
  have HB1 : Hid (Below w.heap.size w W1) := b1
  have HV1 : Hid (VL W1 p v) := hV.kc (kc_below (Nat.le_refl _) b1)
  have HVB : Hid (VB W1 w.heap.size p v) := v1
  obtain ⟨d0, d1, d2, d3, d4, d5, d6⟩ := v1.at7
  clear hV hT b1 v1
  unfold Vp.cells at hW1
  unfold Vp.cells
  go_enter Tryd.func66, Tryd.ntmps66
  by_cases z0 : v.ph ≤ 3
  · go_wp2_with (first | rw [hW1] | fail)
    refine Calls.mono (isUpTo_any _ _ _) ?_
    rintro e w' ⟨rfl, rfl⟩
    cases z1 : upToB v.sw v.h.length
    · have HF : Hid (mayV v = false) := by show _ = _; unfold mayV; simp [z1]
      go_wp2
      go_ret
      exact ⟨ret_bool HF.out.symm, HB1.out⟩
    go_wp2_with fail
    refine Calls.mono (isUpTo_any _ _ _) ?_
    rintro e w'' ⟨rfl, rfl⟩
    cases z2 : upToB v.laid v.gl.length
    · have HF : Hid (mayV v = false) := by show _ = _; unfold mayV; simp [z2]
      go_wp2
      go_ret
      exact ⟨ret_bool HF.out.symm, HB1.out⟩
    go_wp2_with fail
    refine Calls.mono (hasHeads_any v.h p.cr p.cc _ hl HV1.out.h) ?_
    rintro e W2 ⟨rfl, hb2⟩
    have HB2 : Hid (Below w.heap.size w W2) := HB1.out.trans (hb2.mono HB1.out.size)
    have HV2 : Hid (VL W2 p v) := HV.out.kc (kc_below (Nat.le_refl _) HB2.out)
    have v2 : VB W2 w.heap.size p v := HVB.out.kc (kc_below (Nat.le_refl _) hb2)
    have HVB2 : Hid (VB W2 w.heap.size p v) := v2
    clear d0 d1 d2 d3 d4 d5 d6 hb2
    obtain ⟨d0, d1, d2, d3, d4, d5, d6⟩ := v2.at7
    clear v2
    cases z3 : v.h.all headB
    · have HF : Hid (mayV v = false) := by show _ = _; unfold mayV; simp only [z3]; simp
      go_wp2
      go_ret
      exact ⟨ret_bool HF.out.symm, HB2.out⟩
    go_wp2_with fail
    refine Calls.mono (hasWords_any p v _ HV2.out (HT.out.below HB2.out)) ?_
    rintro e W3 ⟨rfl, hb3⟩
    have HB3 : Hid (Below w.heap.size w W3) := HB2.out.trans (hb3.mono HB2.out.size)
    have HV3 : Hid (VL W3 p v) := HV.out.kc (kc_below (Nat.le_refl _) HB3.out)
    have v3 : VB W3 w.heap.size p v := HVB2.out.kc (kc_below (Nat.le_refl _) hb3)
    clear d0 d1 d2 d3 d4 d5 d6 hb3
    obtain ⟨d0, d1, d2, d3, d4, d5, d6⟩ := v3.at7
    clear v3
    cases z4 : wordsOk v
    · have HF : Hid (mayV v = false) := by show _ = _; unfold mayV; simp [z4]
      go_wp2
      go_ret
      exact ⟨ret_bool HF.out.symm, HB3.out⟩
    go_wp2_with fail
    refine Calls.mono (hasGrey_any p v _ HV3.out) ?_
    rintro e W4 ⟨rfl, hb4⟩
    have HB4 : Hid (Below w.heap.size w W4) := HB3.out.trans (hb4.mono HB3.out.size)
    have HF : Hid (mayV v = greyOk v) := by show _ = _; unfold mayV; simp only [z0, z1, z2, z3, z4]; simp
    clear hb4
    go_wp2
    go_ret
    exact ⟨ret_bool HF.out.symm, HB4.out⟩
  · have HF : Hid (mayV v = false) := by show _ = _; unfold mayV; simp [z0]
    go_wp2_with (first | rw [hW1] | fail)
    go_ret
    exact ⟨ret_bool HF.out.symm, HB1.out⟩
end Go.Proofs.YtphpkedfcmghmaaDoor
