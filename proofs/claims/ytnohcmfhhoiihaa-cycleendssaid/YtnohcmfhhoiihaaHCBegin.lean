/- Begin, and the document's. -/
import Derived.Test.YtnohcmfhhoiihaaHCMay
import Derived.Test.YtnohcmfhhoiihaaHCMayR
import Derived.Test.YtnohcmfhhoiihaaHCStep0
namespace Go.Proofs.Ytnohcmfhhoiihaa
open Go.RowKit

set_option maxRecDepth 100000 in
set_option maxHeartbeats 16000000 in
theorem begin_any (ph gl sw fr bg : Int) (ak : Bool) (w : World) (hp : 0 ≤ ph) : Calls Try.prog 7 #[.agg #[.int .u8 ph, .int .i64 gl, .int .i64 sw, .int .i64 fr, .int .i64 bg, .bool ak]] w fun e w' => e = .returned (.tuple #[.agg #[.int .u8 (begM ph gl sw fr bg ak).1.ph, .int .i64 (begM ph gl sw fr bg ak).1.gl, .int .i64 (begM ph gl sw fr bg ak).1.sw, .int .i64 (begM ph gl sw fr bg ak).1.fr, .int .i64 (begM ph gl sw fr bg ak).1.bg, .bool (begM ph gl sw fr bg ak).1.ak], .int .i64 (begM ph gl sw fr bg ak).2]) ∧ Below w.heap.size w w' := by
  obtain ⟨M, hM⟩ : ∃ M, M = begM ph gl sw fr bg ak := ⟨_, rfl⟩
  rw [← hM]
  have HM : Hid (M = begM ph gl sw fr bg ak) := hM
  obtain ⟨h1, h2⟩ := bx_new w ph gl sw fr bg ak
  have HC : Hid (CB ((w.alloc (.cells #[.int .u8 ph, .int .i64 gl, .int .i64 sw, .int .i64 fr, .int .i64 bg, .bool ak] 27)).alloc (.cells #[.int .u8 0, .int .i64 0, .int .i64 0, .int .i64 0, .int .i64 0, .bool false] 27)) w.heap.size ph gl sw fr bg ak) := h1
  have HR : Hid (RX w ((w.alloc (.cells #[.int .u8 ph, .int .i64 gl, .int .i64 sw, .int .i64 fr, .int .i64 bg, .bool ak] 27)).alloc (.cells #[.int .u8 0, .int .i64 0, .int .i64 0, .int .i64 0, .int .i64 0, .bool false] 27)) (w.heap.size + 1)) := h2
  obtain ⟨W, hW⟩ : ∃ W, W = (w.alloc (.cells #[.int .u8 ph, .int .i64 gl, .int .i64 sw, .int .i64 fr, .int .i64 bg, .bool ak] 27)).alloc (.cells #[.int .u8 0, .int .i64 0, .int .i64 0, .int .i64 0, .int .i64 0, .bool false] 27) := ⟨_, rfl⟩
  clear hM h1 h2
  have HY : Hid (∀ w : World, Calls Try.prog 21 #[.agg #[.int .u8 ph, .int .i64 gl, .int .i64 sw, .int .i64 fr, .int .i64 bg, .bool ak]] w fun e w' => e = .returned (.bool (mayB ph gl sw fr bg ak)) ∧ Below w.heap.size w w') := mayBe_any ph gl sw fr bg ak
  go_enter Try.func7, Try.ntmps7
  go_upto_region 1 with fail
  rw [← hW] at HC HR ⊢
  clear hW
  have c0 := heap_cell (j := 0) HC.out rfl
  have c1 := heap_cell (j := 1) HC.out rfl
  have c2 := heap_cell (j := 2) HC.out rfl
  have c3 := heap_cell (j := 3) HC.out rfl
  have c4 := heap_cell (j := 4) HC.out rfl
  have c5 := heap_cell (j := 5) HC.out rfl
  have l0 := heap_lt HC.out
  go_wp2_with fail
  refine Calls.mono (HY.out _) ?_
  rintro e w1 ⟨rfl, hb⟩
  replace HC : Hid (CB w1 w.heap.size ph gl sw fr bg ak) := (hb.block _ (heap_lt HC.out)).trans HC.out
  replace HR : Hid _ := HR.out.keep hb
  clear c0 c1 c2 c3 c4 c5 l0 hb HY
  have c0 := heap_cell (j := 0) HC.out rfl
  have c1 := heap_cell (j := 1) HC.out rfl
  have c2 := heap_cell (j := 2) HC.out rfl
  have c3 := heap_cell (j := 3) HC.out rfl
  have c4 := heap_cell (j := 4) HC.out rfl
  have c5 := heap_cell (j := 5) HC.out rfl
  have l0 := heap_lt HC.out
  obtain ⟨_, _, _, _, _, _, hr⟩ := HR.out.rb
  have r0 := heap_cell (j := 0) hr rfl
  have z0 := fz_of hr 0
  have r1 := heap_cell (j := 1) hr rfl
  have z1 := fz_of hr 1
  have r2 := heap_cell (j := 2) hr rfl
  have z2 := fz_of hr 2
  have r3 := heap_cell (j := 3) hr rfl
  have z3 := fz_of hr 3
  have r4 := heap_cell (j := 4) hr rfl
  have z4 := fz_of hr 4
  have r5 := heap_cell (j := 5) hr rfl
  have z5 := fz_of hr 5
  have l2 := heap_lt hr
  clear hr
  cases hm : mayB ph gl sw fr bg ak
  · skip
    go_wp2
    obtain rfl : M = (⟨0, 0, 0, 0, 0, false⟩, 171) := HM.out.trans (by unfold begM; rw [hm]; rfl)
    exact bodyPost_ret (results_cy (g := w.heap.size + 1) rfl rfl rfl (HR.out.done ⟨0, 0, 0, 0, 0, false⟩).1) rfl ⟨rfl, (HR.out.done ⟨0, 0, 0, 0, 0, false⟩).2⟩
  · cases ak
    · by_cases k1 : ph = 0
      · subst k1
        have HX : Hid (RX w (w1.setCell ⟨w.heap.size, 5, none⟩ (.bool true)) (w.heap.size + 1)) := HR.out.set (by omega) (Nat.le_refl _) _
        have y5 := fz_of HC.out 5
        go_wp2
        obtain rfl : M = (⟨0, gl, sw, fr, bg, true⟩, 0) := HM.out.trans (by unfold begM; rw [hm]; rfl)
        exact bodyPost_ret (results_cy (g := w.heap.size + 1) rfl rfl rfl (HX.out.done ⟨0, gl, sw, fr, bg, true⟩).1) rfl ⟨rfl, (HX.out.done ⟨0, gl, sw, fr, bg, true⟩).2⟩
      · have k2 : (ph == 0) = false := by simpa using k1
        have k3 : (ph != 0) = true := by simpa using k1
        go_wp2
        obtain rfl : M = (⟨0, 0, 0, 0, 0, false⟩, 170) := HM.out.trans (by unfold begM; rw [hm]; rw [if_pos rfl, if_pos (.inr k1)]; rfl)
        exact bodyPost_ret (results_cy (g := w.heap.size + 1) rfl rfl rfl (HR.out.done ⟨0, 0, 0, 0, 0, false⟩).1) rfl ⟨rfl, (HR.out.done ⟨0, 0, 0, 0, 0, false⟩).2⟩
    · skip
      go_wp2
      obtain rfl : M = (⟨0, 0, 0, 0, 0, false⟩, 170) := HM.out.trans (by unfold begM; rw [hm]; rfl)
      exact bodyPost_ret (results_cy (g := w.heap.size + 1) rfl rfl rfl (HR.out.done ⟨0, 0, 0, 0, 0, false⟩).1) rfl ⟨rfl, (HR.out.done ⟨0, 0, 0, 0, 0, false⟩).2⟩
set_option maxRecDepth 100000 in
set_option maxHeartbeats 16000000 in
theorem refBegin_any (ph gl sw fr bg : Int) (ak : Bool) (w : World) (hp : 0 ≤ ph) : Calls Try.prog 8 #[.agg #[.int .u8 ph, .int .i64 gl, .int .i64 sw, .int .i64 fr, .int .i64 bg, .bool ak]] w fun e w' => e = .returned (.tuple #[.agg #[.int .u8 (begM ph gl sw fr bg ak).1.ph, .int .i64 (begM ph gl sw fr bg ak).1.gl, .int .i64 (begM ph gl sw fr bg ak).1.sw, .int .i64 (begM ph gl sw fr bg ak).1.fr, .int .i64 (begM ph gl sw fr bg ak).1.bg, .bool (begM ph gl sw fr bg ak).1.ak], .int .i64 (begM ph gl sw fr bg ak).2]) ∧ Below w.heap.size w w' := by
  obtain ⟨M, hM⟩ : ∃ M, M = begM ph gl sw fr bg ak := ⟨_, rfl⟩
  rw [← hM]
  have HM : Hid (M = begM ph gl sw fr bg ak) := hM
  obtain ⟨h1, h2⟩ := bx_new w ph gl sw fr bg ak
  have HC : Hid (CB ((w.alloc (.cells #[.int .u8 ph, .int .i64 gl, .int .i64 sw, .int .i64 fr, .int .i64 bg, .bool ak] 27)).alloc (.cells #[.int .u8 0, .int .i64 0, .int .i64 0, .int .i64 0, .int .i64 0, .bool false] 27)) w.heap.size ph gl sw fr bg ak) := h1
  have HR : Hid (RX w ((w.alloc (.cells #[.int .u8 ph, .int .i64 gl, .int .i64 sw, .int .i64 fr, .int .i64 bg, .bool ak] 27)).alloc (.cells #[.int .u8 0, .int .i64 0, .int .i64 0, .int .i64 0, .int .i64 0, .bool false] 27)) (w.heap.size + 1)) := h2
  obtain ⟨W, hW⟩ : ∃ W, W = (w.alloc (.cells #[.int .u8 ph, .int .i64 gl, .int .i64 sw, .int .i64 fr, .int .i64 bg, .bool ak] 27)).alloc (.cells #[.int .u8 0, .int .i64 0, .int .i64 0, .int .i64 0, .int .i64 0, .bool false] 27) := ⟨_, rfl⟩
  clear hM h1 h2
  have HY : Hid (∀ w : World, Calls Try.prog 22 #[.agg #[.int .u8 ph, .int .i64 gl, .int .i64 sw, .int .i64 fr, .int .i64 bg, .bool ak]] w fun e w' => e = .returned (.bool (mayB ph gl sw fr bg ak)) ∧ Below w.heap.size w w') := refMay_any ph gl sw fr bg ak
  go_enter Try.func8, Try.ntmps8
  go_upto_region 1 with fail
  rw [← hW] at HC HR ⊢
  clear hW
  have c0 := heap_cell (j := 0) HC.out rfl
  have c1 := heap_cell (j := 1) HC.out rfl
  have c2 := heap_cell (j := 2) HC.out rfl
  have c3 := heap_cell (j := 3) HC.out rfl
  have c4 := heap_cell (j := 4) HC.out rfl
  have c5 := heap_cell (j := 5) HC.out rfl
  have l0 := heap_lt HC.out
  go_wp2_with fail
  refine Calls.mono (HY.out _) ?_
  rintro e w1 ⟨rfl, hb⟩
  replace HC : Hid (CB w1 w.heap.size ph gl sw fr bg ak) := (hb.block _ (heap_lt HC.out)).trans HC.out
  replace HR : Hid _ := HR.out.keep hb
  clear c0 c1 c2 c3 c4 c5 l0 hb HY
  have c0 := heap_cell (j := 0) HC.out rfl
  have c1 := heap_cell (j := 1) HC.out rfl
  have c2 := heap_cell (j := 2) HC.out rfl
  have c3 := heap_cell (j := 3) HC.out rfl
  have c4 := heap_cell (j := 4) HC.out rfl
  have c5 := heap_cell (j := 5) HC.out rfl
  have l0 := heap_lt HC.out
  obtain ⟨_, _, _, _, _, _, hr⟩ := HR.out.rb
  have r0 := heap_cell (j := 0) hr rfl
  have z0 := fz_of hr 0
  have r1 := heap_cell (j := 1) hr rfl
  have z1 := fz_of hr 1
  have r2 := heap_cell (j := 2) hr rfl
  have z2 := fz_of hr 2
  have r3 := heap_cell (j := 3) hr rfl
  have z3 := fz_of hr 3
  have r4 := heap_cell (j := 4) hr rfl
  have z4 := fz_of hr 4
  have r5 := heap_cell (j := 5) hr rfl
  have z5 := fz_of hr 5
  have l2 := heap_lt hr
  clear hr
  cases hm : mayB ph gl sw fr bg ak
  · skip
    go_wp2
    obtain rfl : M = (⟨0, 0, 0, 0, 0, false⟩, 171) := HM.out.trans (by unfold begM; rw [hm]; rfl)
    exact bodyPost_ret (results_cy (g := w.heap.size + 1) rfl rfl rfl (HR.out.done ⟨0, 0, 0, 0, 0, false⟩).1) rfl ⟨rfl, (HR.out.done ⟨0, 0, 0, 0, 0, false⟩).2⟩
  · cases ak
    · by_cases k1 : ph = 0
      · subst k1
        have HX : Hid (RX w (w1.setCell ⟨w.heap.size, 5, none⟩ (.bool true)) (w.heap.size + 1)) := HR.out.set (by omega) (Nat.le_refl _) _
        have y5 := fz_of HC.out 5
        go_wp2
        obtain rfl : M = (⟨0, gl, sw, fr, bg, true⟩, 0) := HM.out.trans (by unfold begM; rw [hm]; rfl)
        exact bodyPost_ret (results_cy (g := w.heap.size + 1) rfl rfl rfl (HX.out.done ⟨0, gl, sw, fr, bg, true⟩).1) rfl ⟨rfl, (HX.out.done ⟨0, gl, sw, fr, bg, true⟩).2⟩
      · have k2 : (ph == 0) = false := by simpa using k1
        have k3 : (ph != 0) = true := by simpa using k1
        go_wp2
        obtain rfl : M = (⟨0, 0, 0, 0, 0, false⟩, 170) := HM.out.trans (by unfold begM; rw [hm]; rw [if_pos rfl, if_pos (.inr k1)]; rfl)
        exact bodyPost_ret (results_cy (g := w.heap.size + 1) rfl rfl rfl (HR.out.done ⟨0, 0, 0, 0, 0, false⟩).1) rfl ⟨rfl, (HR.out.done ⟨0, 0, 0, 0, 0, false⟩).2⟩
    · skip
      go_wp2
      obtain rfl : M = (⟨0, 0, 0, 0, 0, false⟩, 170) := HM.out.trans (by unfold begM; rw [hm]; rfl)
      exact bodyPost_ret (results_cy (g := w.heap.size + 1) rfl rfl rfl (HR.out.done ⟨0, 0, 0, 0, 0, false⟩).1) rfl ⟨rfl, (HR.out.done ⟨0, 0, 0, 0, 0, false⟩).2⟩
end Go.Proofs.Ytnohcmfhhoiihaa
