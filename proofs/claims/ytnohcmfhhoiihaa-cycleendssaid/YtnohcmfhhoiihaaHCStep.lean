/- Step: where it is behind that. -/
import Derived.Test.YtnohcmfhhoiihaaHCNext
import Derived.Test.YtnohcmfhhoiihaaHCStep0
namespace Go.Proofs.Ytnohcmfhhoiihaa
open Go.RowKit

set_option maxRecDepth 100000 in
set_option maxHeartbeats 16000000 in
theorem step_any (ph gl sw fr bg : Int) (ak : Bool) (ce ag th : Int) (st tl gr back : Bool) (w : World) (hp : 0 ≤ ph) (hb0 : bg ≤ 9223372036854775807) (hg0 : ag ≤ 9223372036854775807) (hc0 : ce ≤ 9223372036854775807) : Calls Try.prog 10 #[.agg #[.int .u8 ph, .int .i64 gl, .int .i64 sw, .int .i64 fr, .int .i64 bg, .bool ak], .agg #[.int .i64 ce, .int .i64 ag, .int .i64 th, .bool st, .bool tl, .bool gr], .bool back] w fun e w' => e = .returned (.tuple #[.agg #[.int .u8 (stepM ph gl sw fr bg ak ce ag th st tl gr back).1.ph, .int .i64 (stepM ph gl sw fr bg ak ce ag th st tl gr back).1.gl, .int .i64 (stepM ph gl sw fr bg ak ce ag th st tl gr back).1.sw, .int .i64 (stepM ph gl sw fr bg ak ce ag th st tl gr back).1.fr, .int .i64 (stepM ph gl sw fr bg ak ce ag th st tl gr back).1.bg, .bool (stepM ph gl sw fr bg ak ce ag th st tl gr back).1.ak], .int .i64 (stepM ph gl sw fr bg ak ce ag th st tl gr back).2]) ∧ Below w.heap.size w w' := by
  obtain ⟨M, hM⟩ : ∃ M, M = stepM ph gl sw fr bg ak ce ag th st tl gr back := ⟨_, rfl⟩
  rw [← hM]
  have HM : Hid (M = stepM ph gl sw fr bg ak ce ag th st tl gr back) := hM
  obtain ⟨h1, h2, h3⟩ := sx_new w ph gl sw fr bg ak ce ag th st tl gr
  have HC : Hid (CB (((w.alloc (.cells #[.int .u8 ph, .int .i64 gl, .int .i64 sw, .int .i64 fr, .int .i64 bg, .bool ak] 27)).alloc (.cells #[.int .i64 ce, .int .i64 ag, .int .i64 th, .bool st, .bool tl, .bool gr] 29)).alloc (.cells #[.int .u8 0, .int .i64 0, .int .i64 0, .int .i64 0, .int .i64 0, .bool false] 27)) w.heap.size ph gl sw fr bg ak) := h1
  have HA : Hid (AB (((w.alloc (.cells #[.int .u8 ph, .int .i64 gl, .int .i64 sw, .int .i64 fr, .int .i64 bg, .bool ak] 27)).alloc (.cells #[.int .i64 ce, .int .i64 ag, .int .i64 th, .bool st, .bool tl, .bool gr] 29)).alloc (.cells #[.int .u8 0, .int .i64 0, .int .i64 0, .int .i64 0, .int .i64 0, .bool false] 27)) (w.heap.size + 1) ce ag th st tl gr) := h2
  have HR : Hid (RX w (((w.alloc (.cells #[.int .u8 ph, .int .i64 gl, .int .i64 sw, .int .i64 fr, .int .i64 bg, .bool ak] 27)).alloc (.cells #[.int .i64 ce, .int .i64 ag, .int .i64 th, .bool st, .bool tl, .bool gr] 29)).alloc (.cells #[.int .u8 0, .int .i64 0, .int .i64 0, .int .i64 0, .int .i64 0, .bool false] 27)) (w.heap.size + 2)) := h3
  obtain ⟨W, hW⟩ : ∃ W, W = ((w.alloc (.cells #[.int .u8 ph, .int .i64 gl, .int .i64 sw, .int .i64 fr, .int .i64 bg, .bool ak] 27)).alloc (.cells #[.int .i64 ce, .int .i64 ag, .int .i64 th, .bool st, .bool tl, .bool gr] 29)).alloc (.cells #[.int .u8 0, .int .i64 0, .int .i64 0, .int .i64 0, .int .i64 0, .bool false] 27) := ⟨_, rfl⟩
  clear hM h1 h2 h3
  have HY : Hid (∀ w : World, Calls Try.prog 21 #[.agg #[.int .u8 ph, .int .i64 gl, .int .i64 sw, .int .i64 fr, .int .i64 bg, .bool ak]] w fun e w' => e = .returned (.bool (mayB ph gl sw fr bg ak)) ∧ Below w.heap.size w w') := mayBe_any ph gl sw fr bg ak
  have HN : Hid (∀ w : World, Calls Try.prog 9 #[.agg #[.int .u8 ph, .int .i64 gl, .int .i64 sw, .int .i64 fr, .int .i64 bg, .bool ak], .agg #[.int .i64 ce, .int .i64 ag, .int .i64 th, .bool st, .bool tl, .bool gr]] w fun e w' => e = .returned (.agg #[.int .u8 (nextM ph gl sw fr bg ak ce ag th st tl gr).wh, .int .i64 (nextM ph gl sw fr bg ak ce ag th st tl gr).gl, .int .i64 (nextM ph gl sw fr bg ak ce ag th st tl gr).th, .int .i64 (nextM ph gl sw fr bg ak ce ag th st tl gr).ce]) ∧ Below w.heap.size w w') := fun w => next_any ph gl sw fr bg ak ce ag th st tl gr w hp
  go_enter Try.func10, Try.ntmps10
  go_upto_region 1 with fail
  rw [← hW] at HC HA HR ⊢
  clear hW
  cases hm : mayB ph gl sw fr bg ak
  · rw [hm] at HY
    have c0 := heap_cell (j := 0) HC.out rfl
    have c1 := heap_cell (j := 1) HC.out rfl
    have c2 := heap_cell (j := 2) HC.out rfl
    have c3 := heap_cell (j := 3) HC.out rfl
    have c4 := heap_cell (j := 4) HC.out rfl
    have c5 := heap_cell (j := 5) HC.out rfl
    have l0 := heap_lt HC.out
    have a0 := heap_cell (j := 0) HA.out rfl
    have a1 := heap_cell (j := 1) HA.out rfl
    have a2 := heap_cell (j := 2) HA.out rfl
    have a3 := heap_cell (j := 3) HA.out rfl
    have a4 := heap_cell (j := 4) HA.out rfl
    have a5 := heap_cell (j := 5) HA.out rfl
    have l1 := heap_lt HA.out
    go_wp2_with fail
    refine Calls.mono (HY.out _) ?_
    rintro e w1 ⟨rfl, hb⟩
    replace HC : Hid (CB w1 w.heap.size ph gl sw fr bg ak) := (hb.block _ (heap_lt HC.out)).trans HC.out
    replace HA : Hid (AB w1 (w.heap.size + 1) ce ag th st tl gr) := (hb.block _ (heap_lt HA.out)).trans HA.out
    replace HR : Hid (RX w w1 (w.heap.size + 2)) := HR.out.keep hb
    clear c0 c1 c2 c3 c4 c5 l0 a0 a1 a2 a3 a4 a5 l1 hb HY
    have c0 := heap_cell (j := 0) HC.out rfl
    have c1 := heap_cell (j := 1) HC.out rfl
    have c2 := heap_cell (j := 2) HC.out rfl
    have c3 := heap_cell (j := 3) HC.out rfl
    have c4 := heap_cell (j := 4) HC.out rfl
    have c5 := heap_cell (j := 5) HC.out rfl
    have l0 := heap_lt HC.out
    have a0 := heap_cell (j := 0) HA.out rfl
    have a1 := heap_cell (j := 1) HA.out rfl
    have a2 := heap_cell (j := 2) HA.out rfl
    have a3 := heap_cell (j := 3) HA.out rfl
    have a4 := heap_cell (j := 4) HA.out rfl
    have a5 := heap_cell (j := 5) HA.out rfl
    have l1 := heap_lt HA.out
    obtain ⟨_, _, _, _, _, _, hr⟩ := HR.out.rb
    have r0 := heap_cell (j := 0) hr rfl
    have z0 := fz_of hr 0
    have r1 := heap_cell (j := 1) hr rfl
    have z1 := fz_of hr 1
    have r2 := heap_cell (j := 2) hr rfl
    have z2 := fz_of hr 2
    have r3 := heap_cell (j := 3) hr rfl
    have z3 := fz_of hr 3
    have r4 := heap_cell (j := 4) hr rfl
    have z4 := fz_of hr 4
    have r5 := heap_cell (j := 5) hr rfl
    have z5 := fz_of hr 5
    have l2 := heap_lt hr
    clear hr
    go_wp2
    obtain rfl : M = (⟨0, 0, 0, 0, 0, false⟩, 171) := HM.out.trans (by unfold stepM; rw [if_neg (fun h => by rw [hm] at h; exact absurd h.1 (by decide))]; rfl)
    exact bodyPost_ret (results_cy (g := w.heap.size + 2) rfl rfl rfl (HR.out.done ⟨0, 0, 0, 0, 0, false⟩).1) rfl ⟨rfl, (HR.out.done ⟨0, 0, 0, 0, 0, false⟩).2⟩
  · rw [hm] at HY
    have hy := of_decide_eq_true hm
    unfold May at hy
    have HYY : Hid (May ph gl sw fr bg ak) := hy
    have HF : Hid (∀ w : World, Calls Try.prog 23 #[.agg #[.int .u8 ph, .int .i64 gl, .int .i64 sw, .int .i64 fr, .int .i64 bg, .bool ak], .agg #[.int .i64 ce, .int .i64 ag, .int .i64 th, .bool st, .bool tl, .bool gr]] w fun e w' => e = .returned (.bool (fitB gl sw ce ag th)) ∧ Below w.heap.size w w') := fun w => fits_any ph gl sw fr bg ak ce ag th st tl gr w hy.2.1 hy.2.2.1
    clear hy
    cases hf : fitB gl sw ce ag th
    · rw [hf] at HF
      have c0 := heap_cell (j := 0) HC.out rfl
      have c1 := heap_cell (j := 1) HC.out rfl
      have c2 := heap_cell (j := 2) HC.out rfl
      have c3 := heap_cell (j := 3) HC.out rfl
      have c4 := heap_cell (j := 4) HC.out rfl
      have c5 := heap_cell (j := 5) HC.out rfl
      have l0 := heap_lt HC.out
      have a0 := heap_cell (j := 0) HA.out rfl
      have a1 := heap_cell (j := 1) HA.out rfl
      have a2 := heap_cell (j := 2) HA.out rfl
      have a3 := heap_cell (j := 3) HA.out rfl
      have a4 := heap_cell (j := 4) HA.out rfl
      have a5 := heap_cell (j := 5) HA.out rfl
      have l1 := heap_lt HA.out
      go_wp2_with fail
      refine Calls.mono (HY.out _) ?_
      rintro e w1 ⟨rfl, hb⟩
      replace HC : Hid (CB w1 w.heap.size ph gl sw fr bg ak) := (hb.block _ (heap_lt HC.out)).trans HC.out
      replace HA : Hid (AB w1 (w.heap.size + 1) ce ag th st tl gr) := (hb.block _ (heap_lt HA.out)).trans HA.out
      replace HR : Hid (RX w w1 (w.heap.size + 2)) := HR.out.keep hb
      clear c0 c1 c2 c3 c4 c5 l0 a0 a1 a2 a3 a4 a5 l1 hb HY
      have c0 := heap_cell (j := 0) HC.out rfl
      have c1 := heap_cell (j := 1) HC.out rfl
      have c2 := heap_cell (j := 2) HC.out rfl
      have c3 := heap_cell (j := 3) HC.out rfl
      have c4 := heap_cell (j := 4) HC.out rfl
      have c5 := heap_cell (j := 5) HC.out rfl
      have l0 := heap_lt HC.out
      have a0 := heap_cell (j := 0) HA.out rfl
      have a1 := heap_cell (j := 1) HA.out rfl
      have a2 := heap_cell (j := 2) HA.out rfl
      have a3 := heap_cell (j := 3) HA.out rfl
      have a4 := heap_cell (j := 4) HA.out rfl
      have a5 := heap_cell (j := 5) HA.out rfl
      have l1 := heap_lt HA.out
      go_wp2_with fail
      refine Calls.mono (HF.out _) ?_
      rintro e w2 ⟨rfl, hb⟩
      replace HC : Hid (CB w2 w.heap.size ph gl sw fr bg ak) := (hb.block _ (heap_lt HC.out)).trans HC.out
      replace HA : Hid (AB w2 (w.heap.size + 1) ce ag th st tl gr) := (hb.block _ (heap_lt HA.out)).trans HA.out
      replace HR : Hid (RX w w2 (w.heap.size + 2)) := HR.out.keep hb
      clear c0 c1 c2 c3 c4 c5 l0 a0 a1 a2 a3 a4 a5 l1 hb HF
      have c0 := heap_cell (j := 0) HC.out rfl
      have c1 := heap_cell (j := 1) HC.out rfl
      have c2 := heap_cell (j := 2) HC.out rfl
      have c3 := heap_cell (j := 3) HC.out rfl
      have c4 := heap_cell (j := 4) HC.out rfl
      have c5 := heap_cell (j := 5) HC.out rfl
      have l0 := heap_lt HC.out
      have a0 := heap_cell (j := 0) HA.out rfl
      have a1 := heap_cell (j := 1) HA.out rfl
      have a2 := heap_cell (j := 2) HA.out rfl
      have a3 := heap_cell (j := 3) HA.out rfl
      have a4 := heap_cell (j := 4) HA.out rfl
      have a5 := heap_cell (j := 5) HA.out rfl
      have l1 := heap_lt HA.out
      obtain ⟨_, _, _, _, _, _, hr⟩ := HR.out.rb
      have r0 := heap_cell (j := 0) hr rfl
      have z0 := fz_of hr 0
      have r1 := heap_cell (j := 1) hr rfl
      have z1 := fz_of hr 1
      have r2 := heap_cell (j := 2) hr rfl
      have z2 := fz_of hr 2
      have r3 := heap_cell (j := 3) hr rfl
      have z3 := fz_of hr 3
      have r4 := heap_cell (j := 4) hr rfl
      have z4 := fz_of hr 4
      have r5 := heap_cell (j := 5) hr rfl
      have z5 := fz_of hr 5
      have l2 := heap_lt hr
      clear hr
      go_wp2
      obtain rfl : M = (⟨0, 0, 0, 0, 0, false⟩, 171) := HM.out.trans (by unfold stepM; rw [if_neg (fun h => by rw [hf] at h; exact absurd h.2 (by decide))]; rfl)
      exact bodyPost_ret (results_cy (g := w.heap.size + 2) rfl rfl rfl (HR.out.done ⟨0, 0, 0, 0, 0, false⟩).1) rfl ⟨rfl, (HR.out.done ⟨0, 0, 0, 0, 0, false⟩).2⟩
    · rw [hf] at HF
      have hg := of_decide_eq_true hf
      unfold Fit at hg
      have HG : Hid (Fit gl sw ce ag th) := hg
      have HI : Hid (M = stM ph gl sw fr bg ak back (goM ph gl sw ak ce ag th st tl gr).wh) := HM.out.trans (if_pos ⟨hm, hf⟩)
      have eN : nextM ph gl sw fr bg ak ce ag th st tl gr = goM ph gl sw ak ce ag th st tl gr := if_pos ⟨hm, hf⟩
      rw [eN] at HN
      clear hg HM eN
      have c0 := heap_cell (j := 0) HC.out rfl
      have c1 := heap_cell (j := 1) HC.out rfl
      have c2 := heap_cell (j := 2) HC.out rfl
      have c3 := heap_cell (j := 3) HC.out rfl
      have c4 := heap_cell (j := 4) HC.out rfl
      have c5 := heap_cell (j := 5) HC.out rfl
      have l0 := heap_lt HC.out
      have a0 := heap_cell (j := 0) HA.out rfl
      have a1 := heap_cell (j := 1) HA.out rfl
      have a2 := heap_cell (j := 2) HA.out rfl
      have a3 := heap_cell (j := 3) HA.out rfl
      have a4 := heap_cell (j := 4) HA.out rfl
      have a5 := heap_cell (j := 5) HA.out rfl
      have l1 := heap_lt HA.out
      go_wp2_with fail
      refine Calls.mono (HY.out _) ?_
      rintro e w1 ⟨rfl, hb⟩
      replace HC : Hid (CB w1 w.heap.size ph gl sw fr bg ak) := (hb.block _ (heap_lt HC.out)).trans HC.out
      replace HA : Hid (AB w1 (w.heap.size + 1) ce ag th st tl gr) := (hb.block _ (heap_lt HA.out)).trans HA.out
      replace HR : Hid (RX w w1 (w.heap.size + 2)) := HR.out.keep hb
      clear c0 c1 c2 c3 c4 c5 l0 a0 a1 a2 a3 a4 a5 l1 hb HY
      have c0 := heap_cell (j := 0) HC.out rfl
      have c1 := heap_cell (j := 1) HC.out rfl
      have c2 := heap_cell (j := 2) HC.out rfl
      have c3 := heap_cell (j := 3) HC.out rfl
      have c4 := heap_cell (j := 4) HC.out rfl
      have c5 := heap_cell (j := 5) HC.out rfl
      have l0 := heap_lt HC.out
      have a0 := heap_cell (j := 0) HA.out rfl
      have a1 := heap_cell (j := 1) HA.out rfl
      have a2 := heap_cell (j := 2) HA.out rfl
      have a3 := heap_cell (j := 3) HA.out rfl
      have a4 := heap_cell (j := 4) HA.out rfl
      have a5 := heap_cell (j := 5) HA.out rfl
      have l1 := heap_lt HA.out
      go_wp2_with fail
      refine Calls.mono (HF.out _) ?_
      rintro e w2 ⟨rfl, hb⟩
      replace HC : Hid (CB w2 w.heap.size ph gl sw fr bg ak) := (hb.block _ (heap_lt HC.out)).trans HC.out
      replace HA : Hid (AB w2 (w.heap.size + 1) ce ag th st tl gr) := (hb.block _ (heap_lt HA.out)).trans HA.out
      replace HR : Hid (RX w w2 (w.heap.size + 2)) := HR.out.keep hb
      clear c0 c1 c2 c3 c4 c5 l0 a0 a1 a2 a3 a4 a5 l1 hb HF
      have c0 := heap_cell (j := 0) HC.out rfl
      have c1 := heap_cell (j := 1) HC.out rfl
      have c2 := heap_cell (j := 2) HC.out rfl
      have c3 := heap_cell (j := 3) HC.out rfl
      have c4 := heap_cell (j := 4) HC.out rfl
      have c5 := heap_cell (j := 5) HC.out rfl
      have l0 := heap_lt HC.out
      have a0 := heap_cell (j := 0) HA.out rfl
      have a1 := heap_cell (j := 1) HA.out rfl
      have a2 := heap_cell (j := 2) HA.out rfl
      have a3 := heap_cell (j := 3) HA.out rfl
      have a4 := heap_cell (j := 4) HA.out rfl
      have a5 := heap_cell (j := 5) HA.out rfl
      have l1 := heap_lt HA.out
      go_wp2_with fail
      refine Calls.mono (HN.out _) ?_
      rintro e w3 ⟨rfl, hb⟩
      replace HC : Hid (CB w3 w.heap.size ph gl sw fr bg ak) := (hb.block _ (heap_lt HC.out)).trans HC.out
      replace HA : Hid (AB w3 (w.heap.size + 1) ce ag th st tl gr) := (hb.block _ (heap_lt HA.out)).trans HA.out
      replace HR : Hid (RX w w3 (w.heap.size + 2)) := HR.out.keep hb
      clear c0 c1 c2 c3 c4 c5 l0 a0 a1 a2 a3 a4 a5 l1 hb HN
      have hy := HYY.out
      unfold May at hy
      have hg := HG.out
      unfold Fit at hg
      have hq := goM_wh ph gl sw fr bg ak ce ag th st tl gr (by omega)
      generalize goM ph gl sw ak ce ag th st tl gr = D at HI hq ⊢
      obtain ⟨wh, d1, d2, d3⟩ := D
      dsimp only at HI hq ⊢
      clear hm hf
      have c0 := heap_cell (j := 0) HC.out rfl
      have c1 := heap_cell (j := 1) HC.out rfl
      have c2 := heap_cell (j := 2) HC.out rfl
      have c3 := heap_cell (j := 3) HC.out rfl
      have c4 := heap_cell (j := 4) HC.out rfl
      have c5 := heap_cell (j := 5) HC.out rfl
      have l0 := heap_lt HC.out
      have a0 := heap_cell (j := 0) HA.out rfl
      have a1 := heap_cell (j := 1) HA.out rfl
      have a2 := heap_cell (j := 2) HA.out rfl
      have a3 := heap_cell (j := 3) HA.out rfl
      have a4 := heap_cell (j := 4) HA.out rfl
      have a5 := heap_cell (j := 5) HA.out rfl
      have l1 := heap_lt HA.out
      obtain ⟨_, _, _, _, _, _, hr⟩ := HR.out.rb
      have r0 := heap_cell (j := 0) hr rfl
      have z0 := fz_of hr 0
      have r1 := heap_cell (j := 1) hr rfl
      have z1 := fz_of hr 1
      have r2 := heap_cell (j := 2) hr rfl
      have z2 := fz_of hr 2
      have r3 := heap_cell (j := 3) hr rfl
      have z3 := fz_of hr 3
      have r4 := heap_cell (j := 4) hr rfl
      have z4 := fz_of hr 4
      have r5 := heap_cell (j := 5) hr rfl
      have z5 := fz_of hr 5
      have l2 := heap_lt hr
      clear hr
      have y1 := fz_of HC.out 1
      have y2 := fz_of HC.out 2
      have y3 := fz_of HC.out 3
      have hfd := fun w => fieldD (.int .u8 wh) (.int .i64 d1) (.int .i64 d2) (.int .i64 d3) w
      rcases hq with rfl | ⟨rfl, rfl⟩ | ⟨rfl, rfl, hlt⟩ | ⟨rfl, rfl⟩ | ⟨rfl, rfl⟩ | rfl | rfl | ⟨rfl, rfl, hlt⟩ | ⟨rfl, rfl⟩
      · have Hhy : Hid True := trivial
        clear hy hg
        go_wp2
        obtain rfl : M = (⟨0, 0, 0, 0, 0, false⟩, 170) := HI.out.trans (rfl)
        exact bodyPost_ret (results_cy (g := w.heap.size + 2) rfl rfl rfl (HR.out.done ⟨0, 0, 0, 0, 0, false⟩).1) rfl ⟨rfl, (HR.out.done ⟨0, 0, 0, 0, 0, false⟩).2⟩
      · have Hhy : Hid True := trivial
        have hbg : bg < 9223372036854775807 ∧ 0 ≤ bg := by omega
        obtain ⟨hb1, hb2⟩ := hbg
        clear hy hg
        go_wp2
        obtain rfl : M = (⟨1, 0, 0, 0, bg + 1, false⟩, 0) := HI.out.trans (rfl)
        exact bodyPost_ret (results_cy (g := w.heap.size + 2) rfl rfl rfl (HR.out.done ⟨1, 0, 0, 0, bg + 1, false⟩).1) rfl ⟨rfl, (HR.out.done ⟨1, 0, 0, 0, bg + 1, false⟩).2⟩
      · have Hhy : Hid True := trivial
        obtain ⟨rfl, rfl, rfl⟩ : sw = 0 ∧ fr = 0 ∧ ak = false := ⟨by omega, by omega, by cases ak <;> simp_all⟩
        have hgl : gl < 9223372036854775807 ∧ 0 ≤ gl := by omega
        obtain ⟨hb1, hb2⟩ := hgl
        have HX : Hid (RX w (w3.setCell ⟨w.heap.size, 1, none⟩ (.int .i64 (gl + 1))) (w.heap.size + 2)) := HR.out.set (by omega) (Nat.le_refl _) _
        clear hy hg
        go_wp2
        obtain rfl : M = (⟨1, gl + 1, 0, 0, bg, false⟩, 0) := HI.out.trans (rfl)
        exact bodyPost_ret (results_cy (g := w.heap.size + 2) rfl rfl rfl (HX.out.done ⟨1, gl + 1, 0, 0, bg, false⟩).1) rfl ⟨rfl, (HX.out.done ⟨1, gl + 1, 0, 0, bg, false⟩).2⟩
      · have Hhy : Hid True := trivial
        obtain ⟨rfl, rfl, rfl⟩ : sw = 0 ∧ fr = 0 ∧ ak = false := ⟨by omega, by omega, by cases ak <;> simp_all⟩
        clear hy hg
        go_wp2
        obtain rfl : M = (⟨1, gl, 0, 0, bg, false⟩, 0) := HI.out.trans (rfl)
        exact bodyPost_ret (results_cy (g := w.heap.size + 2) rfl rfl rfl (HR.out.done ⟨1, gl, 0, 0, bg, false⟩).1) rfl ⟨rfl, (HR.out.done ⟨1, gl, 0, 0, bg, false⟩).2⟩
      · have Hhy : Hid True := trivial
        obtain ⟨rfl, rfl, rfl⟩ : sw = 0 ∧ fr = 0 ∧ ak = false := ⟨by omega, by omega, by cases ak <;> simp_all⟩
        clear hy hg
        go_wp2
        obtain rfl : M = (⟨1, gl, 0, 0, bg, false⟩, 0) := HI.out.trans (rfl)
        exact bodyPost_ret (results_cy (g := w.heap.size + 2) rfl rfl rfl (HR.out.done ⟨1, gl, 0, 0, bg, false⟩).1) rfl ⟨rfl, (HR.out.done ⟨1, gl, 0, 0, bg, false⟩).2⟩
      · have Hhy : Hid True := trivial
        clear hy hg
        go_wp2
        obtain rfl : M = (⟨2, 0, 0, 0, bg, false⟩, 0) := HI.out.trans (rfl)
        exact bodyPost_ret (results_cy (g := w.heap.size + 2) rfl rfl rfl (HR.out.done ⟨2, 0, 0, 0, bg, false⟩).1) rfl ⟨rfl, (HR.out.done ⟨2, 0, 0, 0, bg, false⟩).2⟩
      · have Hhy : Hid True := trivial
        clear hy hg
        go_wp2
        obtain rfl : M = (⟨3, 0, 0, 0, bg, false⟩, 0) := HI.out.trans (rfl)
        exact bodyPost_ret (results_cy (g := w.heap.size + 2) rfl rfl rfl (HR.out.done ⟨3, 0, 0, 0, bg, false⟩).1) rfl ⟨rfl, (HR.out.done ⟨3, 0, 0, 0, bg, false⟩).2⟩
      · have Hhy : Hid True := trivial
        obtain ⟨rfl, rfl⟩ : gl = 0 ∧ ak = false := ⟨by omega, by cases ak <;> simp_all⟩
        have hbs : sw < 9223372036854775807 ∧ 0 ≤ sw ∧ fr < 9223372036854775807 ∧ 0 ≤ fr := by omega
        obtain ⟨hb1, hb2, hb3, hb4⟩ := hbs
        have HX : Hid (RX w (w3.setCell ⟨w.heap.size, 2, none⟩ (.int .i64 (sw + 1))) (w.heap.size + 2)) := HR.out.set (by omega) (Nat.le_refl _) _
        have HX2 : Hid (RX w ((w3.setCell ⟨w.heap.size, 2, none⟩ (.int .i64 (sw + 1))).setCell ⟨w.heap.size, 3, none⟩ (.int .i64 (fr + 1))) (w.heap.size + 2)) := HX.out.set (by omega) (Nat.le_refl _) _
        clear hy hg
        cases back
        · skip
          go_wp2
          obtain rfl : M = (⟨3, 0, sw + 1, fr, bg, false⟩, 0) := HI.out.trans (rfl)
          exact bodyPost_ret (results_cy (g := w.heap.size + 2) rfl rfl rfl (HX.out.done ⟨3, 0, sw + 1, fr, bg, false⟩).1) rfl ⟨rfl, (HX.out.done ⟨3, 0, sw + 1, fr, bg, false⟩).2⟩
        · skip
          go_wp2
          obtain rfl : M = (⟨3, 0, sw + 1, fr + 1, bg, false⟩, 0) := HI.out.trans (rfl)
          exact bodyPost_ret (results_cy (g := w.heap.size + 2) rfl rfl rfl (HX2.out.done ⟨3, 0, sw + 1, fr + 1, bg, false⟩).1) rfl ⟨rfl, (HX2.out.done ⟨3, 0, sw + 1, fr + 1, bg, false⟩).2⟩
      · have Hhy : Hid True := trivial
        clear hy hg
        go_wp2
        obtain rfl : M = (⟨0, 0, 0, 0, bg, false⟩, 0) := HI.out.trans (rfl)
        exact bodyPost_ret (results_cy (g := w.heap.size + 2) rfl rfl rfl (HR.out.done ⟨0, 0, 0, 0, bg, false⟩).1) rfl ⟨rfl, (HR.out.done ⟨0, 0, 0, 0, bg, false⟩).2⟩
end Go.Proofs.Ytnohcmfhhoiihaa
