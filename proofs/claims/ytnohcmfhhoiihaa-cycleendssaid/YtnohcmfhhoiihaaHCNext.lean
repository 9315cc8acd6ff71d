/- Next: what the collector does next. -/
import Derived.Test.YtnohcmfhhoiihaaHCMay
import Derived.Test.YtnohcmfhhoiihaaHCNext0
namespace Go.Proofs.Ytnohcmfhhoiihaa
open Go.RowKit

set_option maxRecDepth 100000 in
set_option maxHeartbeats 16000000 in
theorem next_any (ph gl sw fr bg : Int) (ak : Bool) (ce ag th : Int) (st tl gr : Bool) (w : World) (hp : 0 ≤ ph) : Calls Try.prog 9 #[.agg #[.int .u8 ph, .int .i64 gl, .int .i64 sw, .int .i64 fr, .int .i64 bg, .bool ak], .agg #[.int .i64 ce, .int .i64 ag, .int .i64 th, .bool st, .bool tl, .bool gr]] w fun e w' => e = .returned (.agg #[.int .u8 (nextM ph gl sw fr bg ak ce ag th st tl gr).wh, .int .i64 (nextM ph gl sw fr bg ak ce ag th st tl gr).gl, .int .i64 (nextM ph gl sw fr bg ak ce ag th st tl gr).th, .int .i64 (nextM ph gl sw fr bg ak ce ag th st tl gr).ce]) ∧ Below w.heap.size w w' := by
  obtain ⟨M, hM⟩ : ∃ M, M = nextM ph gl sw fr bg ak ce ag th st tl gr := ⟨_, rfl⟩
  rw [← hM]
  have HM : Hid (M = nextM ph gl sw fr bg ak ce ag th st tl gr) := hM
  have HN : Hid (NX w (((w.alloc (.cells #[.int .u8 ph, .int .i64 gl, .int .i64 sw, .int .i64 fr, .int .i64 bg, .bool ak] 27)).alloc (.cells #[.int .i64 ce, .int .i64 ag, .int .i64 th, .bool st, .bool tl, .bool gr] 29)).alloc (.cells #[.int .u8 0, .int .i64 0, .int .i64 0, .int .i64 0] 34)) ph gl sw fr bg ak ce ag th st tl gr) := nx_new w ph gl sw fr bg ak ce ag th st tl gr
  obtain ⟨W, hW⟩ : ∃ W, W = (((w.alloc (.cells #[.int .u8 ph, .int .i64 gl, .int .i64 sw, .int .i64 fr, .int .i64 bg, .bool ak] 27)).alloc (.cells #[.int .i64 ce, .int .i64 ag, .int .i64 th, .bool st, .bool tl, .bool gr] 29)).alloc (.cells #[.int .u8 0, .int .i64 0, .int .i64 0, .int .i64 0] 34)) := ⟨_, rfl⟩
  clear hM
  go_enter Try.func9, Try.ntmps9
  go_upto_region 1 with fail
  rw [← hW] at HN ⊢
  clear hW
  have HC : Hid (∀ w : World, Calls Try.prog 21 #[.agg #[.int .u8 ph, .int .i64 gl, .int .i64 sw, .int .i64 fr, .int .i64 bg, .bool ak]] w fun e w' => e = .returned (.bool (mayB ph gl sw fr bg ak)) ∧ Below w.heap.size w w') := mayBe_any ph gl sw fr bg ak
  have c0 := heap_cell (j := 0) HN.out.cb rfl
  have c1 := heap_cell (j := 1) HN.out.cb rfl
  have c2 := heap_cell (j := 2) HN.out.cb rfl
  have c3 := heap_cell (j := 3) HN.out.cb rfl
  have c4 := heap_cell (j := 4) HN.out.cb rfl
  have c5 := heap_cell (j := 5) HN.out.cb rfl
  have a0 := heap_cell (j := 0) HN.out.ab rfl
  have a1 := heap_cell (j := 1) HN.out.ab rfl
  have a2 := heap_cell (j := 2) HN.out.ab rfl
  have a3 := heap_cell (j := 3) HN.out.ab rfl
  have a4 := heap_cell (j := 4) HN.out.ab rfl
  have a5 := heap_cell (j := 5) HN.out.ab rfl
  have l0 := heap_lt HN.out.cb
  have l1 := heap_lt HN.out.ab
  have l2 := heap_lt HN.out.db
  cases hm : mayB ph gl sw fr bg ak
  · rw [hm] at HC
    go_wp2_with fail
    refine Calls.mono (HC.out _) ?_
    rintro e w1 ⟨rfl, hb⟩
    replace HN : Hid _ := HN.out.keep hb
    clear c0 a0 c1 a1 c2 a2 c3 a3 c4 a4 c5 a5 l0 l1 l2 hb HC
    have c0 := heap_cell (j := 0) HN.out.cb rfl
    have c1 := heap_cell (j := 1) HN.out.cb rfl
    have c2 := heap_cell (j := 2) HN.out.cb rfl
    have c3 := heap_cell (j := 3) HN.out.cb rfl
    have c4 := heap_cell (j := 4) HN.out.cb rfl
    have c5 := heap_cell (j := 5) HN.out.cb rfl
    have a0 := heap_cell (j := 0) HN.out.ab rfl
    have a1 := heap_cell (j := 1) HN.out.ab rfl
    have a2 := heap_cell (j := 2) HN.out.ab rfl
    have a3 := heap_cell (j := 3) HN.out.ab rfl
    have a4 := heap_cell (j := 4) HN.out.ab rfl
    have a5 := heap_cell (j := 5) HN.out.ab rfl
    have l0 := heap_lt HN.out.cb
    have l1 := heap_lt HN.out.ab
    have l2 := heap_lt HN.out.db
    have q0 := heap_cell (j := 0) HN.out.db rfl
    have z0 := fz_of HN.out.db 0
    have q1 := heap_cell (j := 1) HN.out.db rfl
    have z1 := fz_of HN.out.db 1
    have q2 := heap_cell (j := 2) HN.out.db rfl
    have z2 := fz_of HN.out.db 2
    have q3 := heap_cell (j := 3) HN.out.db rfl
    have z3 := fz_of HN.out.db 3
    go_wp2
    obtain rfl : M = ⟨0, 0, 0, 0⟩ := HM.out.trans (if_neg (fun h => by rw [hm] at h; exact absurd h.1 (by decide)))
    refine bodyPost_ret (results_d (g := w.heap.size + 2) rfl rfl (HN.out.done ⟨0, 0, 0, 0⟩).1) rfl ⟨rfl, ?_⟩
    exact (HN.out.done ⟨0, 0, 0, 0⟩).2
  · rw [hm] at HC
    have hy := of_decide_eq_true hm
    unfold May at hy
    have HY : Hid (May ph gl sw fr bg ak) := hy
    have HF : Hid (∀ w : World, Calls Try.prog 23 #[.agg #[.int .u8 ph, .int .i64 gl, .int .i64 sw, .int .i64 fr, .int .i64 bg, .bool ak], .agg #[.int .i64 ce, .int .i64 ag, .int .i64 th, .bool st, .bool tl, .bool gr]] w fun e w' => e = .returned (.bool (fitB gl sw ce ag th)) ∧ Below w.heap.size w w') := fun w => fits_any ph gl sw fr bg ak ce ag th st tl gr w hy.2.1 hy.2.2.1
    clear hy
    cases hf : fitB gl sw ce ag th
    · rw [hf] at HF
      go_wp2_with fail
      refine Calls.mono (HC.out _) ?_
      rintro e w1 ⟨rfl, hb⟩
      replace HN : Hid _ := HN.out.keep hb
      clear c0 a0 c1 a1 c2 a2 c3 a3 c4 a4 c5 a5 l0 l1 l2 hb HC
      have c0 := heap_cell (j := 0) HN.out.cb rfl
      have c1 := heap_cell (j := 1) HN.out.cb rfl
      have c2 := heap_cell (j := 2) HN.out.cb rfl
      have c3 := heap_cell (j := 3) HN.out.cb rfl
      have c4 := heap_cell (j := 4) HN.out.cb rfl
      have c5 := heap_cell (j := 5) HN.out.cb rfl
      have a0 := heap_cell (j := 0) HN.out.ab rfl
      have a1 := heap_cell (j := 1) HN.out.ab rfl
      have a2 := heap_cell (j := 2) HN.out.ab rfl
      have a3 := heap_cell (j := 3) HN.out.ab rfl
      have a4 := heap_cell (j := 4) HN.out.ab rfl
      have a5 := heap_cell (j := 5) HN.out.ab rfl
      have l0 := heap_lt HN.out.cb
      have l1 := heap_lt HN.out.ab
      have l2 := heap_lt HN.out.db
      go_wp2_with fail
      refine Calls.mono (HF.out _) ?_
      rintro e w2 ⟨rfl, hb⟩
      replace HN : Hid _ := HN.out.keep hb
      clear c0 a0 c1 a1 c2 a2 c3 a3 c4 a4 c5 a5 l0 l1 l2 hb HF
      have c0 := heap_cell (j := 0) HN.out.cb rfl
      have c1 := heap_cell (j := 1) HN.out.cb rfl
      have c2 := heap_cell (j := 2) HN.out.cb rfl
      have c3 := heap_cell (j := 3) HN.out.cb rfl
      have c4 := heap_cell (j := 4) HN.out.cb rfl
      have c5 := heap_cell (j := 5) HN.out.cb rfl
      have a0 := heap_cell (j := 0) HN.out.ab rfl
      have a1 := heap_cell (j := 1) HN.out.ab rfl
      have a2 := heap_cell (j := 2) HN.out.ab rfl
      have a3 := heap_cell (j := 3) HN.out.ab rfl
      have a4 := heap_cell (j := 4) HN.out.ab rfl
      have a5 := heap_cell (j := 5) HN.out.ab rfl
      have l0 := heap_lt HN.out.cb
      have l1 := heap_lt HN.out.ab
      have l2 := heap_lt HN.out.db
      have q0 := heap_cell (j := 0) HN.out.db rfl
      have z0 := fz_of HN.out.db 0
      have q1 := heap_cell (j := 1) HN.out.db rfl
      have z1 := fz_of HN.out.db 1
      have q2 := heap_cell (j := 2) HN.out.db rfl
      have z2 := fz_of HN.out.db 2
      have q3 := heap_cell (j := 3) HN.out.db rfl
      have z3 := fz_of HN.out.db 3
      go_wp2
      obtain rfl : M = ⟨0, 0, 0, 0⟩ := HM.out.trans (if_neg (fun h => by rw [hf] at h; exact absurd h.2 (by decide)))
      refine bodyPost_ret (results_d (g := w.heap.size + 2) rfl rfl (HN.out.done ⟨0, 0, 0, 0⟩).1) rfl ⟨rfl, ?_⟩
      exact (HN.out.done ⟨0, 0, 0, 0⟩).2
    · rw [hf] at HF
      have hg := of_decide_eq_true hf
      unfold Fit at hg
      have HG : Hid (Fit gl sw ce ag th) := hg
      have HI : Hid (M = goM ph gl sw ak ce ag th st tl gr) := HM.out.trans (if_pos ⟨hm, hf⟩)
      clear hg
      go_wp2_with fail
      refine Calls.mono (HC.out _) ?_
      rintro e w1 ⟨rfl, hb⟩
      replace HN : Hid _ := HN.out.keep hb
      clear c0 a0 c1 a1 c2 a2 c3 a3 c4 a4 c5 a5 l0 l1 l2 hb HC
      have c0 := heap_cell (j := 0) HN.out.cb rfl
      have c1 := heap_cell (j := 1) HN.out.cb rfl
      have c2 := heap_cell (j := 2) HN.out.cb rfl
      have c3 := heap_cell (j := 3) HN.out.cb rfl
      have c4 := heap_cell (j := 4) HN.out.cb rfl
      have c5 := heap_cell (j := 5) HN.out.cb rfl
      have a0 := heap_cell (j := 0) HN.out.ab rfl
      have a1 := heap_cell (j := 1) HN.out.ab rfl
      have a2 := heap_cell (j := 2) HN.out.ab rfl
      have a3 := heap_cell (j := 3) HN.out.ab rfl
      have a4 := heap_cell (j := 4) HN.out.ab rfl
      have a5 := heap_cell (j := 5) HN.out.ab rfl
      have l0 := heap_lt HN.out.cb
      have l1 := heap_lt HN.out.ab
      have l2 := heap_lt HN.out.db
      go_wp2_with fail
      refine Calls.mono (HF.out _) ?_
      rintro e w2 ⟨rfl, hb⟩
      replace HN : Hid _ := HN.out.keep hb
      clear c0 a0 c1 a1 c2 a2 c3 a3 c4 a4 c5 a5 l0 l1 l2 hb HF
      have c0 := heap_cell (j := 0) HN.out.cb rfl
      have c1 := heap_cell (j := 1) HN.out.cb rfl
      have c2 := heap_cell (j := 2) HN.out.cb rfl
      have c3 := heap_cell (j := 3) HN.out.cb rfl
      have c4 := heap_cell (j := 4) HN.out.cb rfl
      have c5 := heap_cell (j := 5) HN.out.cb rfl
      have a0 := heap_cell (j := 0) HN.out.ab rfl
      have a1 := heap_cell (j := 1) HN.out.ab rfl
      have a2 := heap_cell (j := 2) HN.out.ab rfl
      have a3 := heap_cell (j := 3) HN.out.ab rfl
      have a4 := heap_cell (j := 4) HN.out.ab rfl
      have a5 := heap_cell (j := 5) HN.out.ab rfl
      have l0 := heap_lt HN.out.cb
      have l1 := heap_lt HN.out.ab
      have l2 := heap_lt HN.out.db
      have q0 := heap_cell (j := 0) HN.out.db rfl
      have z0 := fz_of HN.out.db 0
      have q1 := heap_cell (j := 1) HN.out.db rfl
      have z1 := fz_of HN.out.db 1
      have q2 := heap_cell (j := 2) HN.out.db rfl
      have z2 := fz_of HN.out.db 2
      have q3 := heap_cell (j := 3) HN.out.db rfl
      have z3 := fz_of HN.out.db 3
      clear hm hf HM
      have hy := HY.out
      unfold May at hy
      have h4 : ph = 0 ∨ ph = 1 ∨ ph = 2 ∨ ph = 3 := by omega
      clear hy
      rcases h4 with rfl | rfl | rfl | rfl
      · cases ak
        · skip
          go_wp2
          obtain rfl : M = ⟨0, 0, 0, 0⟩ := HI.out.trans (rfl)
          refine bodyPost_ret (results_d (g := w.heap.size + 2) rfl rfl (HN.out.done ⟨0, 0, 0, 0⟩).1) rfl ⟨rfl, ?_⟩
          exact (HN.out.done ⟨0, 0, 0, 0⟩).2
        · skip
          go_wp2
          obtain rfl : M = ⟨18, 0, 0, 0⟩ := HI.out.trans (rfl)
          refine bodyPost_ret (results_d (g := w.heap.size + 2) rfl rfl (HN.out.done ⟨18, 0, 0, 0⟩).1) rfl ⟨rfl, ?_⟩
          exact (HN.out.done ⟨18, 0, 0, 0⟩).2
      · by_cases k1 : gl < ag
        · skip
          go_wp2
          obtain rfl : M = ⟨19, gl, 0, 0⟩ := HI.out.trans (by unfold goM; simp [k1])
          refine bodyPost_ret (results_d (g := w.heap.size + 2) rfl rfl (HN.out.done ⟨19, gl, 0, 0⟩).1) rfl ⟨rfl, ?_⟩
          exact (HN.out.done ⟨19, gl, 0, 0⟩).2
        · by_cases k2 : th = 0
          · subst k2
            cases gr
            · skip
              go_wp2
              obtain rfl : M = ⟨23, 0, 0, 0⟩ := HI.out.trans (by unfold goM; simp [k1])
              refine bodyPost_ret (results_d (g := w.heap.size + 2) rfl rfl (HN.out.done ⟨23, 0, 0, 0⟩).1) rfl ⟨rfl, ?_⟩
              exact (HN.out.done ⟨23, 0, 0, 0⟩).2
            · skip
              go_wp2
              obtain rfl : M = ⟨22, 0, 0, 0⟩ := HI.out.trans (by unfold goM; simp [k1])
              refine bodyPost_ret (results_d (g := w.heap.size + 2) rfl rfl (HN.out.done ⟨22, 0, 0, 0⟩).1) rfl ⟨rfl, ?_⟩
              exact (HN.out.done ⟨22, 0, 0, 0⟩).2
          · have k3 : (th == 0) = false := by simpa using k2
            have k4 : (th != 0) = true := by simpa using k2
            have HT : Hid (∀ w : World, Calls Try.prog 24 #[.agg #[.int .i64 ce, .int .i64 ag, .int .i64 th, .bool st, .bool tl, .bool gr]] w fun e w' => e = .returned (.agg #[.int .u8 (thM th st tl).wh, .int .i64 (thM th st tl).gl, .int .i64 (thM th st tl).th, .int .i64 (thM th st tl).ce]) ∧ Below w.heap.size w w') := nextOf_any ce ag th st tl gr
            go_wp2_with fail
            refine Calls.mono (HT.out _) ?_
            rintro e w3 ⟨rfl, hb⟩
            replace HN : Hid _ := HN.out.keep hb
            clear c0 a0 c1 a1 c2 a2 c3 a3 c4 a4 c5 a5 l0 l1 l2 hb HT
            clear q0 q1 q2 q3 z0 z1 z2 z3
            have q0 := heap_cell (j := 0) HN.out.db rfl
            have z0 := fz_of HN.out.db 0
            have q1 := heap_cell (j := 1) HN.out.db rfl
            have z1 := fz_of HN.out.db 1
            have q2 := heap_cell (j := 2) HN.out.db rfl
            have z2 := fz_of HN.out.db 2
            have q3 := heap_cell (j := 3) HN.out.db rfl
            have z3 := fz_of HN.out.db 3
            have l2 := heap_lt HN.out.db
            go_wp2
            obtain rfl : M = thM th st tl := HI.out.trans (by unfold goM; rw [if_neg (by omega), if_neg (by omega), if_neg (by omega), if_pos ⟨rfl, k2⟩])
            exact bodyPost_ret (results_d (g := w.heap.size + 2) rfl rfl (HN.out.done (thM th st tl)).1) rfl ⟨rfl, (HN.out.done (thM th st tl)).2⟩
      · cases gr
        · skip
          go_wp2
          obtain rfl : M = ⟨23, 0, 0, 0⟩ := HI.out.trans (rfl)
          refine bodyPost_ret (results_d (g := w.heap.size + 2) rfl rfl (HN.out.done ⟨23, 0, 0, 0⟩).1) rfl ⟨rfl, ?_⟩
          exact (HN.out.done ⟨23, 0, 0, 0⟩).2
        · skip
          go_wp2
          obtain rfl : M = ⟨22, 0, 0, 0⟩ := HI.out.trans (rfl)
          refine bodyPost_ret (results_d (g := w.heap.size + 2) rfl rfl (HN.out.done ⟨22, 0, 0, 0⟩).1) rfl ⟨rfl, ?_⟩
          exact (HN.out.done ⟨22, 0, 0, 0⟩).2
      · by_cases k1 : sw < ce
        · skip
          go_wp2
          obtain rfl : M = ⟨24, 0, 0, sw⟩ := HI.out.trans (by unfold goM; simp [k1])
          refine bodyPost_ret (results_d (g := w.heap.size + 2) rfl rfl (HN.out.done ⟨24, 0, 0, sw⟩).1) rfl ⟨rfl, ?_⟩
          exact (HN.out.done ⟨24, 0, 0, sw⟩).2
        · skip
          go_wp2
          obtain rfl : M = ⟨25, 0, 0, 0⟩ := HI.out.trans (by unfold goM; simp [k1])
          refine bodyPost_ret (results_d (g := w.heap.size + 2) rfl rfl (HN.out.done ⟨25, 0, 0, 0⟩).1) rfl ⟨rfl, ?_⟩
          exact (HN.out.done ⟨25, 0, 0, 0⟩).2
end Go.Proofs.Ytnohcmfhhoiihaa
