/- tells: all that both books tell is the same. -/
import Derived.Test.YtdlnkdcgipaoeaaDoorGM
namespace Go.Proofs.YtdlnkdcgipaoeaaDoor
open Go.RowKit

theorem neqE_same (a : Bool) (x y : Int) (w : World) : (binOp .neq 67 (.agg #[.bool a, .int .u64 x, .int .i64 y]) (.agg #[.bool a, .int .u64 x, .int .i64 y])).run Tryd.prog w = .ok (.bool false) w := by
  have hS : Tryd.prog.underlying 67 = some (.struct (Tryd.prog.fieldsOf 67)) := by kernel_rfl
  have hp : Tryd.prog.stoodInHeld 67 = false := by kernel_rfl
  rw [run_neq_struct, show (10000 : Nat) = 9999 + 1 from rfl, run_equalIn_agg w 9999 67 _ _ hS hp]
  simp only [Program.fieldsOf, Tryd.underlying67]
  have u1 := Tryd.underlying4
  have u2 := Tryd.underlying56
  have u3 := Tryd.underlying49
  go_simp
theorem LX.of_out {w w' : World} {b r k M : Nat} {B : Bk} {D : Dk} {U : Nat → Prop} {s : Sl} {l : List Int} (h : PX w b r k B D M U) (hb : Below w.heap.size w w') (hr : RO w' s l) (hn : ∀ g, s.blk = some g → w.heap.size ≤ g) : LX w' b r k B D M U s l :=
  ⟨h.quiet hb, hr, fun g hg hu => by
    have := hn g hg
    have := h.lt g hu
    omega⟩
set_option maxRecDepth 100000 in
set_option maxHeartbeats 16000000 in
theorem tells_any {w : World} {b r k M : Nat} {B : Bk} {D : Dk} {U : Nat → Prop} (h : PX w b r k B D M U) (hM : M ≤ 1000000) (hs : Sim B D) (hI : Iv B) :
    Calls Tryd.prog 11 #[.pointer (some ⟨b, 0, none⟩), .pointer (some ⟨r, 0, none⟩), .pointer (some ⟨k, 0, none⟩)] w fun e w' => e = .returned (.bool true) ∧ ∃ U', PX w' b r k B D (M + 1) U' ∧ Chg U U' w w' := by
  have HP : Hid (PX w b r k B D M U) := h
  have HS : Hid (Sim B D) := hs
  have HI : Hid (Iv B) := hI
  have HM : Hid (M ≤ 1000000) := hM
  clear h hs hI hM
  go_enter Tryd.func11, Tryd.ntmps11
  go_wp2
  go_loopw [7] (fun q wr => ∃ (j : Nat), q = .int .i64 ((j : Int) - 1) ∧ j ≤ 12 ∧ Hid (Below w.heap.size w wr)) (fun q _ => 12 - (intOf q + 1).toNat)
  case atStart => exact ⟨0, rfl, by omega, Below.refl _ _⟩
  case round =>
    obtain ⟨j, rfl, hj, HB⟩ := hrel
    by_cases hj2 : j < 12
    · have k1 : (j : Int) - 1 < 11 := by omega
      have hwr : IntKind.i64.wrap ((j : Int) - 1 + 1) = (j : Int) := by
        rw [show (j : Int) - 1 + 1 = j by omega]
        exact IntWalk.i64_in _ (by omega)
      obtain ⟨x, hx⟩ : ∃ x, x = (j : Int) - 1 := ⟨_, rfl⟩
      obtain ⟨⟨a, wd, er⟩, c, hv⟩ : ∃ v c, enB B x = (v, c) := ⟨_, _, rfl⟩
      obtain ⟨wt, hwt⟩ : ∃ v, wtB B x = v := ⟨_, rfl⟩
      obtain ⟨ho, hho⟩ : ∃ v, hoB B x = v := ⟨_, rfl⟩
      have C1 : Hid (∀ W, Below w.heap.size w W → Calls Tryd.prog 15 #[.pointer (some ⟨b, 0, none⟩), .int .i64 x] W fun e w' => e = .returned (.tuple #[.agg #[.bool a, .int .u64 wd, .int .i64 er], .int .i64 c]) ∧ Below W.heap.size W w') := fun W hb => by
        obtain ⟨F1, F2, G, hm, -⟩ := HP.out.quiet hb
        have := ended_B hm.p x
        rw [hv] at this
        exact this
      have C2 : Hid (∀ W, Below w.heap.size w W → Calls Tryd.prog 41 #[.pointer (some ⟨r, 0, none⟩), .int .i64 x] W fun e w' => e = .returned (.tuple #[.agg #[.bool a, .int .u64 wd, .int .i64 er], .int .i64 c]) ∧ Below W.heap.size W w') := fun W hb => by
        obtain ⟨F1, F2, G, hm, -⟩ := HP.out.quiet hb
        have := dEnded_any hm.d x
        rw [HS.out.tellE, hv] at this
        exact this
      have C3 : Hid (∀ W, Below w.heap.size w W → Calls Tryd.prog 16 #[.pointer (some ⟨b, 0, none⟩), .int .i64 x] W fun e w' => e = .returned (.bool wt) ∧ w' = W) := fun W hb => by
        obtain ⟨F1, F2, G, hm, -⟩ := HP.out.quiet hb
        have := waits_B hm.p HI.out.sh x
        rw [hwt] at this
        exact this
      have C4 : Hid (∀ W, Below w.heap.size w W → Calls Tryd.prog 42 #[.pointer (some ⟨r, 0, none⟩), .int .i64 x] W fun e w' => e = .returned (.bool wt) ∧ w' = W) := fun W hb => by
        obtain ⟨F1, F2, G, hm, -⟩ := HP.out.quiet hb
        have := dWaits_D hm.d x
        rw [HS.out.tellW HI.out, hwt] at this
        exact this
      have C5 : Hid (∀ W, Below w.heap.size w W → Calls Tryd.prog 22 #[.pointer (some ⟨b, 0, none⟩), .int .i64 x] W fun e w' => e = .returned (.int .i64 ho) ∧ w' = W) := fun W hb => by
        obtain ⟨F1, F2, G, hm, -⟩ := HP.out.quiet hb
        have := holder_B hm.p x
        rw [hho] at this
        exact this
      have C6 : Hid (∀ W, Below w.heap.size w W → Calls Tryd.prog 43 #[.pointer (some ⟨r, 0, none⟩), .int .i64 x] W fun e w' => e = .returned (.int .i64 ho) ∧ w' = W) := fun W hb => by
        obtain ⟨F1, F2, G, hm, -⟩ := HP.out.quiet hb
        have := dHolder_D hm.d x
        rw [HS.out.tellH, hho] at this
        exact this
      have HNE : ∀ W, (binOp .neq 67 (.agg #[.bool a, .int .u64 wd, .int .i64 er]) (.agg #[.bool a, .int .u64 wd, .int .i64 er])).run Tryd.prog W = .ok (.bool false) W := fun W => neqE_same a wd er W
      have HX : Hid (x = (j : Int) - 1) := hx
      have D1 := C1.out wr HB.out
      rw [HX.out] at D1
      have HD1 : Hid _ := D1
      clear hv hwt hho C1 D1 hx
      go_wp2_with fail
      refine Calls.mono HD1.out ?_
      rintro e w2 ⟨rfl, hb2⟩
      have hs1 := HB.out.size
      have hB2 : Below w.heap.size w w2 := HB.out.trans (hb2.mono hs1)
      have hB3 : Below w.heap.size w (w2.alloc (.cells #[.bool a, .int .u64 wd, .int .i64 er] 67)) := hB2.alloc hB2.size _
      have D2 := C2.out _ hB3
      rw [HX.out] at D2
      have hbx := heap_alloc_new w2 (.cells #[.bool a, .int .u64 wd, .int .i64 er] 67)
      obtain ⟨w3, hw3⟩ : ∃ w3, w3 = w2.alloc (.cells #[.bool a, .int .u64 wd, .int .i64 er] 67) := ⟨_, rfl⟩
      obtain ⟨g1, hg1⟩ : ∃ g1, g1 = w2.heap.size := ⟨_, rfl⟩
      rw [← hw3] at D2 hB3 hbx
      rw [← hg1] at hbx
      have HW3 : Hid (w3 = w2.alloc (.cells #[.bool a, .int .u64 wd, .int .i64 er] 67)) := hw3
      have HG1 : Hid (g1 = w2.heap.size) := hg1
      have HBX : Hid (w3.heap[g1]? = some (.cells #[.bool a, .int .u64 wd, .int .i64 er] 67 (0, 0)) ∧ Below w.heap.size w w3) := ⟨hbx, hB3⟩
      have HD2 : Hid _ := D2
      clear hb2 hs1 hB2 hB3 D2 hbx hw3 hg1 HD1 C2 HB
      go_upto_region 5 with fail
      rw [← HW3.out, ← HG1.out]
      go_wp2_with fail
      refine Calls.mono HD2.out ?_
      rintro e w4 ⟨rfl, hb4⟩
      have hB4 : Below w.heap.size w w4 := HBX.out.2.trans (hb4.mono HBX.out.2.size)
      have hbx4 := (hb4.block g1 (heap_lt HBX.out.1)).trans HBX.out.1
      have hB5 : Below w.heap.size w (w4.alloc (.cells #[.bool a, .int .u64 wd, .int .i64 er] 67)) := hB4.alloc hB4.size _
      have hbx5 := (Below.heap_alloc w4 (.cells #[.bool a, .int .u64 wd, .int .i64 er] 67) g1 (heap_lt hbx4)).trans hbx4
      have hby := heap_alloc_new w4 (.cells #[.bool a, .int .u64 wd, .int .i64 er] 67)
      obtain ⟨w5, hw5⟩ : ∃ w5, w5 = w4.alloc (.cells #[.bool a, .int .u64 wd, .int .i64 er] 67) := ⟨_, rfl⟩
      obtain ⟨g2, hg2⟩ : ∃ g2, g2 = w4.heap.size := ⟨_, rfl⟩
      rw [← hw5] at hB5 hbx5 hby
      rw [← hg2] at hby
      have HW5 : Hid (w5 = w4.alloc (.cells #[.bool a, .int .u64 wd, .int .i64 er] 67)) := hw5
      have HG2 : Hid (g2 = w4.heap.size) := hg2
      have a0 := heap_cell (j := 0) hbx5 rfl
      have a1 := heap_cell (j := 1) hbx5 rfl
      have a2 := heap_cell (j := 2) hbx5 rfl
      have b0 := heap_cell (j := 0) hby rfl
      have b1 := heap_cell (j := 1) hby rfl
      have b2 := heap_cell (j := 2) hby rfl
      have l1 := heap_lt hbx5
      have l2 := heap_lt hby
      have HB5 : Hid (Below w.heap.size w w5) := hB5
      have D3 := C3.out _ hB5
      have D4 := C4.out _ hB5
      have D5 := C5.out _ hB5
      have D6 := C6.out _ hB5
      rw [HX.out] at D3 D4 D5 D6
      have HD3 : Hid _ := D3
      have HD4 : Hid _ := D4
      have HD5 : Hid _ := D5
      have HD6 : Hid _ := D6
      clear hb4 hB4 hbx4 hB5 hbx5 hby hw5 hg2 HD2 C3 C4 C5 C6 D3 D4 D5 D6 HBX HW3 HG1
      go_upto_region 6 with fail
      rw [← HW5.out, ← HG2.out]
      clear HW5 HG2
      go_wp2_with fail
      refine Calls.mono HD3.out ?_
      rintro e w2 ⟨rfl, hw2⟩
      rw [hw2]
      clear hw2
      go_wp2_with fail
      refine Calls.mono HD4.out ?_
      rintro e w2 ⟨rfl, hw2⟩
      rw [hw2]
      clear hw2
      cases wt
      · go_wp2_with fail
        refine Calls.mono HD5.out ?_
        rintro e w2 ⟨rfl, hw2⟩
        rw [hw2]
        clear hw2
        go_wp2_with fail
        refine Calls.mono HD6.out ?_
        rintro e w2 ⟨rfl, hw2⟩
        rw [hw2]
        clear hw2
        go_wp2
        go_roundw
        case rel => exact ⟨j + 1, by go_num, by omega, HB5⟩
        case measure => simp [intOf]; omega
      · go_wp2_with fail
        refine Calls.mono HD5.out ?_
        rintro e w2 ⟨rfl, hw2⟩
        rw [hw2]
        clear hw2
        go_wp2_with fail
        refine Calls.mono HD6.out ?_
        rintro e w2 ⟨rfl, hw2⟩
        rw [hw2]
        clear hw2
        go_wp2
        go_roundw
        case rel => exact ⟨j + 1, by go_num, by omega, HB5⟩
        case measure => simp [intOf]; omega
    · have k1 : ¬ (j : Int) - 1 < 11 := by omega
      have hPr := HP.out.quiet HB.out
      have HStk : Hid (Calls Tryd.prog 24 #[.pointer (some ⟨b, 0, none⟩)] wr fun e w' => OutR wr (stB B B.t.length) e w') := by
        obtain ⟨F1, F2, G, hm, -⟩ := hPr
        exact stuck_B hm.p HI.out.sh
      have hlen := stB_len B B.t.length
      have htn := HI.out.tn
      have HPr : Hid (PX wr b r k B D M U) := hPr
      clear hPr hj hj2
      go_wp2_with fail
      refine Calls.mono HStk.out ?_
      rintro e w6 ⟨s, rfl, hro, hnew, hb6⟩
      have hLX := LX.of_out HPr.out hb6 hro hnew
      have HPt := hLX.put HM.out (by omega)
      have hs6 := HB.out.size
      have HNW : Hid (∀ g, s.blk = some g → w.heap.size ≤ g) := fun g hg => Nat.le_trans hs6 (hnew g hg)
      have HC6 : Hid (Chg U U w w6) := Chg.quiet U (HB.out.trans (hb6.mono hs6))
      generalize hL0 : stB B B.t.length = L0 at HPt hlen ⊢
      have HL0 : Hid (stB B B.t.length = L0) := hL0
      obtain ⟨ra, ca⟩ := s
      dsimp only at HPt ⊢
      have HPT : Hid _ := HPt
      clear HPt hLX hro hnew hb6 hs6 HPr HStk HB hL0
      go_wp2_with fail
      refine Calls.mono HPT.out ?_
      rintro e w7 ⟨⟨v7, rfl⟩, U7, hP7, hC7, hr7, -⟩
      have HC7 : Hid (Chg U U7 w w7) := HC6.out.join hC7 HNW.out
      have HP7 : Hid (PX w7 b r k B D (M + 1) U7) := hP7
      have HR7 : Hid (RO w7 ⟨ra, ca⟩ L0) := hr7
      have HSd : Hid (Calls Tryd.prog 44 #[.pointer (some ⟨r, 0, none⟩)] w7 fun e w' => OutR w7 L0 e w') := by
        obtain ⟨F1, F2, G, hm, -⟩ := hP7
        have := dStuck_any hm.d HS.out HI.out
        rw [HL0.out] at this
        exact this
      clear hP7 hC7 hr7 HPT HC6 HNW
      go_wp2_with fail
      refine Calls.mono HSd.out ?_
      rintro e w8 ⟨s2, rfl, hro2, -, hb8⟩
      have hR8 : RO w8 ⟨ra, ca⟩ L0 := HR7.out.kept (fun g hg => hb8.block g (HR7.out.lt hg))
      have HSm := sameI_any L0 L0 ra s2.ra ca s2.cap w8 (by unfold maxLen; omega) (by unfold maxLen; omega) hR8.rx hro2.rx
      rw [show decide (L0 = L0) = true by simp] at HSm
      have HSM : Hid _ := HSm
      have HP8 : Hid (PX w8 b r k B D (M + 1) U7 ∧ Chg U U7 w w8) := ⟨HP7.out.quiet hb8, HC7.out.trans (Chg.quiet U7 hb8)⟩
      obtain ⟨ra2, ca2⟩ := s2
      dsimp only at HSM ⊢
      clear hro2 hb8 hR8 HSm HSd HP7 HC7 HR7
      go_wp2_with fail
      refine Calls.mono HSM.out ?_
      rintro e w9 ⟨rfl, hb9⟩
      have hP9 := HP8.out.1.quiet hb9
      have HF : Hid (∀ W, Below w9.heap.size w9 W → ∃ U', PX W b r k B D (M + 1) U' ∧ Chg U U' w W) := fun W hb => ⟨U7, hP9.quiet hb, (HP8.out.2.trans (Chg.quiet U7 hb9)).trans (Chg.quiet U7 hb)⟩
      have HTh : Hid (∀ W, Below w9.heap.size w9 W → Calls Tryd.prog 45 #[.pointer (some ⟨b, 0, none⟩)] W fun e w' => e = .returned (.int .i64 B.t.length) ∧ w' = W) := fun W hb => by
        obtain ⟨F1, F2, G, hm, -⟩ := hP9.quiet hb
        exact threads_B hm.p
      obtain ⟨ta, tc, c0, lr⟩ : ∃ ta tc, w9.cell? ⟨r, 0, none⟩ = some (.slice ta B.t.length tc) ∧ r < w9.heap.size := by
        obtain ⟨F1, F2, G, hm, -⟩ := hP9
        obtain ⟨pt, pl, pg, L, hX, -, -⟩ := hm.d
        have := hX.c0
        rw [HS.out.tl] at this
        exact ⟨_, _, this, heap_lt hX.obj⟩
      generalize B.t.length = n at HTh c0
      clear hb9 hP9 HP8 HSM
      go_upto_region 11 with fail
      go_quiet (first | (go_at_call 45; exact Calls.quiet_of_same (HTh.out _ (by first | exact Below.refl _ _ | exact (Below.refl _ _).drew | exact below_drewM (Below.refl _ _) _))) | fail)
      go_wp2
      go_ret
      exact ⟨rfl, HF.out _ (below_drewM (Below.refl _ _) _)⟩
end Go.Proofs.YtdlnkdcgipaoeaaDoor
