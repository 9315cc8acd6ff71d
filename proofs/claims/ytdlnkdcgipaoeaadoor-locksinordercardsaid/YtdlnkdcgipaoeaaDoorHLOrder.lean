/- The walk of LocksInOrder. -/
import Derived.Test.YtdlnkdcgipaoeaaDoorHLSteps
import Derived.Test.YtdlnkdcgipaoeaaDoorHLTab
import Derived.Deep.CutRange
namespace Go.Proofs.YtdlnkdcgipaoeaaDoor
open Go.RowKit

set_option maxRecDepth 100000 in
set_option maxHeartbeats 40000000 in
theorem locksInOrder_walk (w : World) (hT : Tab w) (ra : Option Addr) (l : List Sp) (ca : Nat) (hS : SR w ra l) (hl : l.length ≤ 281474976710656) :
    Calls Tryd.prog 5 #[.slice ra l.length ca] w fun e w' => e = .returned (.bool true) ∧ Below w.heap.size w w' := by
  have HK : Hid _ := known_any w hT
  have HN : Hid (∀ w1, Below w.heap.size w w1 → Calls Tryd.prog 8 #[.int .i64 3, .int .i64 0] w1 fun e w' => NewR 3 0 w1 e w') := fun w1 hb => new_any 3 0 (by omega) (by omega) w1 (hT.below hb)
  have hmk1 : ∀ W : World, (Instr.makeSlice 29 (.int .i64 3) (.int .i64 3)).run Tryd.prog W = .ok (.slice (some ⟨W.heap.size, 0, none⟩) 3 3) (W.alloc (.cells #[.slice none 0 0, .slice none 0 0, .slice none 0 0] 62)) := fun W => by kernel_rfl
  have hmk2 : ∀ W : World, (Instr.makeSlice 62 (.int .i64 9) (.int .i64 9)).run Tryd.prog W = .ok (.slice (some ⟨W.heap.size, 0, none⟩) 9 9) (W.alloc (.cells #[.int .i64 0, .int .i64 0, .int .i64 0, .int .i64 0, .int .i64 0, .int .i64 0, .int .i64 0, .int .i64 0, .int .i64 0] 3)) := fun W => by kernel_rfl
  have HS : Hid (SR w ra l) := hS
  clear hT hS
  by_cases h5 : l.length > 5000
  · have k5 : (l.length : Int) > 5000 := by omega
    clear HK HN hmk1 hmk2
    go_enter Tryd.func5, Tryd.ntmps5
    go_wp2
    go_ret
    exact ⟨rfl, Below.refl _ _⟩
  · have k5 : ¬ (l.length : Int) > 5000 := by omega
    go_enter Tryd.func5, Tryd.ntmps5
    go_wp2_with fail
    refine Calls.mono HK.out ?_
    rintro e w1 ⟨rfl, hb1⟩
    have HN1 : Hid _ := HN.out w1 hb1
    have HB1 : Hid (Below w.heap.size w w1) := hb1
    clear HK HN hb1
    go_wp2_with fail
    refine Calls.mono HN1.out ?_
    rintro e w2 ⟨b, F0, rfl, hB0, hF0, hb2⟩
    rw [stN_0] at hB0
    have hs1 := HB1.out.size
    have hJ0 := jf0 hB0 (fun g hg => Nat.le_trans hs1 (hF0 g hg)) (HB1.out.trans (hb2.mono hs1)) rfl
    have HJ0 : Hid _ := hJ0
    clear hB0 hF0 hb2 HN1 HB1 hs1 hJ0
    go_wp2
    clear hmk1 hmk2
    generalize ((w2.alloc (.cells #[.slice none 0 0, .slice none 0 0, .slice none 0 0] 62)).alloc (.cells #[.int .i64 0, .int .i64 0, .int .i64 0, .int .i64 0, .int .i64 0, .int .i64 0, .int .i64 0, .int .i64 0, .int .i64 0] 3)) = W3 at HJ0 ⊢
    generalize w2.heap.size + 1 = gj at HJ0 ⊢
    generalize w2.heap.size = gr at HJ0 ⊢
    go_loopw [8] (fun q wr => ∃ (j : Nat) (F : Nat → Prop), q = .int .i64 j ∧ j ≤ 5 ∧ Hid (JF w wr b gr gj R0 J0 (stN j) F)) (fun q _ => 5 - (intOf q).toNat)
    case atStart => exact ⟨0, F0, rfl, by omega, HJ0.out⟩
    case round =>
      obtain ⟨j, F, rfl, hj, HJ⟩ := hrel
      by_cases hj5 : j < 5
      · have k1 : (j : Int) < 5 := by omega
        have HSt : Hid (Calls Tryd.prog 13 #[.pointer (some ⟨b, 0, none⟩)] wr fun e w' => e = .returned (.tuple #[.int .i64 ((j : Int) + 1), .int .i64 0]) ∧ BR b (stN (j + 1)) F wr w') := by
          have := start_any HJ.out.bb
          rw [stN_s hj5] at this
          exact this
        go_wp2_with fail
        refine Calls.mono HSt.out ?_
        rintro e w4 ⟨rfl, F4, hB4, hC4⟩
        have HJ4 : Hid (JF w w4 b gr gj R0 J0 (stN (j + 1)) F4) := HJ.out.book hB4 hC4
        clear hB4 hC4 HSt HJ
        go_wp2
        go_roundw
        case rel => exact ⟨j + 1, F4, by go_num, by omega, HJ4⟩
        case measure => simp [intOf]; omega
      · have k1 : ¬ (j : Int) < 5 := by omega
        have hj' : j = 5 := by omega
        subst hj'
        obtain ⟨wA, rfl⟩ : ∃ wA, wA = wr := ⟨_, rfl⟩
        go_wp2
        go_loopw [6, 9] (fun v6 q wr => ∃ (j : Nat) (R : List (Sl × List Int)) (J : List Int) (B : Bk) (F : Nat → Prop), q = .int .i64 j ∧ v6 = .slice (some ⟨gr, 0, none⟩) 3 3 ∧ j ≤ l.length ∧ Hid (JF w wr b gr gj R J B F ∧ Rel B R J)) (fun _ q _ => l.length - (intOf q).toNat)
        case atStart => exact ⟨0, R0, J0, stN 5, F, rfl, rfl, by omega, HJ.out, rel0⟩
        case round =>
          obtain ⟨j, R, J, B, F2, rfl, rfl, hj, HB⟩ := hrel
          by_cases hjl : j < l.length
          · have k1 : (j : Int) < (l.length : Int) := by omega
            have k0 : (0 : Int) ≤ (j : Int) := by omega
            obtain ⟨o, ho⟩ : ∃ o, l[j]? = some o := ⟨_, List.getElem?_eq_getElem hjl⟩
            obtain ⟨sb, so, hsa, hso⟩ := HS.out.below HB.out.1.bel
            obtain ⟨lsb, s0, s1, s2, s3, s4, -, rt, rn⟩ := hso j o ho
            have hra := hsa.resolve_left (by omega)
            subst hra
            obtain ⟨ok, ot, on, ow, oe⟩ := o
            dsimp only at s0 s1 s2 s3 s4 rt rn
            have hpt : pickN ot 5 < 5 := pick_lt (by omega)
            have hpn : pickN on 3 < 3 := pick_lt (by omega)
            have HPt : Hid (∀ W, Calls Tryd.prog 14 #[.int .i64 ot, .int .i64 5] W fun e w' => e = .returned (.int .i64 (pickN ot 5 : Nat)) ∧ w' = W) := fun W => pick_any ot 5 W rt (by omega) (by omega)
            have HPn : Hid (∀ W, Calls Tryd.prog 14 #[.int .i64 on, .int .i64 3] W fun e w' => e = .returned (.int .i64 (pickN on 3 : Nat)) ∧ w' = W) := fun W => pick_any on 3 W rn (by omega) (by omega)
            generalize pickN ot 5 = ti at HPt hpt
            generalize pickN on 3 = n at HPn hpn
            have hwr : IntKind.i64.wrap (1 + (ti : Int)) = (ti : Int) + 1 := by rw [IntWalk.i64_in _ (by omega)]; omega
            obtain ⟨x, hx⟩ : ∃ x, B.t[ti]? = some x := ⟨_, List.getElem?_eq_getElem (by rw [HB.out.2.tl]; exact hpt)⟩
            obtain ⟨xrow, xen, xwd, xer⟩ := x
            have bo : Below wr.heap.size wr (wr.alloc (.cells #[.int .i64 ok, .int .i64 ot, .int .i64 on, .int .u64 ow, .int .i64 oe] 58)) := (Below.refl _ _).alloc (Nat.le_refl _) _
            have hJ1 := HB.out.1.below bo
            have HJ1 : Hid _ := hJ1
            have HRl : Hid (Rel B R J) := HB.out.2
            have HX : Hid (B.t[ti]? = some ⟨xrow, xen, xwd, xer⟩) := hx
            have HOb : Hid ((wr.alloc (.cells #[.int .i64 ok, .int .i64 ot, .int .i64 on, .int .u64 ow, .int .i64 oe] 58)).heap[wr.heap.size]? = some (.cells #[.int .i64 ok, .int .i64 ot, .int .i64 on, .int .u64 ow, .int .i64 oe] 58 (0, 0))) := heap_alloc_new wr _
            have HRn : Hid (R64 on) := rn
            clear hJ1 bo hx ho hso hsa rt rn HB
            go_wp2_with fail
            refine Calls.mono (HPt.out _) ?_
            rintro e w5 ⟨rfl, hw5⟩
            rw [hw5]
            clear hw5
            go_wp2_with fail
            refine Calls.mono (HPn.out _) ?_
            rintro e w5 ⟨rfl, hw5⟩
            rw [hw5]
            clear hw5
            generalize (wr.alloc (.cells #[.int .i64 ok, .int .i64 ot, .int .i64 on, .int .u64 ow, .int .i64 oe] 58)) = W5 at HJ1 HOb ⊢
            generalize wr.heap.size = ob at HOb ⊢
            clear s0 s1 s2 s3 s4 lsb HPt HPn
            have HEn : Hid _ := ended_i HJ1.out.bb HX.out
            dsimp only at HEn
            go_wp2_with fail
            refine Calls.mono HEn.out ?_
            rintro e w6 ⟨rfl, hb6⟩
            have b7 : Below w6.heap.size w6 (w6.alloc (.cells #[.bool xen, .int .u64 xwd, .int .i64 xer] 67)) := (Below.refl _ _).alloc (Nat.le_refl _) _
            have hJ7 := (HJ1.out.below hb6).below b7
            have HJ7 : Hid _ := hJ7
            have hxb : (w6.alloc (.cells #[.bool xen, .int .u64 xwd, .int .i64 xer] 67)).heap[w6.heap.size]? = some (.cells #[.bool xen, .int .u64 xwd, .int .i64 xer] 67 (0, 0)) := heap_alloc_new w6 _
            have hob7 : (w6.alloc (.cells #[.bool xen, .int .u64 xwd, .int .i64 xer] 67)).heap[ob]? = some (.cells #[.int .i64 ok, .int .i64 ot, .int .i64 on, .int .u64 ow, .int .i64 oe] 58 (0, 0)) := (b7.block ob (by have := heap_lt HOb.out; have := hb6.size; omega)).trans ((hb6.block ob (heap_lt HOb.out)).trans HOb.out)
            have x0 := heap_cell (j := 0) hxb rfl
            have lx := heap_lt hxb
            have HOb7 : Hid _ := hob7
            have HWt : Hid _ := waits_B hJ7.bb HRl.out.iv.sh ((ti : Int) + 1)
            have HLk : Hid _ := lock_any hJ7.bb HRl.out.iv.sh ((ti : Int) + 1) (n : Int)
            clear hJ7 hb6 b7 hob7 hxb HEn HJ1 HOb
            cases hwt : wtB B ((ti : Int) + 1)
            · rw [hwt] at HWt
              cases xen
              · have HGo : Hid (goB B ((ti : Int) + 1) = 0) := go_goes HX.out rfl hwt
                clear HLk hwt
                go_wp2_with fail
                refine Calls.mono HWt.out ?_
                rintro e w2 ⟨rfl, hw2⟩
                rw [hw2]
                clear hw2
                generalize (w6.alloc (.cells #[.bool false, .int .u64 xwd, .int .i64 xer] 67)) = W7 at HJ7 HOb7 x0 lx ⊢
                have hob7 := HOb7.out
                have o0 : W7.cell? ⟨ob, 0, none⟩ = some (.int .i64 ok) := heap_cell hob7 rfl
                have o1 : W7.cell? ⟨ob, 1, none⟩ = some (.int .i64 ot) := heap_cell hob7 rfl
                have o2 : W7.cell? ⟨ob, 2, none⟩ = some (.int .i64 on) := heap_cell hob7 rfl
                have o3 : W7.cell? ⟨ob, 3, none⟩ = some (.int .u64 ow) := heap_cell hob7 rfl
                have o4 : W7.cell? ⟨ob, 4, none⟩ = some (.int .i64 oe) := heap_cell hob7 rfl
                have lob := heap_lt hob7
                clear hob7
                go_upto_region 25 with fail
                clear x0 lx
                go_cut [17, 97] from 98 to 192 (fun v17 v97 wc => v17 = .bool true ∧ v97 = .int .i64 ok ∧ wc = W7)
                case first =>
                  go_wp2
                  go_meet
                  exact ⟨rfl, rfl, rfl⟩
                case rest =>
                  obtain ⟨rfl, rfl, rfl⟩ := hcut
                  rename_i hKK
                  refine hKK _ _ ?_
                  clear hKK
                  go_cut [6, 17] from 96 to 192 (fun v6 v17 wc => v6 = .slice (some ⟨gr, 0, none⟩) 3 3 ∧ v17 = .bool true ∧ Hid (∃ R J B F, JF w wc b gr gj R J B F ∧ Rel B R J))
                  case first =>
                    by_cases q4 : ok = 4
                    · subst q4
                      as_aux_lemma =>
                        have HA : Hid _ := asked_any HJ7.out HRl.out HGo.out hpn (by omega)
                        clear o0 o1 o2 o3 o4 lob HJ7 HOb7
                        go_wp2_with fail
                        refine Calls.mono HA.out ?_
                        rintro e w8 ⟨rfl, hok⟩
                        have HF : Hid (∃ R J B F, JF w w8 b gr gj R J B F ∧ Rel B R J) := hok
                        clear hok HA
                        go_wp2
                        go_meet
                        exact ⟨rfl, rfl, HF⟩
                    · by_cases q5 : ok = 5
                      · subst q5
                        as_aux_lemma =>
                          have HA : Hid _ := handed_any HJ7.out HRl.out HGo.out hpn
                          clear o0 o1 o2 o3 o4 lob HJ7 HOb7
                          go_wp2_with fail
                          refine Calls.mono HA.out ?_
                          rintro e w8 ⟨rfl, hok⟩
                          have HF : Hid (∃ R J B F, JF w w8 b gr gj R J B F ∧ Rel B R J) := hok
                          clear hok HA
                          go_wp2
                          go_meet
                          exact ⟨rfl, rfl, HF⟩
                      · by_cases q3 : ok = 3
                        · subst q3
                          have hpo : pickN on 5 < 5 := pick_lt (by omega)
                          have HPo : Hid (∀ W, Calls Tryd.prog 14 #[.int .i64 on, .int .i64 5] W fun e w' => e = .returned (.int .i64 (pickN on 5 : Nat)) ∧ w' = W) := fun W => pick_any on 5 W HRn.out (by omega) (by omega)
                          generalize pickN on 5 = oi at HPo hpo
                          have hwo : IntKind.i64.wrap (1 + (oi : Int)) = (oi : Int) + 1 := by rw [IntWalk.i64_in _ (by omega)]; omega
                          obtain ⟨y, hy⟩ : ∃ y, B.t[oi]? = some y := ⟨_, List.getElem?_eq_getElem (by rw [HRl.out.tl]; exact hpo)⟩
                          have hnz := HRl.out.iv.nz y (List.mem_of_getElem? hy)
                          obtain ⟨yrow, yen, ywd, yer⟩ := y
                          dsimp only at hnz
                          have HY : Hid (B.t[oi]? = some ⟨yrow, yen, ywd, yer⟩) := hy
                          have HEn : Hid _ := ended_i HJ7.out.bb hy
                          dsimp only at HEn
                          clear hy o0 o1 o3 o4 HOb7
                          go_wp2_with fail
                          refine Calls.mono (HPo.out _) ?_
                          rintro e w8 ⟨rfl, hw8⟩
                          rw [hw8]
                          clear hw8 HPo
                          go_wp2_with fail
                          refine Calls.mono HEn.out ?_
                          rintro e w8 ⟨rfl, hb8⟩
                          have b9 : Below w8.heap.size w8 (w8.alloc (.cells #[.bool yen, .int .u64 ywd, .int .i64 yer] 67)) := (Below.refl _ _).alloc (Nat.le_refl _) _
                          have hJ9 := (HJ7.out.below hb8).below b9
                          have hyb : (w8.alloc (.cells #[.bool yen, .int .u64 ywd, .int .i64 yer] 67)).heap[w8.heap.size]? = some (.cells #[.bool yen, .int .u64 ywd, .int .i64 yer] 67 (0, 0)) := heap_alloc_new w8 _
                          have HJ9 : Hid _ := hJ9
                          have HYb : Hid _ := hyb
                          have HJn : Hid _ := join_any hJ9.bb HRl.out.iv.sh ((ti : Int) + 1) ((oi : Int) + 1)
                          rw [join_is HGo.out HY.out] at HJn
                          have hnf : ¬ F2 w8.heap.size := fun hf => by
                            have h1 := HJ7.out.bb.lt hf
                            have h2 := hb8.size
                            omega
                          have HNf : Hid (¬ F2 w8.heap.size) := hnf
                          clear hJ9 hyb hb8 b9 HEn HJ7 o2 lob hnf
                          by_cases e : ti = oi
                          · subst e
                            as_aux_lemma =>
                              rw [if_pos rfl] at HJn
                              dsimp only at HJn
                              clear HYb HNf hnz HY
                              go_wp2_with fail
                              refine Calls.mono HJn.out ?_
                              rintro e w9 ⟨rfl, F9, hB9, hC9⟩
                              have HF : Hid (∃ R J B F, JF w w9 b gr gj R J B F ∧ Rel B R J) := ⟨R, J, B, F9, HJ9.out.book hB9 hC9, HRl.out⟩
                              clear hB9 hC9 HJn HJ9
                              go_wp2
                              go_meet
                              exact ⟨rfl, rfl, HF⟩
                          · rw [if_neg e] at HJn
                            have HNe : Hid (ti ≠ oi) := e
                            have e3 : (((oi : Int) + 1) != ((ti : Int) + 1)) = true := bne_iff_ne.2 (by omega)
                            have e1 : ¬ ((oi : Int) + 1 = (ti : Int) + 1) := by omega
                            cases yen
                            · rw [if_neg (by simp)] at HJn
                              as_aux_lemma =>
                                dsimp only at HJn
                                obtain ⟨h01, h02⟩ := hnz rfl
                                subst h01 h02
                                obtain ⟨v, hv⟩ : ∃ v, J[ti + 1]? = some v := ⟨_, List.getElem?_eq_getElem (by rw [HRl.out.jl]; omega)⟩
                                have HVj : Hid (J[ti + 1]? = some v) := hv
                                clear hv
                                go_wp2_with fail
                                refine Calls.mono HJn.out ?_
                                rintro e w9 ⟨rfl, F9, hB9, hC9⟩
                                have hyb9 := (hC9.1 w8.heap.size (heap_lt HYb.out) HNf.out).trans HYb.out
                                have hJ9 := HJ9.out.book hB9 hC9
                                have y0 := heap_cell (j := 0) hyb9 rfl
                                have ly := heap_lt hyb9
                                have cj := hJ9.jcell HVj.out
                                have fj := hJ9.jfz (ti + 1)
                                have lj := heap_lt hJ9.jo
                                have hyb10 : (w9.setCell ⟨gj, ti + 1, none⟩ (.int .i64 ((oi : Int) + 1))).heap[w8.heap.size]? = some (.cells #[.bool false, .int .u64 0, .int .i64 0] 67 (0, 0)) := (Below.heap_setCell _ _ _ _ (ty_ne hyb9 hJ9.jo (by decide))).trans hyb9
                                have z0 := heap_cell (j := 0) hyb10 rfl
                                have z1 := heap_cell (j := 1) hyb10 rfl
                                have z2 := heap_cell (j := 2) hyb10 rfl
                                have lz := heap_lt hyb10
                                have HF : Hid (∃ R J B F, JF w (w9.setCell ⟨gj, ti + 1, none⟩ (.int .i64 ((oi : Int) + 1))) b gr gj R J B F ∧ Rel B R J) := ⟨R, _, _, F9, hJ9.jset (ti + 1) ((oi : Int) + 1), join_rel HRl.out HGo.out hpt HY.out HNe.out rfl⟩
                                have t0 : (0 : Int) ≤ (ti : Int) + 1 := by omega
                                have t9 : (ti : Int) + 1 < 9 := by omega
                                clear hB9 hC9 HJn HJ9 hJ9 hyb9 hyb10 HYb HNf
                                generalize w8.heap.size = yb at y0 ly z0 z1 z2 lz ⊢
                                go_wp2
                                go_meet
                                exact ⟨rfl, (by first | rfl | rw [e3] | simp [e3]), HF⟩
                            · rw [if_pos rfl] at HJn
                              as_aux_lemma =>
                                dsimp only at HJn
                                clear hnz
                                go_wp2_with fail
                                refine Calls.mono HJn.out ?_
                                rintro e w9 ⟨rfl, F9, hB9, hC9⟩
                                have hyb9 := (hC9.1 w8.heap.size (heap_lt HYb.out) HNf.out).trans HYb.out
                                have y0 := heap_cell (j := 0) hyb9 rfl
                                have y1 := heap_cell (j := 1) hyb9 rfl
                                have y2 := heap_cell (j := 2) hyb9 rfl
                                have ly := heap_lt hyb9
                                have HF : Hid (∃ R J B F, JF w w9 b gr gj R J B F ∧ Rel B R J) := ⟨R, J, B, F9, HJ9.out.book hB9 hC9, HRl.out⟩
                                clear hB9 hC9 HJn HJ9 hyb9 HYb HNf
                                generalize w8.heap.size = yb at y0 y1 y2 ly ⊢
                                go_wp2
                                go_meet
                                exact ⟨rfl, (by first | rfl | rw [e3] | simp [e3]), HF⟩
                        · by_cases q2 : ok = 2
                          · subst q2
                            as_aux_lemma =>
                              have HA : Hid _ := lawEnded_any HJ7.out HRl.out HX.out HGo.out 2 ot on ow oe
                              clear HJ7 HOb7
                              go_wp2_with fail
                              refine Calls.mono HA.out ?_
                              rintro e w8 ⟨rfl, hok⟩
                              have HF : Hid (∃ R J B F, JF w w8 b gr gj R J B F ∧ Rel B R J) := hok
                              clear hok HA
                              go_wp2
                              go_meet
                              exact ⟨rfl, rfl, HF⟩
                          · have HF : Hid (∃ R J B F, JF w wc b gr gj R J B F ∧ Rel B R J) := ⟨R, J, B, F2, HJ7.out, HRl.out⟩
                            clear HJ7 HOb7
                            go_wp2
                            go_meet
                            exact ⟨rfl, rfl, HF⟩
                  case rest =>
                    obtain ⟨rfl, rfl, HF⟩ := hcut
                    as_aux_lemma =>
                      obtain ⟨R3, J3, B3, F3, hJ3, hRl3⟩ := HF.out
                      have HJ3 : Hid (JF w wc b gr gj R3 J3 B3 F3 ∧ Rel B3 R3 J3) := ⟨hJ3, hRl3⟩
                      have lgj := heap_lt hJ3.jo
                      have lgr := heap_lt hJ3.rz.obj
                      clear hJ3 hRl3 HF
                      go_wp2
                      go_loopw [24] (fun q wr => ∃ (k : Nat), q = .int .i64 k ∧ 1 ≤ k ∧ k ≤ 6 ∧ wr = wc) (fun q _ => 6 - (intOf q).toNat)
                      case atStart => exact ⟨1, rfl, by omega, by omega, rfl⟩
                      case round =>
                        obtain ⟨k, rfl, hk1, hk6, rfl⟩ := hrel
                        by_cases hk5 : k ≤ 5
                        · have k2 : (k : Int) ≤ 5 := by omega
                          have k3 : (0 : Int) ≤ (k : Int) := by omega
                          have k4 : (k : Int) < 9 := by omega
                          obtain ⟨v, hv⟩ : ∃ v, J3[k]? = some v := ⟨_, List.getElem?_eq_getElem (by rw [HJ3.out.2.jl]; omega)⟩
                          have cv := HJ3.out.1.jcell hv
                          have HV : Hid (wtB B3 (k : Int) = ((v != 0) || B3.l.any (fun l => l.row.contains (k : Int)))) := by
                            have := HJ3.out.2.iv.wts (HJ3.out.2.jn k v hk1 hk5 hv)
                            rw [this]
                            congr 1
                            by_cases e : v = 0 <;> simp [e]
                          obtain ⟨wD, rfl⟩ : ∃ wD, wD = wr := ⟨_, rfl⟩
                          clear hv
                          go_wp2
                          clear cv
                          generalize (v != 0) = c0 at HV ⊢
                          go_loopw [25, 26] (fun v25 q wr => ∃ (j : Nat), q = .int .i64 j ∧ v25 = .bool (c0 || (B3.l.take j).any (fun l => l.row.contains (k : Int))) ∧ j ≤ 3 ∧ wr = wD) (fun _ q _ => 3 - (intOf q).toNat)
                          case atStart => exact ⟨0, rfl, by simp, by omega, rfl⟩
                          case round =>
                            obtain ⟨jj, rfl, rfl, hjj, rfl⟩ := hrel
                            by_cases hj3 : jj < 3
                            · have m1 : (jj : Int) < 3 := by omega
                              have m0 : (0 : Int) ≤ (jj : Int) := by omega
                              obtain ⟨z, p, hz, hp, hpz⟩ := HJ3.out.2.at hj3
                              have cp := HJ3.out.1.rcell hp
                              have hRI := HJ3.out.1.rz.rr.r jj p hp
                              have hsh : p.2.length ≤ 8 := by rw [hpz]; exact HJ3.out.2.iv.short (rows_l hz)
                              have HH : Hid _ := holder_n HJ3.out.1.bb hz
                              have hfr := HJ3.out.2.iv.fr z (List.mem_of_getElem? hz)
                              have htk : (B3.l.take (jj + 1)).any (fun l => l.row.contains (k : Int)) = ((B3.l.take jj).any (fun l => l.row.contains (k : Int)) || z.row.contains (k : Int)) := by
                                rw [List.take_add_one, hz]
                                simp
                              have HTk : Hid ((c0 || (B3.l.take (jj + 1)).any (fun l => l.row.contains (k : Int))) = ((c0 || (B3.l.take jj).any (fun l => l.row.contains (k : Int))) || p.2.contains (k : Int))) := by
                                show _ = _
                                rw [htk, hpz, Bool.or_assoc]
                              generalize (c0 || (B3.l.take jj).any (fun l => l.row.contains (k : Int))) = c1 at HTk ⊢
                              rw [← hpz] at hfr
                              obtain ⟨⟨pra, pca⟩, pl⟩ := p
                              unfold rc at cp
                              dsimp only at cp hsh hfr HTk hRI
                              obtain ⟨xb, xo, hxa, hxc⟩ := hRI.rx.at
                              dsimp only at hxa
                              have HXc : Hid (∀ (j : Nat) (x : Int), pl[j]? = some x → xb < wr.heap.size ∧ wr.cell? ⟨xb, xo + j, none⟩ = some (.int .i64 x)) := hxc
                              have HXa : Hid (pl.length ≠ 0 → pra = some ⟨xb, xo, none⟩) := hxa
                              generalize z.ho = zh at HH hfr
                              have HFr : Hid (zh = 0 → pl = []) := hfr
                              clear hz hp hpz htk hRI hxc hxa hfr
                              obtain ⟨wE, rfl⟩ : ∃ wE, wE = wr := ⟨_, rfl⟩
                              go_wp2
                              go_loopw [25, 27] (fun v25 q wr => ∃ (m : Nat), q = .int .i64 m ∧ v25 = .bool (c1 || (pl.take m).contains (k : Int)) ∧ m ≤ pl.length ∧ wr = wE) (fun _ q _ => pl.length - (intOf q).toNat)
                              case atStart => exact ⟨0, rfl, by simp, by omega, rfl⟩
                              case round =>
                                obtain ⟨m, rfl, rfl, hm, rfl⟩ := hrel
                                by_cases hml : m < pl.length
                                · have n1 : (m : Int) < (pl.length : Int) := by omega
                                  have n0 : (0 : Int) ≤ (m : Int) := by omega
                                  obtain ⟨u, hu⟩ : ∃ u, pl[m]? = some u := ⟨_, List.getElem?_eq_getElem hml⟩
                                  have hra := HXa.out (by omega)
                                  obtain ⟨lxb, cu⟩ := HXc.out m u hu
                                  have HU : Hid ((c1 || (pl.take (m + 1)).contains (k : Int)) = ((c1 || (pl.take m).contains (k : Int)) || (u == (k : Int)))) := by
                                    show _ = _
                                    rw [List.take_add_one, hu, Bool.or_assoc, ← contains_snoc]
                                    rfl
                                  subst hra
                                  clear hu
                                  generalize (c1 || (pl.take m).contains (k : Int)) = c2 at HU ⊢
                                  cases c2
                                  · cases hc : (u == (k : Int))
                                    · rw [hc] at HU
                                      go_wp2
                                      go_roundw
                                      case rel => exact ⟨m + 1, by go_num, by rw [HU.out]; rfl, by omega, trivial⟩
                                      case measure => simp [intOf]; omega
                                    · rw [hc] at HU
                                      go_wp2
                                      go_roundw
                                      case rel => exact ⟨m + 1, by go_num, by rw [HU.out]; rfl, by omega, trivial⟩
                                      case measure => simp [intOf]; omega
                                  · go_wp2
                                    go_roundw
                                    case rel => exact ⟨m + 1, by go_num, by rw [HU.out, Bool.true_or], by omega, trivial⟩
                                    case measure => simp [intOf]; omega
                                · have n1 : ¬ (m : Int) < (pl.length : Int) := by omega
                                  have hme : m = pl.length := by omega
                                  subst hme
                                  rw [List.take_length, ← HTk.out]
                                  by_cases hz0 : zh = 0
                                  · have hpl := HFr.out hz0
                                    subst hpl
                                    dsimp only [List.length_nil] at cp n1 ⊢
                                    go_wp2
                                    go_roundw
                                    case rel => exact ⟨jj + 1, by go_num, (by first | rfl | simp), by omega, trivial⟩
                                    case measure => simp [intOf]; omega
                                  · by_cases hl0 : pl.length = 0
                                    · rw [hl0] at cp n1 ⊢
                                      go_wp2
                                      go_roundw
                                      case rel => exact ⟨jj + 1, by go_num, (by first | rfl | simp), by omega, trivial⟩
                                      case measure => simp [intOf]; omega
                                    · have hl1 : (pl.length : Int) > 0 := by omega
                                      go_wp2_with fail
                                      refine Calls.mono HH.out ?_
                                      rintro e w9 ⟨rfl, hw9⟩
                                      rw [hw9]
                                      clear hw9
                                      go_wp2
                                      go_roundw
                                      case rel => exact ⟨jj + 1, by go_num, (by first | rfl | simp), by omega, trivial⟩
                                      case measure => simp [intOf]; omega
                            · have m1 : ¬ (jj : Int) < 3 := by omega
                              have hje : jj = 3 := by omega
                              subst hje
                              rw [show B3.l.take 3 = B3.l from List.take_of_length_le (by rw [HJ3.out.2.ll]; omega), ← HV.out]
                              have HWk : Hid _ := waits_B HJ3.out.1.bb HJ3.out.2.iv.sh (k : Int)
                              generalize wtB B3 (k : Int) = wk at HWk ⊢
                              go_wp2_with fail
                              refine Calls.mono HWk.out ?_
                              rintro e w9 ⟨rfl, hw9⟩
                              rw [hw9]
                              clear hw9 HWk
                              cases wk
                              all_goals
                                go_wp2
                                go_roundw
                                case rel => exact ⟨k + 1, by go_num, by omega, by omega, trivial⟩
                                case measure => simp [intOf]; omega
                        · have k2 : ¬ (k : Int) ≤ 5 := by omega
                          have hke : k = 6 := by omega
                          subst hke
                          go_wp2
                          go_roundw
                          case rel => exact ⟨j + 1, R3, J3, B3, F3, by go_num, rfl, by omega, HJ3.out⟩
                          case measure => simp [intOf]; omega
              · have hgo := go_wait HX.out (by rw [Bool.true_or])
                rw [lock_not (by rw [HRl.out.ll]; exact hpn) hgo] at HLk
                dsimp only at HLk
                clear hgo hwt
                as_aux_lemma =>
                  go_wp2_with fail
                  refine Calls.mono HWt.out ?_
                  rintro e w2 ⟨rfl, hw2⟩
                  rw [hw2]
                  clear hw2
                  go_wp2_with fail
                  refine Calls.mono HLk.out ?_
                  rintro e w8 ⟨rfl, F8, hB8, hC8⟩
                  have HJ8 : Hid (JF w w8 b gr gj R J B F8) := HJ7.out.book hB8 hC8
                  clear hB8 hC8 HLk HJ7 HOb7 x0 lx
                  go_wp2
                  go_roundw
                  case rel => exact ⟨j + 1, R, J, B, F8, by go_num, rfl, by omega, HJ8.out, HRl.out⟩
                  case measure => simp [intOf]; omega
            · rw [hwt] at HWt
              have hgo := go_wait HX.out (by rw [hwt, Bool.or_true])
              rw [lock_not (by rw [HRl.out.ll]; exact hpn) hgo] at HLk
              dsimp only at HLk
              clear hgo hwt
              as_aux_lemma =>
                go_wp2_with fail
                refine Calls.mono HWt.out ?_
                rintro e w2 ⟨rfl, hw2⟩
                rw [hw2]
                clear hw2
                go_wp2_with fail
                refine Calls.mono HLk.out ?_
                rintro e w8 ⟨rfl, F8, hB8, hC8⟩
                have HJ8 : Hid (JF w w8 b gr gj R J B F8) := HJ7.out.book hB8 hC8
                clear hB8 hC8 HLk HJ7 HOb7 x0 lx
                go_wp2
                go_roundw
                case rel => exact ⟨j + 1, R, J, B, F8, by go_num, rfl, by omega, HJ8.out, HRl.out⟩
                case measure => simp [intOf]; omega
          · have k1 : ¬ (j : Int) < (l.length : Int) := by omega
            go_wp2
            go_ret
            exact ⟨rfl, HB.out.1.bel⟩
end Go.Proofs.YtdlnkdcgipaoeaaDoor
