/- AllocDoes. -/
import Derived.Test.YtaenoenchbfeiaaHADoes0
namespace Go.Proofs.Ytaenoenchbfeiaa
open Go.RowKit

set_option maxRecDepth 100000 in
set_option maxHeartbeats 16000000 in
theorem allocDoes_walk (s o : Int) (ops : List (Int × Int × Int)) (ra : Option Addr) (ca : Nat) (w : World) (hl : ops.length ≤ 281474976710656) (hO : OX w ra ops) :
    Calls Try.prog 4 #[.int .i64 s, .int .i64 o, .slice ra ops.length ca] w fun e w' => e = .returned (.bool true) ∧ Below w.heap.size w w' := by
  have HO : Hid (OX w ra ops) := hO
  have HW : Hid _ := works_any w
  clear hO
  by_cases hbig : ops.length ≤ 3000
  · have kbg : ¬ (ops.length : Int) > 3000 := by omega
    go_enter Try.func4, Try.ntmps4
    go_wp2_with fail
    refine Calls.mono HW.out ?_
    rintro e w1 ⟨rfl, hb⟩
    have HB1 : Hid (Below w.heap.size w w1) := hb
    clear hb HW
    by_cases hs : 4 ≤ s ∧ s ≤ 4096
    · obtain ⟨m, rfl⟩ : ∃ m : Nat, s = (m : Int) := ⟨s.toNat, by omega⟩
      have HN : Hid _ := new_any m w1 (by omega) (by omega)
      go_wp2_with fail
      refine Calls.mono HN.out ?_
      rintro e w2 ⟨a, ga, gm, gf, cf, rfl, hal, hb2, hft⟩
      have HA : Hid (AL w2 a ga gm gf cf (.slice none 0 0) 0 (al0 m) ∧ Below w1.heap.size w1 w2 ∧ ∀ g, Ft a ga gm gf (.slice none 0 0) g → w1.heap.size ≤ g) := ⟨hal, hb2, hft⟩
      clear hal hb2 hft HN
      have HN : Hid _ := rnew_any m w2 (by omega) (by omega)
      go_wp2_with fail
      refine Calls.mono HN.out ?_
      rintro e w3 ⟨r, gr, rfl, hrl, hb3, hrt⟩
      have HD : Hid (DE w w3 a r 0) := de_new (HB1.out.trans (HA.out.2.1.mono HB1.out.size)) (by omega) HA.out.1 (fun g hg => Nat.le_trans HB1.out.size (HA.out.2.2 g hg)) hrl hb3 hrt
      have HL3 : Hid (w.heap.size ≤ w3.heap.size ∧ Below w.heap.size w w3) := by
        have h1 := HB1.out.size
        have h2 := HA.out.2.1.size
        have h3 := hb3.size
        exact ⟨by omega, (HB1.out.trans (HA.out.2.1.mono h1)).trans (hb3.mono (by omega))⟩
      clear hrl hb3 hrt HN HA HB1
      by_cases ho : 4 ≤ o ∧ o ≤ 4096
      · obtain ⟨q, rfl⟩ : ∃ q : Nat, o = (q : Int) := ⟨o.toNat, by omega⟩
        have HN : Hid _ := new_any q w3 (by omega) (by omega)
        go_wp2_with fail
        refine Calls.mono HN.out ?_
        rintro e w4 ⟨b, gb, gmb, gfb, cfb, rfl, hal, hb4, hft⟩
        have HA : Hid (AL w4 b gb gmb gfb cfb (.slice none 0 0) 0 (al0 q) ∧ Below w3.heap.size w3 w4 ∧ ∀ g, Ft b gb gmb gfb (.slice none 0 0) g → w3.heap.size ≤ g) := ⟨hal, hb4, hft⟩
        clear hal hb4 hft HN
        have HN : Hid _ := rnew_any q w4 (by omega) (by omega)
        go_wp2_with fail
        refine Calls.mono HN.out ?_
        rintro e w5 ⟨t, gt, rfl, hrl, hb5, hrt⟩
        have HD2 : Hid (DE w3 w5 b t 0) := de_new HA.out.2.1 (by omega) HA.out.1 HA.out.2.2 hrl hb5 hrt
        have HS : Hid (DSX w (w5.alloc bk0) a r w5.heap.size (some (b, t)) 0 0) := ds_two HD.out (HA.out.2.1.trans (hb5.mono HA.out.2.1.size)) HD2.out
        clear hrl hb5 hrt HN HA HD HD2 HL3
        unfold bk0 at HS
        go_upto_region 13 with fail
        obtain ⟨w6, hw6⟩ : ∃ w6, w6 = w5.alloc (.cells #[.slice none 0 0, .slice none 0 0, .slice none 0 0, .slice none 0 0, .slice none 0 0, .slice none 0 0, .slice none 0 0, .slice none 0 0, .slice none 0 0, .slice none 0 0, .slice none 0 0, .slice none 0 0, .slice none 0 0, .slice none 0 0, .slice none 0 0, .slice none 0 0, .slice none 0 0] 50) := ⟨_, rfl⟩
        rw [← hw6] at HS ⊢
        clear hw6
        obtain ⟨bk, hbk⟩ : ∃ bk, bk = w5.heap.size := ⟨_, rfl⟩
        rw [← hbk] at HS ⊢
        clear hbk
        go_wp2
        go_loopw [17, 18] (fun i _ wr => ∃ j : Nat, i = .int .i64 j ∧ j ≤ ops.length ∧ Hid (DSX w wr a r bk (some (b, t)) j (4 * j))) (fun i _ _ => ops.length - (intOf i).toNat)
        case atStart => exact ⟨0, rfl, Nat.zero_le _, HS⟩
        case round =>
          clear HS
          obtain ⟨j, rfl, hj, HS⟩ := hrel
          by_cases hlt : j < ops.length
          · have k1 : (j : Int) < (ops.length : Int) := by omega
            obtain ⟨x, hx⟩ : ∃ x, ops[j]? = some x := ⟨_, List.getElem?_eq_getElem hlt⟩
            obtain ⟨bb, oo, q1, q2⟩ := HO.out.at
            have q1' := q1 (by omega)
            subst q1'
            obtain ⟨q3, q4, q5, q6⟩ := q2 j x hx
            have hb0 : Below w.heap.size w wr := by
              obtain ⟨A, n, F, F2, G, h⟩ := HS.out
              exact h.bel
            have d0 := (hb0.cell (p := ⟨bb, oo + j * 3, none⟩) q3).trans q4
            have d1 := (hb0.cell (p := ⟨bb, oo + j * 3 + 1, none⟩) q3).trans q5
            have d2 := (hb0.cell (p := ⟨bb, oo + j * 3 + 1 + 1, none⟩) q3).trans q6
            have lb : bb < wr.heap.size := Nat.lt_of_lt_of_le q3 hb0.size
            clear q1 q2 q4 q5 q6 hx hb0
            by_cases hz : j % 5 = 4
            · have z1 : ((j : Int).tmod 5 == 4) = true := by rw [Int.tmod_eq_emod_of_nonneg (by omega)]; simp; omega
              have z2 : ((j : Int) % 5 == 4) = true := by simp; omega
              have z3 : (j : Int) % 5 = 4 := by omega
              have z4 : (j : Int).tmod 5 = 4 := by rw [Int.tmod_eq_emod_of_nonneg (by omega)]; omega
              clear hz
              have HK : Hid _ := ds_step2 HS.out (by omega) (by omega) x.1 x.2.1 x.2.2
              clear HS
              go_wp2_with fail
              refine Calls.mono HK.out ?_
              rintro e w7 ⟨rfl, hs7⟩
              have HS7 : Hid (DSX w w7 a r bk (some (b, t)) (j + 1) (4 * (j + 1))) := by
                rw [show 4 * (j + 1) = 4 * j + 4 by omega]
                exact hs7
              clear hs7 HK
              go_wp2
              go_roundw
              case rel => exact ⟨j + 1, by go_num, by omega, HS7⟩
              case measure => simp [intOf]; omega
            · have z1 : ((j : Int).tmod 5 == 4) = false := by rw [Int.tmod_eq_emod_of_nonneg (by omega)]; simp; omega
              have z2 : ((j : Int) % 5 == 4) = false := by simp; omega
              clear hz
              have HK : Hid _ := ds_step1 HS.out (by omega) (by omega) x.1 x.2.1 x.2.2
              clear HS
              go_wp2_with fail
              refine Calls.mono HK.out ?_
              rintro e w7 ⟨rfl, hs7⟩
              have HS7 : Hid (DSX w w7 a r bk (some (b, t)) (j + 1) (4 * (j + 1))) := by
                rw [show 4 * (j + 1) = 4 * j + 4 by omega]
                exact hs7
              clear hs7 HK
              go_wp2
              go_roundw
              case rel => exact ⟨j + 1, by go_num, by omega, HS7⟩
              case measure => simp [intOf]; omega
          · obtain rfl : j = ops.length := by omega
            have k1 : ¬ (ops.length : Int) < (ops.length : Int) := by omega
            have HK : Hid _ := ds_looks1 HS.out (by omega)
            clear HS hlt hj HO
            go_wp2_with fail
            refine Calls.mono HK.out ?_
            rintro e w7 ⟨rfl, hs7⟩
            have HS7 : Hid _ := hs7
            clear hs7 HK
            have HK : Hid _ := ds_looks2 HS7.out (by omega)
            go_wp2_with fail
            refine Calls.mono HK.out ?_
            rintro e w8 ⟨rfl, hs8⟩
            have HS8 : Hid _ := hs8
            clear hs8 HK HS7
            have HK : Hid _ := ds_own HS8.out (by omega)
            go_wp2_with fail
            refine Calls.mono HK.out ?_
            rintro e w9 ⟨rfl, hd9⟩
            have HK9 : Hid _ := de_looks hd9
            unfold bk0 at HK9
            clear hd9 HK HS8
            go_wp2_with fail
            refine Calls.mono HK9.out ?_
            rintro e wz ⟨rfl, hbz⟩
            have HBz : Hid (Below w.heap.size w wz) := hbz
            clear hbz HK9
            go_wp2
            go_ret
            exact ⟨rfl, HBz.out⟩
      · have HN : Hid (Calls Try.prog 7 #[.int .i64 o] w3 fun e w' => e = .returned (.tuple #[.pointer none, .int .i64 120]) ∧ w' = w3) := new_bad o w3 ho
        have HN2 : Hid (Calls Try.prog 8 #[.int .i64 o] w3 fun e w' => e = .returned (.tuple #[.pointer none, .int .i64 120]) ∧ w' = w3) := rnew_bad o w3 ho
        have HS : Hid (DSX w (w3.alloc bk0) a r w3.heap.size none 0 0) := ds_one HD.out
        clear HD HL3
        unfold bk0 at HS
        go_wp2_with fail
        refine Calls.mono HN.out ?_
        rintro e w5 ⟨rfl, hw5⟩
        rw [hw5]
        clear hw5 HN
        go_wp2_with fail
        refine Calls.mono HN2.out ?_
        rintro e w5 ⟨rfl, hw5⟩
        rw [hw5]
        clear hw5 HN2 ho
        obtain ⟨w5, hw5⟩ : ∃ w5, w5 = w3 := ⟨_, rfl⟩
        rw [← hw5] at HS ⊢
        clear hw5
        go_upto_region 13 with fail
        obtain ⟨w6, hw6⟩ : ∃ w6, w6 = w5.alloc (.cells #[.slice none 0 0, .slice none 0 0, .slice none 0 0, .slice none 0 0, .slice none 0 0, .slice none 0 0, .slice none 0 0, .slice none 0 0, .slice none 0 0, .slice none 0 0, .slice none 0 0, .slice none 0 0, .slice none 0 0, .slice none 0 0, .slice none 0 0, .slice none 0 0, .slice none 0 0] 50) := ⟨_, rfl⟩
        rw [← hw6] at HS ⊢
        clear hw6
        obtain ⟨bk, hbk⟩ : ∃ bk, bk = w5.heap.size := ⟨_, rfl⟩
        rw [← hbk] at HS ⊢
        clear hbk
        go_wp2
        go_loopw [17, 18] (fun i _ wr => ∃ j : Nat, i = .int .i64 j ∧ j ≤ ops.length ∧ Hid (DSX w wr a r bk none j (4 * j))) (fun i _ _ => ops.length - (intOf i).toNat)
        case atStart => exact ⟨0, rfl, Nat.zero_le _, HS⟩
        case round =>
          clear HS
          obtain ⟨j, rfl, hj, HS⟩ := hrel
          by_cases hlt : j < ops.length
          · have k1 : (j : Int) < (ops.length : Int) := by omega
            obtain ⟨x, hx⟩ : ∃ x, ops[j]? = some x := ⟨_, List.getElem?_eq_getElem hlt⟩
            obtain ⟨bb, oo, q1, q2⟩ := HO.out.at
            have q1' := q1 (by omega)
            subst q1'
            obtain ⟨q3, q4, q5, q6⟩ := q2 j x hx
            have hb0 : Below w.heap.size w wr := by
              obtain ⟨A, n, F, F2, G, h⟩ := HS.out
              exact h.bel
            have d0 := (hb0.cell (p := ⟨bb, oo + j * 3, none⟩) q3).trans q4
            have d1 := (hb0.cell (p := ⟨bb, oo + j * 3 + 1, none⟩) q3).trans q5
            have d2 := (hb0.cell (p := ⟨bb, oo + j * 3 + 1 + 1, none⟩) q3).trans q6
            have lb : bb < wr.heap.size := Nat.lt_of_lt_of_le q3 hb0.size
            clear q1 q2 q4 q5 q6 hx hb0
            have HK : Hid _ := ds_step1 HS.out (by omega) (by omega) x.1 x.2.1 x.2.2
            clear HS
            go_wp2_with fail
            refine Calls.mono HK.out ?_
            rintro e w7 ⟨rfl, hs7⟩
            have HS7 : Hid (DSX w w7 a r bk none (j + 1) (4 * (j + 1))) := by
              rw [show 4 * (j + 1) = 4 * j + 4 by omega]
              exact hs7
            clear hs7 HK
            go_wp2
            go_roundw
            case rel => exact ⟨j + 1, by go_num, by omega, HS7⟩
            case measure => simp [intOf]; omega
          · obtain rfl : j = ops.length := by omega
            have k1 : ¬ (ops.length : Int) < (ops.length : Int) := by omega
            have HK : Hid _ := ds_looks1 HS.out (by omega)
            clear HS hlt hj HO
            go_wp2_with fail
            refine Calls.mono HK.out ?_
            rintro e w7 ⟨rfl, hs7⟩
            have HS7 : Hid _ := hs7
            clear hs7 HK
            have HS8 : Hid _ := HS7.out
            clear HS7
            have HK : Hid _ := ds_own HS8.out (by omega)
            go_wp2_with fail
            refine Calls.mono HK.out ?_
            rintro e w9 ⟨rfl, hd9⟩
            have HK9 : Hid _ := de_looks hd9
            unfold bk0 at HK9
            clear hd9 HK HS8
            go_wp2_with fail
            refine Calls.mono HK9.out ?_
            rintro e wz ⟨rfl, hbz⟩
            have HBz : Hid (Below w.heap.size w wz) := hbz
            clear hbz HK9
            go_wp2
            go_ret
            exact ⟨rfl, HBz.out⟩
    · have HN : Hid (Calls Try.prog 7 #[.int .i64 s] w1 fun e w' => e = .returned (.tuple #[.pointer none, .int .i64 120]) ∧ w' = w1) := new_bad s w1 hs
      have HN2 : Hid (Calls Try.prog 8 #[.int .i64 s] w1 fun e w' => e = .returned (.tuple #[.pointer none, .int .i64 120]) ∧ w' = w1) := rnew_bad s w1 hs
      go_wp2_with fail
      refine Calls.mono HN.out ?_
      rintro e w5 ⟨rfl, hw5⟩
      rw [hw5]
      clear hw5 HN
      go_wp2_with fail
      refine Calls.mono HN2.out ?_
      rintro e w5 ⟨rfl, hw5⟩
      rw [hw5]
      clear hw5 HN2
      by_cases ho : 4 ≤ o ∧ o ≤ 4096
      · obtain ⟨q, rfl⟩ : ∃ q : Nat, o = (q : Int) := ⟨o.toNat, by omega⟩
        have HN : Hid _ := new_any q w1 (by omega) (by omega)
        go_wp2_with fail
        refine Calls.mono HN.out ?_
        rintro e w4 ⟨b, gb, gmb, gfb, cfb, rfl, hal, hb4, hft⟩
        have HB4 : Hid (Below w.heap.size w w4) := HB1.out.trans (hb4.mono HB1.out.size)
        clear hal hb4 hft HN
        have HN : Hid _ := rnew_any q w4 (by omega) (by omega)
        go_wp2_with fail
        refine Calls.mono HN.out ?_
        rintro e w5 ⟨t, gt, rfl, hrl, hb5, hrt⟩
        have HB5 : Hid (Below w.heap.size w w5) := HB4.out.trans (hb5.mono HB4.out.size)
        clear hrl hb5 hrt HN HB4
        go_wp2
        go_ret
        exact ⟨rfl, HB5.out⟩
      · have HN : Hid (Calls Try.prog 7 #[.int .i64 o] w1 fun e w' => e = .returned (.tuple #[.pointer none, .int .i64 120]) ∧ w' = w1) := new_bad o w1 ho
        have HN2 : Hid (Calls Try.prog 8 #[.int .i64 o] w1 fun e w' => e = .returned (.tuple #[.pointer none, .int .i64 120]) ∧ w' = w1) := rnew_bad o w1 ho
        go_wp2_with fail
        refine Calls.mono HN.out ?_
        rintro e w5 ⟨rfl, hw5⟩
        rw [hw5]
        clear hw5 HN
        go_wp2_with fail
        refine Calls.mono HN2.out ?_
        rintro e w5 ⟨rfl, hw5⟩
        rw [hw5]
        clear hw5 HN2 ho hs
        go_wp2
        go_ret
        exact ⟨rfl, HB1.out⟩
  · have kbg : (ops.length : Int) > 3000 := by omega
    go_enter Try.func4, Try.ntmps4
    go_wp2_with fail
    refine Calls.mono HW.out ?_
    rintro e w1 ⟨rfl, hb⟩
    have HB1 : Hid (Below w.heap.size w w1) := hb
    clear hb HW
    go_wp2
    go_ret
    exact ⟨rfl, HB1.out⟩
end Go.Proofs.Ytaenoenchbfeiaa
