/- ShowTurned. -/
import Derived.Test.YtejmoopgfnjaaaaDoorHSTurnD
import Derived.Test.YtejmoopgfnjaaaaDoorK28
import Derived.Deep.CutBlock
import Derived.Deep.RegionHeld3
namespace Go.Proofs.YtejmoopgfnjaaaaDoor
open Go.RowKit Go.Maps Go.ChangeMaps

set_option maxRecDepth 100000 in
set_option maxHeartbeats 40000000 in
theorem showTurned_walk (h : List Cl) (N : List (List UInt8)) (x : Int) (od : List Int) (mo : Int) (ra rn rc : Option Addr) (ca cn cc : Nat) (w : World) (hh : h.length ≤ 281474976710656) (hNl : N.length ≤ 281474976710656) (hol : od.length ≤ 281474976710656) (hH : HR w ra h) (hN : TX w rn N) (hO : RX (Value.int .i64) w rc od) (hx : Rng x) (hod : ∀ x ∈ od, -9223372036854775808 ≤ x ∧ x ≤ 9223372036854775807) (hmo : -9223372036854775808 ≤ mo ∧ mo ≤ 9223372036854775807) (hG : Gl w) :
    Calls Tryd.prog 4 #[.slice ra h.length ca, .slice rn N.length cn, .int .u64 x, .slice rc od.length cc, .int .i64 mo] w fun e w' => e = .returned (.bool true) ∧ Below w.heap.size w w' := by
  have HWk : Hid _ := works_any w hG
  have HA : Hid (∀ w', Below w.heap.size w w' → HR w' ra h ∧ RX (Value.int .i64) w' rc od ∧ TX w' rn N ∧ Gl w') := fun w' hb => ⟨hH.below hb, hO.below hb, hN.below hb, hG.below hb⟩
  have HXY : Hid (Rng x ∧ (∀ z ∈ h, OkK z) ∧ ∀ x ∈ od, -9223372036854775808 ≤ x ∧ x ≤ 9223372036854775807) := ⟨hx, hr_ok hH, hod⟩
  obtain ⟨kk, hkk, hpk⟩ := pick_fix mo 4 hmo (by omega) (by omega)
  have HPk : Hid (∀ w : World, Calls Tryd.prog 10 #[.int .i64 mo, .int .i64 4] w fun e w' => e = .returned (.int .i64 kk) ∧ w' = w) := hpk
  clear hH hN hG hx hO hod hmo hpk
  go_enter Tryd.func4, Tryd.ntmps4
  go_wp2_with fail
  refine Calls.mono HWk.out ?_
  rintro e w1 ⟨rfl, hb1⟩
  have HB1 : Hid (Below w.heap.size w w1) := hb1
  have HV1 : Hid _ := heavy_any h.length N ra rn ca cn w1 hh (HA.out w1 hb1).2.2.1 hNl
  clear hb1 HWk
  go_wp2_with fail
  refine Calls.mono HV1.out ?_
  rintro e w2 ⟨⟨b1, rfl, hv1⟩, hb2⟩
  have HB2 : Hid (Below w.heap.size w w2) := HB1.out.trans (hb2.mono HB1.out.size)
  clear hb2 HV1
  cases b1 with
  | true =>
    clear hv1
    go_wp2
    go_ret
    exact ⟨rfl, HB2.out⟩
  | false =>
    obtain ⟨l1, l2, l3⟩ := hv1 rfl
    have A2 := HA.out w2 HB2.out
    have HS1 : Hid _ := show_any h N x ra rn ca cn w2 (by omega) A2.1 HXY.out.1 A2.2.2.2.tab (by omega) A2.2.2.1 A2.2.2.2.ev A2.2.2.2.tb
    clear hv1 A2
    go_wp2_with fail
    refine Calls.mono HS1.out ?_
    rintro e w3 ⟨hr1, hb3⟩
    have HB3 : Hid (Below w.heap.size w w3) := HB2.out.trans (hb3.mono HB2.out.size)
    clear hb3 HS1
    rcases hr1 with ⟨hk1, rfl⟩ | ⟨hk1, rfl⟩
    · clear hk1
      go_wp2
      go_ret
      exact ⟨rfl, HB3.out⟩
    have HK1 : Hid (okS h N x = true) := hk1
    obtain ⟨T1, hT1⟩ : ∃ T, T = showT h N x := ⟨_, rfl⟩
    rw [← hT1]
    have HT1 : Hid (T1 = showT h N x) := hT1
    clear hk1 hT1
    go_wp2_with fail
    refine Calls.mono (HPk.out _) ?_
    rintro e wq ⟨rfl, hq⟩
    rw [hq]
    clear hq HPk
    have s1 : (h.length : Int) + (kk : Int) = ((h.length + kk : Nat) : Int) := by omega
    obtain ⟨n0, hn0⟩ : ∃ n0, n0 = h.length + kk := ⟨_, rfl⟩
    have HN0 : Hid (n0 = h.length + kk) := hn0
    rw [← hn0] at s1
    have nb : n0 ≤ 5003 := by omega
    clear hn0
    go_upto_region 9 with fail
    obtain ⟨bb, hbb⟩ : ∃ bb, bb = decide ((4096 : Int) < n0) := ⟨_, rfl⟩
    go_cut [51] from 52 (fun v wx => v = .bool bb ∧ wx = w3)
    case first =>
      go_wp2
      go_meet
      exact ⟨by rw [hbb], rfl⟩
    obtain ⟨rfl, rfl⟩ := hcut
    rename_i hKK
    refine hKK _ _ ?_
    go_cut [15] from 52 (fun v wx => ∃ n : Nat, v = .int .i64 n ∧ Hid (h.length ≤ n ∧ n ≤ 5003) ∧ wx = wc)
    case first =>
      cases bb
      · go_wp2
        go_meet
        exact ⟨n0, rfl, ⟨by have := HN0.out; omega, nb⟩, rfl⟩
      · go_wp2
        go_meet
        exact ⟨h.length, rfl, ⟨Nat.le_refl _, by omega⟩, rfl⟩
    case rest =>
      obtain ⟨n, rfl, HNn, rfl⟩ := hcut
      obtain ⟨w5, hw5⟩ : ∃ w5, w5 = wc := ⟨_, rfl⟩
      rw [← hw5] at HB3 ⊢
      have HB5 : Hid (Below w.heap.size w w5) := HB3
      obtain ⟨nl, nu⟩ := HNn.out
      obtain ⟨i0, hi0, hz0, hz1, hz2⟩ := info_parts infoI
      clear hw5 HB3 HNn s1 HN0 nb hkk HB1 HB2
      go_wp2_with (at_make; refine stop_of ?_)
      unfold Hid
      refine wpList_make_full _ rfl _ _ 34 rfl w5.heap.size 3 i0 (.int .i64 0) 1 Tryd.underlying34 hi0 hz0 hz1 .i64 .i64 _ _ n rfl rfl rfl rfl (by rw [hz2]; omega) (by unfold maxLen; omega) (Nat.le_refl _) ?_
      intro w6 hown hgr
      have hd6 := dr_made hown (made_zero _)
      have HD6 : Hid (DR w6 3 w5.heap.size n (fun k u => k < 0 → u = .int .i64 k)) := hd6.mono (fun k u _ _ hk => by omega)
      have HB6 : Hid (Below w5.heap.size w5 w6) := grown_low hgr (fun g hg => by cases hg) (Nat.le_refl _)
      clear hown hgr hd6 hi0 hz0 hz1 hz2
      go_wp2
      go_loopw [17] (fun i wr => ∃ j : Nat, i = .int .i64 j ∧ j ≤ n ∧ Hid (DR wr 3 w5.heap.size n (fun k u => k < j → u = .int .i64 k)) ∧ Hid (Below w5.heap.size w5 wr)) (fun i _ => n - (intOf i).toNat)
      case atStart => exact ⟨0, rfl, Nat.zero_le _, HD6, HB6⟩
      case round =>
        obtain ⟨j, rfl, hj, HD, HBr⟩ := hrel
        by_cases hlt : j < n
        · have k1 : (j : Int) < (n : Int) := by omega
          obtain ⟨u0, hu0, _⟩ := HD.out.cell hlt
          have z0 := HD.out.fz j
          have s4 := HD.out.lt
          have HD7 : Hid (DR (wr.setCell ⟨w5.heap.size, j, none⟩ (.int .i64 j)) 3 w5.heap.size n (fun k u => k < j + 1 → u = .int .i64 k)) := HD.out.set (fun k u hk hh hl => hh (by omega)) (fun _ => rfl)
          have HB7 : Hid (Below w5.heap.size w5 (wr.setCell ⟨w5.heap.size, j, none⟩ (.int .i64 j))) := HBr.out.setCell (p := ⟨w5.heap.size, j, none⟩) (Nat.le_refl _) _
          go_wp2
          go_roundw
          case rel => exact ⟨j + 1, by go_num, by omega, HD7, HB7⟩
          case measure => simp [intOf]; omega
        · have k1 : ¬ (j : Int) < (n : Int) := by omega
          have HD7 : Hid (DR wr 3 w5.heap.size n (fun k u => u = .int .i64 ((fun k => k) k : Nat))) := HD.out.mono (fun k u hk hh => hh (by omega))
          have HB7 : Hid (Below w5.heap.size w5 wr) := HBr
          clear HD HBr HD6 HB6 hlt hj
          obtain ⟨wA, rfl⟩ : ∃ wA, wA = wr := ⟨_, rfl⟩
          go_upto_block 2 with fail
          go_cut [18, 19, 20, 21] from 65 (fun _ _ _ _ wx => ∃ (τ ρ : Nat → Nat), Hid (Perm n τ ρ) ∧ Hid (DR wx 3 w5.heap.size n (fun k u => u = .int .i64 (τ k : Nat))) ∧ Hid (Below w5.heap.size w5 wx))
          case first =>
            go_wp2
            go_loopw [18, 19, 20, 21] (fun i _ _ _ wr => ∃ (j : Nat) (τ ρ : Nat → Nat), i = .int .i64 j ∧ j ≤ od.length ∧ Hid (Perm n τ ρ) ∧ Hid (DR wr 3 w5.heap.size n (fun k u => u = .int .i64 (τ k : Nat))) ∧ Hid (Below w5.heap.size w5 wr)) (fun i _ _ _ _ => od.length - (intOf i).toNat)
            case atStart => exact ⟨0, fun k => k, fun k => k, rfl, Nat.zero_le _, Perm.id n, HD7, HB7⟩
            case round =>
              obtain ⟨j, τ, ρ, rfl, hj, HP, HD, HBr⟩ := hrel
              obtain ⟨j', hj'⟩ : ∃ j' : Nat, j' = j + 1 := ⟨_, rfl⟩
              have e1 : (j : Int) + 1 = (j' : Int) := by omega
              have e2 : (j' : Int) ≤ 9223372036854775807 := by omega
              by_cases hlt : j' < od.length
              · have k1 : (j' : Int) < (od.length : Int) := by omega
                by_cases hl2 : j < 10000
                · have k2 : (j : Int) < 10000 := by omega
                  by_cases hl3 : 0 < n
                  · have k3 : (n : Int) > 0 := by omega
                    have k4 : (j : Int) < (od.length : Int) := by omega
                    obtain ⟨xx, hxx⟩ : ∃ x, od[j]? = some x := ⟨_, List.getElem?_eq_getElem (by omega)⟩
                    obtain ⟨y, hy⟩ : ∃ y, od[j']? = some y := ⟨_, List.getElem?_eq_getElem hlt⟩
                    obtain ⟨bo, oo, q1, q2⟩ := (HA.out _ (HB5.out.trans (HBr.out.mono HB5.out.size))).2.1
                    obtain rfl : rc = some ⟨bo, oo, none⟩ := q1.resolve_left (by omega)
                    obtain ⟨p1, c1⟩ := q2 j xx hxx
                    obtain ⟨_, c2⟩ := q2 j' y hy
                    obtain ⟨a, ha, hpa⟩ := pick_fix xx n (HXY.out.2.2 xx (List.mem_of_getElem? hxx)) (by omega) (by omega)
                    obtain ⟨b, hb, hpb⟩ := pick_fix y n (HXY.out.2.2 y (List.mem_of_getElem? hy)) (by omega) (by omega)
                    have HPA : Hid (∀ w : World, Calls Tryd.prog 10 #[.int .i64 xx, .int .i64 n] w fun e w' => e = .returned (.int .i64 a) ∧ w' = w) := hpa
                    have HPB : Hid (∀ w : World, Calls Tryd.prog 10 #[.int .i64 y, .int .i64 n] w fun e w' => e = .returned (.int .i64 b) ∧ w' = w) := hpb
                    have HJ : Hid (j' = j + 1) := hj'
                    clear q1 q2 hxx hy hpa hpb hj'
                    go_wp2_with fail
                    refine Calls.mono (HPA.out _) ?_
                    rintro e wq ⟨rfl, hq⟩
                    rw [hq]
                    clear hq
                    go_wp2_with fail
                    refine Calls.mono (HPB.out _) ?_
                    rintro e wq' ⟨rfl, hq⟩
                    rw [hq]
                    clear hq
                    have ka : (a : Int) < (n : Int) := by omega
                    have kb : (b : Int) < (n : Int) := by omega
                    have sg := HD.out.lt
                    obtain ⟨ua, hua, rfl⟩ := HD.out.cell ha
                    obtain ⟨ub, hub, rfl⟩ := HD.out.cell hb
                    have za := HD.out.fz a
                    have zb := HD.out.fz b
                    have qa := HD.out.set (j := a) (v := .int .i64 (τ b : Nat)) (P' := fun k u => (k = a → u = .int .i64 (τ b : Nat)) ∧ (k ≠ a → u = .int .i64 (τ k : Nat))) (fun k u hk hh => ⟨fun e => absurd e hk, fun _ => hh⟩) ⟨fun _ => rfl, fun e => absurd rfl e⟩
                    obtain ⟨vb, hvb, _⟩ := qa.cell hb
                    have zb2 := qa.fz b
                    have sg2 := qa.lt
                    have HD8 : Hid (DR ((wr.setCell ⟨w5.heap.size, a, none⟩ (.int .i64 (τ b : Nat))).setCell ⟨w5.heap.size, b, none⟩ (.int .i64 (τ a : Nat))) 3 w5.heap.size n (fun k u => u = .int .i64 ((fun k => τ (sw a b k)) k : Nat))) := qa.set (fun k u hk hh => by
                      by_cases he : k = a
                      · rw [hh.1 he, he]; simp [sw]
                      · rw [hh.2 he]; simp [sw, he, hk]) (by
                      show Value.int .i64 (τ a : Nat) = .int .i64 (τ (sw a b b) : Nat)
                      unfold sw
                      by_cases he : b = a
                      · rw [if_pos he, he]
                      · rw [if_neg he, if_pos rfl])
                    have HP8 : Hid (Perm n (fun k => τ (sw a b k)) (fun k => sw a b (ρ k))) := HP.out.swap ha hb
                    have HB8 : Hid (Below w5.heap.size w5 ((wr.setCell ⟨w5.heap.size, a, none⟩ (.int .i64 (τ b : Nat))).setCell ⟨w5.heap.size, b, none⟩ (.int .i64 (τ a : Nat)))) := (HBr.out.setCell (p := ⟨w5.heap.size, a, none⟩) (Nat.le_refl _) _).setCell (p := ⟨w5.heap.size, b, none⟩) (Nat.le_refl _) _
                    clear qa HP
                    generalize τ a = ta at *
                    generalize τ b = tb at *
                    go_wp2
                    go_roundw
                    case rel => exact ⟨j', _, _, rfl, by omega, HP8, HD8, HB8⟩
                    case measure => have := HJ.out; simp [intOf]; omega
                  · have k3 : ¬ (n : Int) > 0 := by omega
                    clear hj'
                    go_wp2
                    go_meet
                    exact ⟨τ, ρ, HP, HD, HBr⟩
                · have k2 : ¬ (j : Int) < 10000 := by omega
                  clear hj'
                  go_wp2
                  go_meet
                  exact ⟨τ, ρ, HP, HD, HBr⟩
              · have k1 : ¬ (j' : Int) < (od.length : Int) := by omega
                clear hj'
                go_wp2
                go_meet
                exact ⟨τ, ρ, HP, HD, HBr⟩
          case rest =>
            obtain ⟨τ, ρ, HP, HDt, HBt⟩ := hcut
            obtain ⟨wB, rfl⟩ : ∃ wB, wB = wc := ⟨_, rfl⟩
            obtain ⟨i1, hi1, hy0, hy1, hy2⟩ := info_parts infoCl
            clear HD7 HB7
            go_wp2_with (at_make; refine stop_of ?_)
            unfold Hid
            refine wpList_make_full _ rfl _ _ 22 rfl wB.heap.size 39 i1 (.agg #[.int .u8 0, .int .u8 0, .int .u64 0, .int .u64 0]) 4 Tryd.underlying22 hi1 hy0 hy1 .i64 .i64 _ _ n rfl rfl rfl rfl (by rw [hy2]; omega) (by unfold maxLen; omega) (Nat.le_refl _) ?_
            intro w7 hown hgr
            have hd7 := dr_made4 hown
            have HE7 : Hid (TurD w7 wB.heap.size h n τ 0) := DR.mono hd7 (fun k u _ hu => ⟨fun i hi => by omega, fun _ => hu⟩)
            have HB7 : Hid (Below wB.heap.size wB w7) := grown_low hgr (fun g hg => by cases hg) (Nat.le_refl _)
            have sB : w5.heap.size < wB.heap.size := HDt.out.lt
            clear hown hgr hd7 hi1 hy0 hy1 hy2
            go_wp2
            go_loopw [23, 24] (fun i _ wr => ∃ (j : Nat), i = .int .i64 j ∧ j ≤ h.length ∧ Hid (TurD wr wB.heap.size h n τ j) ∧ Hid (Below wB.heap.size wB wr)) (fun i _ _ => h.length - (intOf i).toNat)
            case atStart => exact ⟨0, rfl, Nat.zero_le _, HE7, HB7⟩
            case round =>
              obtain ⟨j, rfl, hj, HE, HBr⟩ := hrel
              by_cases hlt : j < h.length
              · have k1 : (j : Int) < (h.length : Int) := by omega
                obtain ⟨xx, hxx⟩ : ∃ x, h[j]? = some x := ⟨_, List.getElem?_eq_getElem hlt⟩
                have hBw : Below w5.heap.size w5 wr := HBt.out.trans (HBr.out.mono (by omega))
                have hBW : Below w.heap.size w wr := HB5.out.trans (hBw.mono HB5.out.size)
                obtain ⟨bh, oh, q1, q2⟩ := (HA.out wr hBW).1
                obtain rfl : ra = some ⟨bh, oh, none⟩ := q1.resolve_left (by omega)
                obtain ⟨p1, ⟨d0, d1, d2, d3⟩, hkx⟩ := q2 j xx hxx
                have hpn : τ j < n := HP.out.lt j (by omega)
                have s7 : wB.heap.size < wr.heap.size := DR.lt HE.out
                have al := al_below wr (KO xx)
                have HK1' : Hid (K4 (wr.alloc (KO xx)) wr.heap.size xx) := heap_alloc_new wr (KO xx)
                have HD1 : Hid (DR (wr.alloc (KO xx)) 3 w5.heap.size n (fun k u => u = .int .i64 (τ k : Nat))) := HDt.out.kept ((al.block _ (Nat.lt_trans sB s7)).trans (HBr.out.block _ sB))
                have HE1 : Hid (TurD (wr.alloc (KO xx)) wB.heap.size h n τ j) := DR.kept HE.out (al.block _ s7)
                have HB1 : Hid (Below wB.heap.size wB (wr.alloc (KO xx))) := HBr.out.trans (al.mono HBr.out.size)
                have HG1 : Hid (Tab (wr.alloc (KO xx))) := (HA.out _ (hBW.trans (al.mono hBW.size))).2.2.2.tab
                have HXx : Hid (h[j]? = some xx ∧ OkK xx) := ⟨hxx, hkx⟩
                clear q1 q2 hBw hBW hxx hkx al
                go_upto_region 29 with fail
                have hcz : wr.heap.size < (wr.alloc (KO xx)).heap.size := HK1'.out.cells.2
                obtain ⟨cb, hcb⟩ : ∃ cb, cb = wr.heap.size := ⟨_, rfl⟩
                rw [← hcb] at HK1' hcz ⊢
                have hnB : cb ≠ wB.heap.size := by omega
                have hnT : cb ≠ w5.heap.size := by omega
                have hcB : wB.heap.size ≤ cb := by omega
                generalize wr.alloc (KO xx) = W1 at *
                clear hcb d0 d1 d2 d3 p1 HE HBr s7 k1
                have kj : (j : Int) < (n : Int) := by omega
                have kt : (τ j : Int) < (n : Int) := by omega
                have i1 : (j : Int) < (h.length : Int) := by omega
                obtain ⟨⟨m0, m1, m2, m3⟩, sc⟩ := HK1'.out.cells
                by_cases hk0 : xx.k = 0
                · have kq : (xx.k == 0) = true := by simpa using hk0
                  have HY : Hid (turAt h n τ j = xx) := by show _ = _; unfold turAt turC; rw [HXx.out.1]; exact if_pos hk0
                  clear hk0
                  obtain ⟨ut, hut, rfl⟩ := HD1.out.cell (j := j) (by omega)
                  have st := HD1.out.lt
                  have hE4 := HE1.out
                  obtain ⟨u0, hu0, _⟩ := DR.cell hE4 (j := τ j * 4) (by omega)
                  obtain ⟨u1, hu1, _⟩ := DR.cell hE4 (j := τ j * 4 + 1) (by omega)
                  obtain ⟨u2, hu2, _⟩ := DR.cell hE4 (j := τ j * 4 + 1 + 1) (by omega)
                  obtain ⟨u3, hu3, _⟩ := DR.cell hE4 (j := τ j * 4 + 1 + 1 + 1) (by omega)
                  have f0 := DR.fz hE4 (τ j * 4)
                  have f1 := DR.fz hE4 (τ j * 4 + 1)
                  have f2 := DR.fz hE4 (τ j * 4 + 1 + 1)
                  have f3 := DR.fz hE4 (τ j * 4 + 1 + 1 + 1)
                  have sg := DR.lt hE4
                  have HS8 := hE4.step (ρ := ρ) HP.out (by omega) HY.out
                  have HT8 := below_set4 wB.heap.size (τ j) xx HB1.out (Nat.le_refl _)
                  have HS : Hid (TurD ((((W1.setCell ⟨wB.heap.size, τ j * 4, none⟩ (.int .u8 xx.k)).setCell ⟨wB.heap.size, τ j * 4 + 1, none⟩ (.int .u8 xx.c)).setCell ⟨wB.heap.size, τ j * 4 + 1 + 1, none⟩ (.int .u64 xx.a)).setCell ⟨wB.heap.size, τ j * 4 + 1 + 1 + 1, none⟩ (.int .u64 xx.b)) wB.heap.size h n τ (j + 1)) := HS8
                  have HT : Hid (Below wB.heap.size wB ((((W1.setCell ⟨wB.heap.size, τ j * 4, none⟩ (.int .u8 xx.k)).setCell ⟨wB.heap.size, τ j * 4 + 1, none⟩ (.int .u8 xx.c)).setCell ⟨wB.heap.size, τ j * 4 + 1 + 1, none⟩ (.int .u64 xx.a)).setCell ⟨wB.heap.size, τ j * 4 + 1 + 1 + 1, none⟩ (.int .u64 xx.b))) := HT8
                  clear HS8 HT8
                  clear hE4 HY HE1 HB1 HD1 HG1 HK1'
                  go_wp2_with fail
                  go_region
                  go_wp2
                  go_roundw
                  case rel => exact ⟨j + 1, by go_num, by omega, HS, HT.out.drew⟩
                  case measure => simp [intOf]; omega
                · have kq : (xx.k == 0) = false := by simpa using hk0
                  obtain ⟨A, hA⟩ : ∃ A, A = mvM n τ xx.a := ⟨_, rfl⟩
                  obtain ⟨B, hBB⟩ : ∃ B, B = mvM n τ xx.b := ⟨_, rfl⟩
                  have HM1 : Hid (Calls Tryd.prog 11 #[.int .u64 xx.a, .slice (some ⟨w5.heap.size, 0, none⟩) n n] W1 fun e w' => e = .returned (.int .u64 A) ∧ w' = W1) := hA ▸ movedT_any n _ τ xx.a W1 HD1.out HXx.out.2.a HG1.out
                  have hK2 := HK1'.out.setA A
                  have hD2 : DR (W1.setCell ⟨cb, 2, none⟩ (.int .u64 A)) 3 w5.heap.size n (fun k u => u = .int .i64 (τ k : Nat)) := HD1.out.kept (blk_set (Ne.symm hnT))
                  have hB2 := HB1.out.setCell (p := ⟨cb, 2, none⟩) hcB (.int .u64 A)
                  have hT2 : Tab (W1.setCell ⟨cb, 2, none⟩ (.int .u64 A)) := (HA.out _ (HB5.out.trans ((HBt.out.trans (hB2.mono (by omega))).mono HB5.out.size))).2.2.2.tab
                  have HM2 : Hid (Calls Tryd.prog 11 #[.int .u64 xx.b, .slice (some ⟨w5.heap.size, 0, none⟩) n n] (W1.setCell ⟨cb, 2, none⟩ (.int .u64 A)) fun e w' => e = .returned (.int .u64 B) ∧ w' = W1.setCell ⟨cb, 2, none⟩ (.int .u64 A)) := hBB ▸ movedT_any n _ τ xx.b _ hD2 HXx.out.2.b hT2
                  obtain ⟨cj, hcj⟩ : ∃ cj : Int, cj = (xx.c + (j : Int)) % 3 := ⟨_, rfl⟩
                  obtain ⟨c0l, c0u⟩ := HXx.out.2.c
                  have t1 : xx.c + (j : Int) ≤ 9223372036854775807 := by omega
                  have t2 : -9223372036854775808 ≤ xx.c + (j : Int) := by omega
                  have t3 : IntKind.u8.wrap ((xx.c + (j : Int)) % 3) = cj := by rw [hcj]; show ((xx.c + (j : Int)) % 3) % 256 = _; omega
                  have t4 : IntKind.u8.wrap ((xx.c + (j : Int)).tmod 3) = cj := by rw [Int.tmod_eq_emod_of_nonneg (by omega)]; exact t3
                  have HY : Hid (turAt h n τ j = ⟨xx.k, cj, A, B⟩) := by show _ = _; unfold turAt turC; rw [HXx.out.1, hA, hBB, hcj]; exact if_neg hk0
                  have hK3 := hK2.setB B
                  have hK4 := hK3.setC cj
                  have z1 := HK1'.out.fz 2
                  have z2 := hK2.fz 3
                  have z3 := hK3.fz 1
                  obtain ⟨⟨a0, a1, a2, a3⟩, a4⟩ := hK2.cells
                  obtain ⟨⟨b0, b1, b2, b3⟩, b4⟩ := hK3.cells
                  obtain ⟨⟨n0', n1', n2', n3'⟩, n4'⟩ := hK4.cells
                  have hB3 := hB2.setCell (p := ⟨cb, 3, none⟩) hcB (.int .u64 B)
                  have hB4 := hB3.setCell (p := ⟨cb, 1, none⟩) hcB (.int .u8 cj)
                  have hE2 : TurD (W1.setCell ⟨cb, 2, none⟩ (.int .u64 A)) wB.heap.size h n τ j := DR.kept HE1.out (blk_set (Ne.symm hnB))
                  have hE3 : TurD ((W1.setCell ⟨cb, 2, none⟩ (.int .u64 A)).setCell ⟨cb, 3, none⟩ (.int .u64 B)) wB.heap.size h n τ j := DR.kept hE2 (blk_set (Ne.symm hnB))
                  have hE4 : TurD (((W1.setCell ⟨cb, 2, none⟩ (.int .u64 A)).setCell ⟨cb, 3, none⟩ (.int .u64 B)).setCell ⟨cb, 1, none⟩ (.int .u8 cj)) wB.heap.size h n τ j := DR.kept hE3 (blk_set (Ne.symm hnB))
                  have hD3 : DR ((W1.setCell ⟨cb, 2, none⟩ (.int .u64 A)).setCell ⟨cb, 3, none⟩ (.int .u64 B)) 3 w5.heap.size n (fun k u => u = .int .i64 (τ k : Nat)) := hD2.kept (blk_set (Ne.symm hnT))
                  have hD4 : DR (((W1.setCell ⟨cb, 2, none⟩ (.int .u64 A)).setCell ⟨cb, 3, none⟩ (.int .u64 B)).setCell ⟨cb, 1, none⟩ (.int .u8 cj)) 3 w5.heap.size n (fun k u => u = .int .i64 (τ k : Nat)) := hD3.kept (blk_set (Ne.symm hnT))
                  obtain ⟨ut, hut, rfl⟩ := hD4.cell (j := j) (by omega)
                  have st := hD4.lt
                  have HB1 : Hid (Below wB.heap.size wB (((W1.setCell ⟨cb, 2, none⟩ (.int .u64 A)).setCell ⟨cb, 3, none⟩ (.int .u64 B)).setCell ⟨cb, 1, none⟩ (.int .u8 cj))) := hB4
                  clear hA hBB hcj hK2 hK3 hK4 hD2 hD3 hD4 hB2 hB3 hB4 hT2 hE2 hE3 hk0
                  go_wp2_with fail
                  refine Calls.mono HM1.out ?_
                  rintro e wq ⟨rfl, hq⟩
                  rw [hq]
                  clear hq
                  go_wp2_with fail
                  refine Calls.mono HM2.out ?_
                  rintro e wq ⟨rfl, hq⟩
                  rw [hq]
                  clear hq
                  go_upto_region 33 with fail
                  generalize ((W1.setCell ⟨cb, 2, none⟩ (.int .u64 A)).setCell ⟨cb, 3, none⟩ (.int .u64 B)).setCell ⟨cb, 1, none⟩ (.int .u8 cj) = W4 at *
                  clear a0 a1 a2 a3 a4 b0 b1 b2 b3 b4 z1 z2 z3 m0 m1 m2 m3 sc t1 t2 t3 t4 HM1 HM2
                  obtain ⟨u0, hu0, _⟩ := DR.cell hE4 (j := τ j * 4) (by omega)
                  obtain ⟨u1, hu1, _⟩ := DR.cell hE4 (j := τ j * 4 + 1) (by omega)
                  obtain ⟨u2, hu2, _⟩ := DR.cell hE4 (j := τ j * 4 + 1 + 1) (by omega)
                  obtain ⟨u3, hu3, _⟩ := DR.cell hE4 (j := τ j * 4 + 1 + 1 + 1) (by omega)
                  have f0 := DR.fz hE4 (τ j * 4)
                  have f1 := DR.fz hE4 (τ j * 4 + 1)
                  have f2 := DR.fz hE4 (τ j * 4 + 1 + 1)
                  have f3 := DR.fz hE4 (τ j * 4 + 1 + 1 + 1)
                  have sg := DR.lt hE4
                  have HS8 := hE4.step (ρ := ρ) HP.out (by omega) HY.out
                  have HT8 := below_set4 wB.heap.size (τ j) ⟨xx.k, cj, A, B⟩ HB1.out (Nat.le_refl _)
                  dsimp only at HS8 HT8
                  have HS : Hid (TurD ((((W4.setCell ⟨wB.heap.size, τ j * 4, none⟩ (.int .u8 xx.k)).setCell ⟨wB.heap.size, τ j * 4 + 1, none⟩ (.int .u8 cj)).setCell ⟨wB.heap.size, τ j * 4 + 1 + 1, none⟩ (.int .u64 A)).setCell ⟨wB.heap.size, τ j * 4 + 1 + 1 + 1, none⟩ (.int .u64 B)) wB.heap.size h n τ (j + 1)) := HS8
                  have HT : Hid (Below wB.heap.size wB ((((W4.setCell ⟨wB.heap.size, τ j * 4, none⟩ (.int .u8 xx.k)).setCell ⟨wB.heap.size, τ j * 4 + 1, none⟩ (.int .u8 cj)).setCell ⟨wB.heap.size, τ j * 4 + 1 + 1, none⟩ (.int .u64 A)).setCell ⟨wB.heap.size, τ j * 4 + 1 + 1 + 1, none⟩ (.int .u64 B))) := HT8
                  clear HS8 HT8
                  clear hE4 HY HE1 HB1 HD1 HG1 HK1'
                  go_wp2_with fail
                  go_region
                  go_wp2
                  go_roundw
                  case rel => exact ⟨j + 1, by go_num, by omega, HS, HT.out.drew⟩
                  case measure => simp [intOf]; omega
              · have k1 : ¬ (j : Int) < (h.length : Int) := by omega
                have hje : j = h.length := by omega
                subst hje
                obtain ⟨wC, rfl⟩ : ∃ wC, wC = wr := ⟨_, rfl⟩
                have hBw : Below w5.heap.size w5 wC := HBt.out.trans (HBr.out.mono (by omega))
                have HBW : Hid (Below w.heap.size w wC) := HB5.out.trans (hBw.mono HB5.out.size)
                have HXg : Hid (HR wC (some ⟨wB.heap.size, 0, none⟩) (turH h n τ ρ)) := (TurD.hx HP.out nl HE.out).hr (tur_ok HXY.out.2.1)
                have HDC : Hid (DR wC 3 w5.heap.size n (fun k u => u = .int .i64 (τ k : Nat))) := HDt.out.kept (HBr.out.block _ sB)
                have HRx : Hid (Rng (mvM n τ x)) := mv_rng HXY.out.1
                have HTs : Hid _ := tur_show (N := N) HP.out (by omega) nl HXY.out.2.1 HK1.out
                have AC := HA.out wC HBW.out
                have HM1 : Hid _ := movedT_any n _ τ x wC HDC.out HXY.out.1 AC.2.2.2.tab
                have hs1 := show_any (turH h n τ ρ) N (mvM n τ x) (some ⟨wB.heap.size, 0, none⟩) rn n cn wC (by rw [tur_len]; omega) HXg.out HRx.out AC.2.2.2.tab (by omega) AC.2.2.1 AC.2.2.2.ev AC.2.2.2.tb
                rw [tur_len] at hs1
                have HS1 : Hid _ := hs1
                have sC : w5.heap.size < wC.heap.size := HDC.out.lt
                obtain ⟨X', hX'⟩ : ∃ X', X' = mvM n τ x := ⟨_, rfl⟩
                rw [← hX'] at HM1 HS1 HTs HRx
                obtain ⟨G', hG'⟩ : ∃ G', G' = turH h n τ ρ := ⟨_, rfl⟩
                have HGl : Hid (G'.length = n) := by show _ = _; rw [hG', tur_len]
                rw [← hG'] at HS1 HTs HXg
                have HX' : Hid (mvM n τ x = X') := hX'.symm
                clear hs1 AC hBw HE HBr HE7 HB7 hX' hG' hlt hj k1
                go_wp2_with fail
                refine Calls.mono HM1.out ?_
                rintro e wq ⟨rfl, hq⟩
                rw [hq]
                clear hq HM1
                go_wp2_with fail
                refine Calls.mono HS1.out ?_
                rintro e w8 ⟨hr8, hb8⟩
                rcases hr8 with ⟨h8, _⟩ | ⟨_, rfl⟩
                · rw [HTs.out.1] at h8; cases h8
                rw [HTs.out.2.1, ← HT1.out]
                have HB8 : Hid (Below w.heap.size w w8) := HBW.out.trans (hb8.mono HBW.out.size)
                have A8 := HA.out w8 HB8.out
                have hm8 := movedT_any n _ τ x w8 (HDC.out.kept (hb8.block _ sC)) HXY.out.1 A8.2.2.2.tab
                rw [HX'.out] at hm8
                have HM2 : Hid _ := hm8
                have ha8 := alike_any h G' x X' ra (some ⟨wB.heap.size, 0, none⟩) ca n w8 (by omega) (by rw [HGl.out]; omega) A8.1 (HXg.out.below hb8) HXY.out.1 HRx.out A8.2.2.2.tab
                rw [HGl.out] at ha8
                have HL1 : Hid _ := ha8
                clear A8 hm8 ha8 hb8 HS1
                go_wp2_with fail
                refine Calls.mono HM2.out ?_
                rintro e wq ⟨rfl, hq⟩
                rw [hq]
                clear hq HM2
                go_wp2_with fail
                refine Calls.mono HL1.out ?_
                rintro e w9 ⟨hr9, hb9⟩
                have HB9 : Hid (Below w.heap.size w w9) := HB8.out.trans (hb9.mono HB8.out.size)
                rcases hr9 with ⟨h9, _⟩ | ⟨_, rfl⟩
                · rw [HTs.out.2.2.2] at h9; cases h9
                rw [HTs.out.2.2.1]
                clear hb9 HL1
                have hq : (T1 == T1) = true := by simp
                go_wp2
                go_ret
                exact ⟨rfl, HB9.out⟩
end Go.Proofs.YtejmoopgfnjaaaaDoor
