/- BarrierKeeps. -/
import Derived.Test.YtomdbcddokaagaaDoorGX
namespace Go.Proofs.YtomdbcddokaagaaDoor
open Go.RowKit

set_option maxRecDepth 100000 in
set_option maxHeartbeats 32000000 in
theorem barrierKeeps_walk (p : Vp) (v : Vw) (w : World) (rs : Option Addr) (cs : Nat) (sl : List Sq) (hV : VL w p v) (hS : SR w rs sl) (hT : Tab w) (hTl : 0 < w.heap.size) (hsl : sl.length ≤ 281474976710656) :
    Calls Tryd.prog 4 #[.agg (p.cells v), .slice rs sl.length cs] w fun e w' => e = .returned (.bool true) ∧ Below w.heap.size w w' := by
  have HV : Hid (VL w p v) := hV
  have HT : Hid (Tab w) := hT
  have HS : Hid (SR w rs sl) := hS
  have HTl : Hid (0 < w.heap.size) := hTl
  obtain ⟨W1, hW1⟩ : ∃ W1, w.alloc (.cells (p.cells v) 28) = W1 := ⟨_, rfl⟩
  have b1 : Below w.heap.size w W1 := by rw [← hW1]; exact (Below.refl _ w).alloc (Nat.le_refl _) _
  have v1 : VB W1 w.heap.size p v := by unfold VB; rw [← hW1]; exact World.alloc_heap_new w _
  have HE1 : Hid (VB W1 w.heap.size p v ∧ Below w.heap.size w W1) := ⟨v1, b1⟩
  have HKp : Hid (∀ {Wa Wb : World}, (VB Wa w.heap.size p v ∧ Below w.heap.size w Wa) → Below Wa.heap.size Wa Wb → (VB Wb w.heap.size p v ∧ Below w.heap.size w Wb)) := fun h hb => ⟨(hb.block _ (heap_lt h.1)).trans h.1, h.2.trans (hb.mono h.2.size)⟩
  have HO : Hid (∀ W, Below w.heap.size w W → Calls Tryd.prog 6 #[.agg (p.cells v)] W fun e w' => e = .returned (.int .i64 (ofV v)) ∧ Below W.heap.size W w') := fun W hW => ofView_any p v W (HV.out.kc (kc_below (Nat.le_refl _) hW))
  obtain ⟨is, pl, er, hho⟩ : ∃ is pl er, hoM v = (is, pl, er) := ⟨_, _, _, rfl⟩
  have HHm : Hid (hoM v = (is, pl, er)) := hho
  have HHo : Hid (∀ W, Below w.heap.size w W → v.h.length ≤ 60 → Calls Tryd.prog 12 #[.agg (p.cells v)] W fun e w' => e = .returned (.tuple #[.bool is, .int .i64 pl, .int .i64 er]) ∧ Below W.heap.size W w') := fun W hW h60 => by
    have h := holds_any p v W (HV.out.kc (kc_below (Nat.le_refl _) hW)) (HT.out.below hW) (by omega)
    unfold hoE at h
    rw [hho] at h
    exact h
  clear hho
  have HOw : Hid (∀ W, Below w.heap.size w W → ofV v ≤ 1000 → Calls Tryd.prog 13 #[.agg (p.cells v)] W fun e w' => ∃ (p' : Vp) (L : List Lq), e = .returned (.agg (p'.cells v)) ∧ KX W (w'.alloc (.cells (p'.cells v) 69)) w'.heap.size p' v L ∧ Below W.heap.size W w') := fun W hW ho => by
    have hv := HV.out.kc (kc_below (Nat.le_refl _) hW)
    exact (own_any p v W hv (ofLn_le _ _ (by show ofV v ≤ 20000; omega))).mono (fun e w' h => own_kx hv h)
  have HW1 : Hid _ := hW1
  obtain ⟨pcr, pcc, pyr, pyc, pgr, pgc, plr, plc⟩ := p
  unfold Vp.cells at HW1 HO HHo
  unfold Vp.cells
  dsimp only at HW1 HO HHo ⊢
  clear hV hS hT hTl hW1 b1 v1
  go_enter Tryd.func4, Tryd.ntmps4
  go_upto_region 1 with fail
  rw [HW1.out]
  clear HW1
  obtain ⟨d0, d1, d2, d3, d4, d5, d6⟩ := HE1.out.1.at7
  dsimp only at d0 d3 d4 d6
  have l1 := heap_lt HE1.out.1
  go_wp2_with fail
  refine Calls.mono (HO.out W1 HE1.out.2) ?_
  rintro e W2 ⟨rfl, b2⟩
  have HE2 : Hid (VB W2 w.heap.size ⟨pcr, pcc, pyr, pyc, pgr, pgc, plr, plc⟩ v ∧ Below w.heap.size w W2) := HKp.out HE1.out b2
  clear b2 HE1 d0 d1 d2 d3 d4 d5 d6 l1
  obtain ⟨d0, d1, d2, d3, d4, d5, d6⟩ := HE2.out.1.at7
  dsimp only at d0 d3 d4 d6
  have l2 := heap_lt HE2.out.1
  by_cases g1 : 1000 < ofV v
  · have k1 : (ofV v : Int) > 1000 := by omega
    go_wp2
    go_ret
    exact ⟨rfl, HE2.out.2⟩
  have k1 : ¬ (ofV v : Int) > 1000 := by omega
  have k1' : decide ((ofV v : Int) > 1000) = false := by simpa using k1
  by_cases g2 : 60 < v.h.length
  · have k2 : (v.h.length : Int) > 60 := by omega
    go_wp2
    go_ret
    exact ⟨rfl, HE2.out.2⟩
  have k2 : ¬ (v.h.length : Int) > 60 := by omega
  have k2' : decide ((v.h.length : Int) > 60) = false := by simpa using k2
  by_cases g3 : 8 < v.lanes.length
  · have k3 : (v.lanes.length : Int) > 8 := by omega
    go_wp2
    go_ret
    exact ⟨rfl, HE2.out.2⟩
  have k3 : ¬ (v.lanes.length : Int) > 8 := by omega
  have k3' : decide ((v.lanes.length : Int) > 8) = false := by simpa using k3
  by_cases g4 : 300 < sl.length
  · have k4 : (sl.length : Int) > 300 := by omega
    go_wp2
    go_ret
    exact ⟨rfl, HE2.out.2⟩
  have k4 : ¬ (sl.length : Int) > 300 := by omega
  have k4' : decide ((sl.length : Int) > 300) = false := by simpa using k4
  have HKn : Hid (∀ W, Below w.heap.size w W → Calls Tryd.prog 7 #[] W fun e w' => e = .returned (.bool true) ∧ Below W.heap.size W w') := fun W hW => known_any W (HT.out.below hW)
  go_wp2_with fail
  refine Calls.mono (HKn.out W2 HE2.out.2) ?_
  rintro e W3 ⟨rfl, b3⟩
  have HE3 : Hid (VB W3 w.heap.size ⟨pcr, pcc, pyr, pyc, pgr, pgc, plr, plc⟩ v ∧ Below w.heap.size w W3) := HKp.out HE2.out b3
  clear b3 HE2 d0 d1 d2 d3 d4 d5 d6 l2 HKn HO
  obtain ⟨d0, d1, d2, d3, d4, d5, d6⟩ := HE3.out.1.at7
  dsimp only at d0 d3 d4 d6
  have l3 := heap_lt HE3.out.1
  go_wp2_with fail
  refine Calls.mono (HHo.out W3 HE3.out.2 (by omega)) ?_
  rintro e W4 ⟨rfl, b4⟩
  have HE4 : Hid (VB W4 w.heap.size ⟨pcr, pcc, pyr, pyc, pgr, pgc, plr, plc⟩ v ∧ Below w.heap.size w W4) := HKp.out HE3.out b4
  clear b4 HE3 d0 d1 d2 d3 d4 d5 d6 l3 HHo
  obtain ⟨d0, d1, d2, d3, d4, d5, d6⟩ := HE4.out.1.at7
  dsimp only at d0 d3 d4 d6
  have l4 := heap_lt HE4.out.1
  cases is with
  | false =>
    by_cases he : er = 0
    · subst he
      go_wp2
      go_ret
      exact ⟨rfl, HE4.out.2⟩
    · go_wp2
      go_ret
      exact ⟨rfl, HE4.out.2⟩
  | true =>
    by_cases he : er = 0
    · subst he
      by_cases hp : v.ph = 1 ∨ v.ph = 2
      · have HGd : Hid (Good v ∧ Bn v 1000) := by
          have hm : mayV v = true := by
            have h := HHm.out
            cases hc : mayV v with
            | true => rfl
            | false =>
              unfold hoM at h
              rw [hc] at h
              cases h
          refine ⟨⟨fm_of hm hp, jr_of hm hp (by rw [HHm.out]), fun x hx => (hr_ok HV.out.h x hx).c.1⟩, bn_of (by omega) (by omega) (by omega)⟩
        have kp1 : (v.ph != 1 && v.ph != 2) = false := by rcases hp with h | h <;> simp [h]
        have HPh : Hid (v.ph = 1 ∨ v.ph = 2) := hp
        have HOf : Hid (ofV v ≤ 1000) := by show _ ≤ _; omega
        go_upto_region 5 with fail
        go_cut [65] from 46 (fun v65 wx => v65 = .bool false ∧ wx = W4)
        case first =>
          rcases hp with hp | hp
          all_goals
            rw [hp] at d1
            go_wp2
            go_meet
            exact ⟨rfl, rfl⟩
        case rest =>
          obtain ⟨rfl, rfl⟩ := hcut
          clear hp kp1
          go_wp2_with fail
          refine Calls.mono (HOw.out wc HE4.out.2 HOf.out) ?_
          rintro e W5 ⟨⟨qcr, qcc, qyr, qyc, qgr, qgc, qlr, qlc⟩, L, rfl, hX5, b5⟩
          have HTc : Hid (Tab wc) := HT.out.below HE4.out.2
          obtain ⟨W6, hW6⟩ : ∃ W6, W5.alloc (.cells ((⟨qcr, qcc, qyr, qyc, qgr, qgc, qlr, qlc⟩ : Vp).cells v) 69) = W6 := ⟨_, rfl⟩
          rw [hW6] at hX5
          have HK0 : Hid (Kst wc W6 W5.heap.size (fun _ => True) 1000) := ⟨_, v, L, hX5, tab_kx HTc.out (Nat.lt_of_lt_of_le HTl.out HE4.out.2.size) (Below.refl _ _) hX5, HGd.out.1, HGd.out.2, trivial⟩
          have HBc : Hid (Below w.heap.size w wc) := HE4.out.2
          have HW6 : Hid _ := hW6
          unfold Vp.cells at HW6
          dsimp only at HW6
          unfold Vp.cells
          dsimp only
          clear hX5 b5 hW6 HE4 d0 d1 d2 d3 d4 d5 d6 l4 HOw HGd HKp
          go_upto_region 8 with fail
          rw [HW6.out]
          clear HW6
          generalize W5.heap.size = wb at HK0 ⊢
          have h300 : sl.length ≤ 300 := by omega
          clear g1 g2 g3 g4
          go_wp2_with fail
          go_loopw [10] (fun j wr => ∃ k : Nat, j = .int .i64 k ∧ k ≤ sl.length ∧ Hid (Kst wc wr wb (fun _ => True) (1000 + 2 * k))) (fun j _ => sl.length - (intOf j).toNat)
          case atStart => exact ⟨0, rfl, Nat.zero_le _, HK0⟩
          case round =>
            clear HK0
            obtain ⟨k, rfl, hk, HK⟩ := hrel
            by_cases hlt : k < sl.length
            · have i1 : (k : Int) < (sl.length : Int) := by omega
              have i0 : (0 : Int) ≤ (k : Int) := by omega
              obtain ⟨x, hx⟩ : ∃ x, sl[k]? = some x := ⟨_, List.getElem?_eq_getElem hlt⟩
              obtain ⟨p2, v2, L2, X2, T2, G2, B2, -⟩ := HK.out
              have hbw : Below w.heap.size w wr := HBc.out.trans (X2.bel.mono HBc.out.size)
              obtain ⟨sb, so, hor, hcs⟩ := HS.out.below hbw
              have hrs : rs = some ⟨sb, so, none⟩ := hor.resolve_left (by omega)
              obtain ⟨q0, q1, q2, q3, q4, q5, m1, m2, m3, m4, m5⟩ := hcs k x hx
              have HSt : Hid (Calls Tryd.prog 14 #[.pointer (some ⟨wb, 0, none⟩), .agg #[.int .i64 x.k, .int .i64 x.w, .int .i64 x.a, .int .i64 x.b, .int .i64 x.c]] wr fun e w' => e = .returned (.bool true) ∧ Kst wc w' wb (fun _ => True) (1000 + 2 * (k + 1))) := by
                refine (step_any wc wr wb p2 v2 L2 (1000 + 2 * k) x.k x.w x.a x.b x.c X2 T2 (Nat.lt_of_lt_of_le HTl.out HBc.out.size) G2 B2 ⟨by omega, by omega⟩ m2 m3 m4 m5).mono ?_
                rintro e w' ⟨rfl, p3, v3, L3, X3, hm⟩
                exact ⟨rfl, p3, v3, L3, X3, tab_kx T2 (Nat.lt_of_lt_of_le HTl.out HBc.out.size) X2.bel X3, G2.mvs hm, B2.mvs (by omega) hm, trivial⟩
              clear hcs hor hx X2 T2 G2 B2 HK hbw m1 m2 m3 m4 m5
              subst hrs
              go_wp2_with fail
              refine Calls.mono HSt.out ?_
              rintro e w7 ⟨rfl, h7⟩
              have HK7 : Hid _ := h7
              clear h7 HSt q1 q2 q3 q4 q5
              go_wp2_with fail
              go_roundw
              case rel => exact ⟨k + 1, by go_num, by omega, HK7⟩
              case measure => simp [intOf]; omega
            · obtain rfl : k = sl.length := by omega
              have i1 : ¬ (sl.length : Int) < (sl.length : Int) := by omega
              obtain ⟨N, hN, HKn⟩ : ∃ N : Nat, N ≤ 1600 ∧ Hid (Kst wc wr wb (fun _ => True) N) := ⟨_, by omega, HK⟩
              clear HK
              go_wp2_with fail
              go_loopw [12] (fun _ wr => Hid (Kst wc wr wb (fun _ => True) N)) (fun _ wr => mea wb wr)
              case atStart => exact HKn
              case round =>
                clear HKn
                obtain ⟨p2, v2, L2, X2, T2, G2, B2, -⟩ := (show Hid _ from hrel).out
                have f4 : wr.cell? ⟨wb, 4, none⟩ = some (.slice p2.gr v2.gl.length p2.gc) := heap_cell X2.b rfl
                have f5 : wr.cell? ⟨wb, 5, none⟩ = some (.int .i64 v2.laid) := heap_cell X2.b rfl
                have lwb := heap_lt X2.b
                have HX2 : Hid (KX wc wr wb p2 v2 L2 ∧ Tab wr ∧ Good v2 ∧ Bn v2 N) := ⟨X2, T2, G2, B2⟩
                clear X2 T2 G2 B2 hrel
                go_upto_region 14 with fail
                go_quiet (fail)
                by_cases hla : v2.laid < (v2.gl.length : Int)
                · have HSt : Hid (Calls Tryd.prog 14 #[.pointer (some ⟨wb, 0, none⟩), .agg #[.int .i64 10, .int .i64 0, .int .i64 0, .int .i64 0, .int .i64 0]] (wr.drewN nq) fun e w' => e = .returned (.bool true) ∧ Kst wc w' wb (fun _ => True) N ∧ mea wb w' < mea wb wr) := by
                    have hbd := below_dN (Below.refl wr.heap.size wr) nq
                    refine (step_root wc (wr.drewN nq) wb p2 v2 L2 N 0 0 0 0 (HX2.out.1.below hbd) (HX2.out.2.1.below hbd) (Nat.lt_of_lt_of_le HTl.out HBc.out.size) HX2.out.2.2.1 HX2.out.2.2.2 (by omega) hla).mono ?_
                    rintro e w' ⟨rfl, p3, v3, L3, X3, ⟨g3, b3⟩, e1, e2⟩
                    refine ⟨rfl, ⟨p3, v3, L3, X3, tab_kx HX2.out.2.1 (Nat.lt_of_lt_of_le HTl.out HBc.out.size) HX2.out.1.bel X3, g3, b3, trivial⟩, ?_⟩
                    rw [mea_kx X3, mea_kx HX2.out.1, e1, e2]
                    omega
                  go_wp2_with fail
                  refine Calls.mono HSt.out ?_
                  rintro e w7 ⟨rfl, h7, m7⟩
                  have HK7 : Hid _ := h7
                  clear h7 HSt f4 f5 lwb HX2
                  go_wp2_with fail
                  go_roundw
                  case rel => exact HK7
                  case measure => exact m7
                · obtain ⟨M, hM, HKm⟩ : ∃ M : Nat, M ≤ 8 ∧ Hid (Kst wc (wr.drewN nq) wb (fun v => v.laid = (v.gl.length : Int) ∧ v.lanes.length = M ∧ ∀ (i : Nat) (t : Ln), i < 0 → v.lanes[i]? = some t → t.sc = true) N) := by
                    have hbd := below_dN (Below.refl wr.heap.size wr) nq
                    obtain ⟨G, hF⟩ := HX2.out.2.2.1.fm
                    exact ⟨v2.lanes.length, HX2.out.2.2.2.l, p2, v2, L2, HX2.out.1.below hbd, HX2.out.2.1.below hbd, HX2.out.2.2.1, HX2.out.2.2.2, by have := hF.la.2; omega, rfl, fun i t hi => absurd hi (Nat.not_lt_zero _)⟩
                  clear HX2
                  go_wp2_with fail
                  go_loopw [13] (fun j wr => ∃ k : Nat, j = .int .i64 k ∧ k ≤ M ∧ Hid (Kst wc wr wb (fun v => v.laid = (v.gl.length : Int) ∧ v.lanes.length = M ∧ ∀ (i : Nat) (t : Ln), i < k → v.lanes[i]? = some t → t.sc = true) N)) (fun j _ => M - (intOf j).toNat)
                  case atStart => exact ⟨0, rfl, Nat.zero_le _, HKm⟩
                  case round =>
                    clear HKm f4 f5 lwb hla
                    obtain ⟨k, rfl, hk, HK⟩ := hrel
                    obtain ⟨p3, v3, L3, X3, T3, G3, B3, e1, e2, e3⟩ := HK.out
                    have f6 : wr.cell? ⟨wb, 6, none⟩ = some (.slice p3.lr M p3.lc) := by
                      rw [← e2]
                      exact heap_cell X3.b rfl
                    have lwb := heap_lt X3.b
                    by_cases hlt : k < M
                    · have i1 : (k : Int) < (M : Int) := by omega
                      have HSt : Hid (Calls Tryd.prog 14 #[.pointer (some ⟨wb, 0, none⟩), .agg #[.int .i64 11, .int .i64 k, .int .i64 0, .int .i64 0, .int .i64 0]] wr fun e w' => e = .returned (.bool true) ∧ Kst wc w' wb (fun v => v.laid = (v.gl.length : Int) ∧ v.lanes.length = M ∧ ∀ (i : Nat) (t : Ln), i < k + 1 → v.lanes[i]? = some t → t.sc = true) N) := by
                        refine (step_scan wc wr wb p3 v3 L3 N k 0 0 0 X3 T3 (Nat.lt_of_lt_of_le HTl.out HBc.out.size) G3 B3 (by omega) (by omega)).mono ?_
                        rintro e w' ⟨rfl, p4, v4, L4, X4, ⟨g4, b4⟩, a1, a2, t, ht, a3⟩
                        refine ⟨rfl, p4, v4, L4, X4, tab_kx T3 (Nat.lt_of_lt_of_le HTl.out HBc.out.size) X3.bel X4, g4, b4, by rw [a1, a2]; exact e1, by rw [a3, List.length_set]; exact e2, fun i s hi hs => ?_⟩
                        rw [a3] at hs
                        by_cases hik : k = i
                        · subst hik
                          rw [List.getElem?_set_self (by omega)] at hs
                          cases hs
                          rfl
                        · rw [List.getElem?_set_ne hik] at hs
                          exact e3 i s (by omega) hs
                      clear X3 T3 G3 B3 e1 e2 e3 HK
                      go_wp2_with fail
                      refine Calls.mono HSt.out ?_
                      rintro e w7 ⟨rfl, h7⟩
                      have HK7 : Hid _ := h7
                      clear h7 HSt f6 lwb
                      go_wp2_with fail
                      go_roundw
                      case rel => exact ⟨k + 1, by go_num, by omega, HK7⟩
                      case measure => simp [intOf]; omega
                    · obtain rfl : k = M := by omega
                      have i1 : ¬ (k : Int) < (k : Int) := by omega
                      obtain ⟨H, hH, HKh⟩ : ∃ H : Nat, H ≤ 60 ∧ Hid (Kst wc wr wb (fun v => v.laid = (v.gl.length : Int) ∧ (∀ t ∈ v.lanes, t.sc = true) ∧ v.h.length = H ∧ 0 + nbl v.h ≤ H) N) := ⟨v3.h.length, B3.h, p3, v3, L3, X3, T3, G3, B3, e1, fun t ht => by
                        obtain ⟨i, hi⟩ := List.getElem?_of_mem ht
                        exact e3 i t (by have := (List.getElem?_eq_some_iff.1 hi).1; omega) hi, rfl, by have := nbl_le v3.h; omega⟩
                      clear X3 T3 G3 B3 e1 e2 e3 HK
                      go_wp2_with fail
                      go_loopw [15] (fun j wr => ∃ n : Nat, j = .int .i64 n ∧ n ≤ H ∧ Hid (Kst wc wr wb (fun v => v.laid = (v.gl.length : Int) ∧ (∀ t ∈ v.lanes, t.sc = true) ∧ v.h.length = H ∧ n + nbl v.h ≤ H) N)) (fun j _ => H + 1 - (intOf j).toNat)
                      case atStart => exact ⟨0, rfl, Nat.zero_le _, HKh⟩
                      case round =>
                        clear HKh f6 lwb
                        obtain ⟨n, rfl, hn, HK⟩ := hrel
                        obtain ⟨p4, v4, L4, X4, T4, G4, B4, e1, e2, e3, e4⟩ := HK.out
                        have f3 : wr.cell? ⟨wb, 3, none⟩ = some (.slice p4.yr v4.grey.length p4.yc) := heap_cell X4.b rfl
                        have lwb := heap_lt X4.b
                        by_cases hgy : 0 < v4.grey.length
                        · have i3 : (0 : Int) < (v4.grey.length : Int) := by omega
                          have HSt : Hid (Calls Tryd.prog 14 #[.pointer (some ⟨wb, 0, none⟩), .agg #[.int .i64 12, .int .i64 0, .int .i64 0, .int .i64 0, .int .i64 0]] wr fun e w' => e = .returned (.bool true) ∧ Kst wc w' wb (fun v => v.laid = (v.gl.length : Int) ∧ (∀ t ∈ v.lanes, t.sc = true) ∧ v.h.length = H ∧ (n + 1) + nbl v.h ≤ H) N ∧ (∃ r c, w'.cell? ⟨wb, 0, none⟩ = some (.slice r H c)) ∧ wb < w'.heap.size) := by
                            refine (step_into wc wr wb p4 v4 L4 N 0 0 0 0 X4 T4 (Nat.lt_of_lt_of_le HTl.out HBc.out.size) G4 B4 (by omega) hgy).mono ?_
                            rintro e w' ⟨rfl, p5, v5, L5, X5, ⟨g5, b5⟩, a1, a2, a3, a4, a5⟩
                            refine ⟨rfl, ⟨p5, v5, L5, X5, tab_kx T4 (Nat.lt_of_lt_of_le HTl.out HBc.out.size) X4.bel X5, g5, b5, by rw [a1, a2]; exact e1, by rw [a3]; exact e2, by rw [a4]; exact e3, by omega⟩, ⟨p5.cr, p5.cc, ?_⟩, heap_lt X5.b⟩
                            rw [← e3, ← a4]
                            exact heap_cell X5.b rfl
                          have hn1 : n + 1 ≤ H := by
                            obtain ⟨G, hF⟩ := G4.fm
                            have hG := hF.gy.e
                            cases hGc : G with
                            | nil =>
                              rw [hGc] at hG
                              rw [hG] at hgy
                              cases hgy
                            | cons c r =>
                              have hgc := (hF.gy.m c).1 (by rw [hGc]; exact List.mem_cons_self)
                              unfold gr0 at hgc
                              have : 0 < nbl v4.h := by
                                unfold nbl
                                cases hc : v4.h[c]? with
                                | none => rw [hc] at hgc; cases hgc
                                | some x =>
                                  rw [hc] at hgc
                                  refine List.countP_pos_iff.2 ⟨x, List.mem_of_getElem? hc, ?_⟩
                                  have hgx : greyB x = true := hgc
                                  unfold greyB at hgx
                                  rw [Bool.and_eq_true] at hgx
                                  have := of_decide_eq_true hgx.2
                                  simp [this]
                              omega
                          clear X4 T4 G4 B4 e1 e2 e3 e4 HK
                          go_wp2_with fail
                          refine Calls.mono HSt.out ?_
                          rintro e w7 ⟨rfl, h7, ⟨r0, c0, f0⟩, l7⟩
                          have HK7 : Hid _ := h7
                          have i4 : ¬ (n : Int) > (H : Int) := by omega
                          have i5 : decide ((n : Int) > (H : Int)) = false := by simpa using i4
                          clear h7 HSt f3 lwb
                          go_wp2_with fail
                          go_roundw
                          case rel => exact ⟨n + 1, by go_num, by omega, HK7⟩
                          case measure => simp [intOf]; omega
                        · have i3 : ¬ (0 : Int) < (v4.grey.length : Int) := by omega
                          have HLv : Hid (Calls Tryd.prog 15 #[.pointer (some ⟨wb, 0, none⟩)] wr fun e w' => (∃ g, e = .returned (.slice (some ⟨g, 0, none⟩) H H) ∧ DR w' 4 g H (fun k u => u = .bool ((orderM v4.h (rootsV v4)).contains k))) ∧ Below wr.heap.size wr w') := by
                            have h := live_any wc wr wb p4 v4 L4 N X4 G4 B4 (by omega)
                            rw [e3] at h
                            exact h
                          have HX4 : Hid (KX wc wr wb p4 v4 L4) := X4
                          have HBk : Hid (∀ (c : Nat) (y : Cl), (orderM v4.h (rootsV v4)).contains c = true → v4.h[c]? = some y → y.k ≠ 0 → y.c = 2) := fun c y h1 h2 h3 => by
                            obtain ⟨G, hF⟩ := G4.fm
                            exact ends_black hF G4 e1 e2 (List.eq_nil_of_length_eq_zero (by omega)) h1 h2 h3
                          have HH : Hid (v4.h.length = H) := e3
                          clear X4 T4 G4 B4 e1 e2 e3 e4 HK
                          go_wp2_with fail
                          refine Calls.mono HLv.out ?_
                          rintro e w7 ⟨⟨g, rfl, hd⟩, hb7⟩
                          have HX7 : Hid (KX wc w7 wb p4 v4 L4) := HX4.out.below hb7
                          have HD : Hid _ := hd
                          clear hd hb7 HX4 HLv f3 lwb
                          go_wp2_with fail
                          go_loopw [18] (fun j wr => ∃ k : Nat, j = .int .i64 k ∧ k ≤ H ∧ wr = w7) (fun j _ => H - (intOf j).toNat)
                          case atStart => exact ⟨0, rfl, Nat.zero_le _, rfl⟩
                          case round =>
                            obtain ⟨k, rfl, hk, rfl⟩ := hrel
                            by_cases hlt : k < H
                            · have i4 : (k : Int) < (H : Int) := by omega
                              have i5 : (0 : Int) ≤ (k : Int) := by omega
                              obtain ⟨cs5, c1, c2, c3⟩ := HD.out
                              obtain ⟨u5, hu5⟩ : ∃ u5, cs5[k]? = some u5 := ⟨_, Array.getElem?_eq_getElem (by omega)⟩
                              have r5 := heap_cell c1 hu5
                              rw [c3 k u5 hu5] at r5
                              have lg5 := heap_lt c1
                              obtain ⟨y, hy⟩ : ∃ y, v4.h[k]? = some y := ⟨_, List.getElem?_eq_getElem (by rw [HH.out]; exact hlt)⟩
                              have hbk := HBk.out k y
                              generalize (orderM v4.h (rootsV v4)).contains k = bb at r5 hbk
                              obtain ⟨gc5, cc5, hvc, -, lgc5⟩ := World.ownsRow.form HX7.out.c (show 0 < v4.h.length by rw [HH.out]; omega)
                              have hpc : p4.cr = some ⟨gc5, 0, none⟩ := (Value.slice.inj hvc).1
                              have f0 : wr.cell? ⟨wb, 0, none⟩ = some (.slice (some ⟨gc5, 0, none⟩) H p4.cc) := by
                                rw [← HH.out, ← hpc]
                                exact heap_cell HX7.out.b rfl
                              have oc := HX7.out.c
                              rw [hpc] at oc
                              obtain ⟨y0, y1, -, -⟩ := cl4_at v4.h k y hy
                              have d0 : wr.cell? ⟨gc5, k * 4, none⟩ = some (.int .u8 y.k) := own_cell oc y0
                              have d1 : wr.cell? ⟨gc5, k * 4 + 1, none⟩ = some (.int .u8 y.c) := own_cell oc y1
                              have lwb := heap_lt HX7.out.b
                              clear c1 c2 c3 hu5 hvc hpc oc y0 y1 HD HBk
                              cases bb with
                              | false =>
                                go_wp2_with fail
                                go_roundw
                                case rel => exact ⟨k + 1, by go_num, by omega, by first | rfl | trivial⟩
                                case measure => simp [intOf]; omega
                              | true =>
                                by_cases hk0 : y.k = 0
                                · rw [hk0] at d0
                                  go_wp2_with fail
                                  go_roundw
                                  case rel => exact ⟨k + 1, by go_num, by omega, by first | rfl | trivial⟩
                                  case measure => simp [intOf]; omega
                                · rw [hbk rfl hy hk0] at d1
                                  have m0 : (y.k != 0) = true := by simpa using hk0
                                  clear hbk
                                  go_wp2_with fail
                                  go_roundw
                                  case rel => exact ⟨k + 1, by go_num, by omega, by first | rfl | trivial⟩
                                  case measure => simp [intOf]; omega
                            · obtain rfl : k = H := by omega
                              have i4 : ¬ (k : Int) < (k : Int) := by omega
                              have HFn : Hid (Below w.heap.size w wr) := HBc.out.trans (HX7.out.bel.mono HBc.out.size)
                              clear HX7 HD HBk
                              go_wp2_with fail
                              go_ret
                              exact ⟨rfl, HFn.out⟩
      · have n1 : ¬ v.ph = 1 := fun h => hp (.inl h)
        have n2 : ¬ v.ph = 2 := fun h => hp (.inr h)
        have m1 : (v.ph != 1) = true := by simpa using n1
        have m2 : (v.ph != 2) = true := by simpa using n2
        go_wp2
        go_ret
        exact ⟨rfl, HE4.out.2⟩
    · go_wp2
      go_ret
      exact ⟨rfl, HE4.out.2⟩
end Go.Proofs.YtomdbcddokaagaaDoor
