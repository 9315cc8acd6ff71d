/- BarrierDead. -/
import Derived.Test.YtomdbcddokaagaaDoorGZ
import Derived.Test.YtomdbcddokaagaaDoorGD
namespace Go.Proofs.YtomdbcddokaagaaDoor
open Go.RowKit

set_option maxRecDepth 100000 in
set_option maxHeartbeats 32000000 in
theorem barrierDead_walk (p : Vp) (v : Vw) (w : World) (rs : Option Addr) (cs : Nat) (sl : List Sq) (hV : VL w p v) (hS : SR w rs sl) (hT : Tab w) (hTl : 0 < w.heap.size) (hsl : sl.length ≤ 281474976710656) :
    Calls Tryd.prog 5 #[.agg (p.cells v), .slice rs sl.length cs] w fun e w' => e = .returned (.bool true) ∧ Below w.heap.size w w' := by
  obtain ⟨i0, hi0, hz0, hz1, hz2⟩ := info_parts infoBo
  have HV : Hid (VL w p v) := hV
  have HT : Hid (Tab w) := hT
  have HS : Hid (SR w rs sl) := hS
  have HTl : Hid (0 < w.heap.size) := hTl
  obtain ⟨W1, hW1⟩ : ∃ W1, w.alloc (.cells (p.cells v) 28) = W1 := ⟨_, rfl⟩
  have b1 : Below w.heap.size w W1 := by rw [← hW1]; exact (Below.refl _ w).alloc (Nat.le_refl _) _
  have v1 : VB W1 w.heap.size p v := by unfold VB; rw [← hW1]; exact World.alloc_heap_new w _
  have HE1 : Hid (VB W1 w.heap.size p v ∧ Below w.heap.size w W1) := ⟨v1, b1⟩
  have HKp : Hid (∀ {Wa Wb : World}, (VB Wa w.heap.size p v ∧ Below w.heap.size w Wa) → Below Wa.heap.size Wa Wb → (VB Wb w.heap.size p v ∧ Below w.heap.size w Wb)) := fun h hb => ⟨(hb.block _ (heap_lt h.1)).trans h.1, h.2.trans (hb.mono h.2.size)⟩
  have HO : Hid (∀ W, Below w.heap.size w W → Calls Tryd.prog 6 #[.agg (p.cells v)] W fun e w' => e = .returned (.int .i64 (ofV v)) ∧ Below W.heap.size W w') := fun W hW => ofView_any p v W (HV.out.kc (kc_below (Nat.le_refl _) hW))
  have HOw : Hid (∀ W, Below w.heap.size w W → ofV v ≤ 1000 → Calls Tryd.prog 13 #[.agg (p.cells v)] W fun e w' => ∃ (p' : Vp) (L : List Lq), e = .returned (.agg (p'.cells v)) ∧ KX (zT W) (w'.alloc (.cells (p'.cells v) 69)) w'.heap.size p' v L ∧ Below W.heap.size W w') := fun W hW ho => by
    have hv := HV.out.kc (kc_below (Nat.le_refl _) hW)
    exact (own_any p v W hv (ofLn_le _ _ (by show ofV v ≤ 20000; omega))).mono (fun e w' h => own_kx hv h)
  have HW1 : Hid _ := hW1
  obtain ⟨pcr, pcc, pyr, pyc, pgr, pgc, plr, plc⟩ := p
  unfold Vp.cells at HW1 HO
  unfold Vp.cells
  dsimp only at HW1 HO ⊢
  clear hV hS hT hTl hW1 b1 v1
  go_enter Tryd.func5, Tryd.ntmps5
  go_upto_region 1 with fail
  rw [HW1.out]
  clear HW1
  obtain ⟨d0, d1, d2, d3, d4, d5, d6⟩ := HE1.out.1.at7
  dsimp only at d0 d3 d4 d6
  have l1 := heap_lt HE1.out.1
  go_wp2_with fail
  refine Calls.mono (HO.out W1 HE1.out.2) ?_
  rintro e W2 ⟨rfl, b2⟩
  have HE2 : Hid (VB W2 w.heap.size ⟨pcr, pcc, pyr, pyc, pgr, pgc, plr, plc⟩ v ∧ Below w.heap.size w W2) := HKp.out HE1.out b2
  clear b2 HE1 d0 d1 d2 d3 d4 d5 d6 l1
  obtain ⟨d0, d1, d2, d3, d4, d5, d6⟩ := HE2.out.1.at7
  dsimp only at d0 d3 d4 d6
  have l2 := heap_lt HE2.out.1
  by_cases g1 : 1000 < ofV v
  · have k1 : (ofV v : Int) > 1000 := by omega
    go_wp2
    go_ret
    exact ⟨rfl, HE2.out.2⟩
  have k1 : ¬ (ofV v : Int) > 1000 := by omega
  have k1' : decide ((ofV v : Int) > 1000) = false := by simpa using k1
  by_cases g2 : 60 < v.h.length
  · have k2 : (v.h.length : Int) > 60 := by omega
    go_wp2
    go_ret
    exact ⟨rfl, HE2.out.2⟩
  have k2 : ¬ (v.h.length : Int) > 60 := by omega
  have k2' : decide ((v.h.length : Int) > 60) = false := by simpa using k2
  by_cases g3 : 8 < v.lanes.length
  · have k3 : (v.lanes.length : Int) > 8 := by omega
    go_wp2
    go_ret
    exact ⟨rfl, HE2.out.2⟩
  have k3 : ¬ (v.lanes.length : Int) > 8 := by omega
  have k3' : decide ((v.lanes.length : Int) > 8) = false := by simpa using k3
  by_cases g4 : 300 < sl.length
  · have k4 : (sl.length : Int) > 300 := by omega
    go_wp2
    go_ret
    exact ⟨rfl, HE2.out.2⟩
  have k4 : ¬ (sl.length : Int) > 300 := by omega
  have k4' : decide ((sl.length : Int) > 300) = false := by simpa using k4
  have HKn : Hid (∀ W, Below w.heap.size w W → Calls Tryd.prog 7 #[] W fun e w' => e = .returned (.bool true) ∧ Below W.heap.size W w') := fun W hW => known_any W (HT.out.below hW)
  go_wp2_with fail
  refine Calls.mono (HKn.out W2 HE2.out.2) ?_
  rintro e W3 ⟨rfl, b3⟩
  have HE3 : Hid (VB W3 w.heap.size ⟨pcr, pcc, pyr, pyc, pgr, pgc, plr, plc⟩ v ∧ Below w.heap.size w W3) := HKp.out HE2.out b3
  clear b3 HE2 d0 d1 d2 d3 d4 d5 d6 l2 HKn HO
  obtain ⟨d0, d1, d2, d3, d4, d5, d6⟩ := HE3.out.1.at7
  dsimp only at d0 d3 d4 d6
  have l3 := heap_lt HE3.out.1
  have HBn : Hid (Bn v 1000) := bn_of (by omega) (by omega) (by omega)
  go_wp2_with fail
  refine Calls.mono (HOw.out W3 HE3.out.2 (by omega)) ?_
  rintro e W5 ⟨⟨qcr, qcc, qyr, qyc, qgr, qgc, qlr, qlc⟩, L, rfl, hX5, b5⟩
  have HTc : Hid (Tab W3) := HT.out.below HE3.out.2
  obtain ⟨W6, hW6⟩ : ∃ W6, W5.alloc (.cells ((⟨qcr, qcc, qyr, qyc, qgr, qgc, qlr, qlc⟩ : Vp).cells v) 69) = W6 := ⟨_, rfl⟩
  rw [hW6] at hX5
  have HBc : Hid (Below w.heap.size w W3) := HE3.out.2
  have HW6 : Hid _ := hW6
  unfold Vp.cells at HW6
  dsimp only at HW6
  unfold Vp.cells
  dsimp only
  generalize hwb : W5.heap.size = wb at hX5
  have HWB : Hid (W5.heap.size = wb) := hwb
  have hX7 := hX5.dead0
  have f6 : ∀ n, W6.frozen? ⟨wb, n, none⟩ = false := fun n => by simp [World.frozen?, hX5.b]
  have lw := heap_lt hX5.b
  have e1 : W6.cell? ⟨wb, 1, none⟩ = some (.int .u8 v.ph) := heap_cell hX5.b rfl
  have e3 : W6.cell? ⟨wb, 3, none⟩ = some (.slice qyr v.grey.length qyc) := heap_cell hX5.b rfl
  have e5 : W6.cell? ⟨wb, 5, none⟩ = some (.int .i64 v.laid) := heap_cell hX5.b rfl
  obtain ⟨W7, hW7⟩ : ∃ W7, W7 = ((W6.setCell ⟨wb, 1, none⟩ (.int .u8 1)).setCell ⟨wb, 5, none⟩ (.int .i64 0)).setCell ⟨wb, 3, none⟩ (.slice none 0 0) := ⟨_, rfl⟩
  rw [← hW7] at hX7
  have HW7 : Hid (W7 = ((W6.setCell ⟨wb, 1, none⟩ (.int .u8 1)).setCell ⟨wb, 5, none⟩ (.int .i64 0)).setCell ⟨wb, 3, none⟩ (.slice none 0 0)) := hW7
  have HX7 : Hid (KX (zT W3) W7 wb ⟨qcr, qcc, none, 0, qgr, qgc, qlr, qlc⟩ (vA v 0) L) := hX7
  clear hX5 b5 hW6 hwb hX7 hW7 HE3 d0 d1 d2 d3 d4 d5 d6 l3 HOw HKp
  go_upto_region 5 with fail
  rw [HW6.out, HWB.out]
  clear HW6 HWB
  go_upto_region 8 with fail
  rw [← HW7.out]
  clear HW7 f6 lw e1 e3 e5
  have h300 : sl.length ≤ 300 := by omega
  have h60 : v.h.length ≤ 60 := by omega
  have h8 : v.lanes.length ≤ 8 := by omega
  clear g1 g2 g3 g4
  go_wp2
  go_loopw [7] (fun q wr => ∃ i : Nat, q = .int .i64 i ∧ i ≤ v.h.length ∧ Hid (KX (zT W3) wr wb ⟨qcr, qcc, none, 0, qgr, qgc, qlr, qlc⟩ (vA v i) L)) (fun q _ => v.h.length - (intOf q).toNat)
  case atStart => exact ⟨0, rfl, Nat.zero_le _, HX7⟩
  case round =>
    clear HX7
    obtain ⟨i, rfl, hi, HX⟩ := hrel
    have b0 : wr.cell? ⟨wb, 0, none⟩ = some (.slice qcr v.h.length qcc) := by
      have this : wr.cell? ⟨wb, 0, none⟩ = some (.slice qcr (vA v i).h.length qcc) := heap_cell HX.out.b rfl
      rw [show (vA v i).h.length = v.h.length from mp_len _ _ _] at this
      exact this
    have lw := heap_lt HX.out.b
    by_cases hlt : i < v.h.length
    · have i1 : (i : Int) < (v.h.length : Int) := by omega
      have i9 : (0 : Int) ≤ (i : Int) := by omega
      obtain ⟨x, hx⟩ : ∃ x, v.h[i]? = some x := ⟨_, List.getElem?_eq_getElem hlt⟩
      have hxa : (vA v i).h[i]? = some x := by show (mpN wh1 v.h i)[i]? = _; rw [mp_at]; exact hx
      obtain ⟨gc, cc, hsl, -, -⟩ := World.ownsRow.form HX.out.c (by rw [show (vA v i).h.length = v.h.length from mp_len _ _ _]; omega)
      have hcr : qcr = some ⟨gc, 0, none⟩ := (Value.slice.inj hsl).1
      have hcell := HX.out.c
      rw [show (⟨qcr, qcc, none, 0, qgr, qgc, qlr, qlc⟩ : Vp).cr = some ⟨gc, 0, none⟩ from hcr] at hcell
      obtain ⟨cs4, k1', _, _, _, _, _, k2'⟩ := own_out hcell
      have d1 : wr.cell? ⟨gc, i * 4 + 1, none⟩ = some (.int .u8 x.c) := heap_cell k1' (k2' _ _ (cl4_at _ i x hxa).2.1)
      have f1 : wr.frozen? ⟨gc, i * 4 + 1, none⟩ = false := by simp [World.frozen?, k1']
      have lgc := heap_lt k1'
      have hok := HX.out.ok x (List.mem_of_getElem? hxa)
      have hN := HX.out.turnC hxa hcr 0 ⟨hok.k, by show (0 : Int) ≤ 0 ∧ (0 : Int) ≤ 255; omega, hok.a, hok.b⟩
      have HN : Hid (KX (zT W3) (wr.setCell ⟨gc, i * 4 + 1, none⟩ (.int .u8 0)) wb ⟨qcr, qcc, none, 0, qgr, qgc, qlr, qlc⟩ (vA v (i + 1)) L) := by
        unfold vA at hN ⊢
        rw [mp_succ hx]
        exact hN
      subst hcr
      clear hN hcell k1' k2' hsl hok hxa hx HX
      go_wp2
      go_roundw
      case rel => exact ⟨i + 1, by go_num, by omega, HN⟩
      case measure => simp [intOf]; omega
    · obtain rfl : i = v.h.length := by omega
      have i1 : ¬ (v.h.length : Int) < (v.h.length : Int) := by omega
      have HXB : Hid (KX (zT W3) wr wb ⟨qcr, qcc, none, 0, qgr, qgc, qlr, qlc⟩ (vB v 0) L) := by
        have := HX.out
        unfold vA at this
        unfold vB
        rw [mp_all] at this
        rw [mp_zero]
        exact this
      clear HX
      go_wp2
      obtain ⟨wA, hwA⟩ : ∃ wA, wA = wr := ⟨_, rfl⟩
      rw [← hwA] at HXB b0 lw ⊢
      clear hwA b0 lw
      go_loopw [8] (fun q wr => ∃ (i : Nat) (L : List Lq), q = .int .i64 i ∧ i ≤ v.lanes.length ∧ Hid (KX (zT W3) wr wb ⟨qcr, qcc, none, 0, qgr, qgc, qlr, qlc⟩ (vB v i) L)) (fun q _ => v.lanes.length - (intOf q).toNat)
      case atStart => exact ⟨0, L, rfl, Nat.zero_le _, HXB⟩
      case round =>
        clear HXB
        obtain ⟨i, L, rfl, hi, HX⟩ := hrel
        have hlen : L.length = v.lanes.length := by
          have := congrArg List.length HX.out.e
          rw [List.length_map] at this
          rw [this]
          exact mp_len _ _ _
        have b6 : wr.cell? ⟨wb, 6, none⟩ = some (.slice qlr v.lanes.length qlc) := by
          have this : wr.cell? ⟨wb, 6, none⟩ = some (.slice qlr (vB v i).lanes.length qlc) := heap_cell HX.out.b rfl
          rw [show (vB v i).lanes.length = v.lanes.length from mp_len _ _ _] at this
          exact this
        have lw := heap_lt HX.out.b
        by_cases hlt : i < v.lanes.length
        · have i1 : (i : Int) < (v.lanes.length : Int) := by omega
          have i9 : (0 : Int) ≤ (i : Int) := by omega
          obtain ⟨t, ht⟩ : ∃ t, v.lanes[i]? = some t := ⟨_, List.getElem?_eq_getElem hlt⟩
          obtain ⟨q, hq⟩ : ∃ q, L[i]? = some q := ⟨_, List.getElem?_eq_getElem (by omega)⟩
          have hqx : q.x = t := by
            have h1 : (L.map Lq.x)[i]? = some q.x := by rw [List.getElem?_map, hq]; rfl
            rw [HX.out.e] at h1
            have h2 : (mpN ln1 v.lanes i)[i]? = some q.x := h1
            rw [mp_at, ht] at h2
            exact (Option.some.inj h2).symm
          obtain ⟨gl, cl, hvl, -, lgl⟩ := World.ownsRow.form HX.out.l (by omega)
          have hlr : qlr = some ⟨gl, 0, none⟩ := (Value.slice.inj hvl).1
          have ol := HX.out.l
          rw [show (⟨qcr, qcc, none, 0, qgr, qgc, qlr, qlc⟩ : Vp).lr = some ⟨gl, 0, none⟩ from hlr] at ol
          obtain ⟨-, m1, -⟩ := lq3_at L i q hq
          have r1 : wr.cell? ⟨gl, i * 3 + 1, none⟩ = some (.bool q.x.sc) := own_cell ol m1
          have z1 : wr.frozen? ⟨gl, i * 3 + 1, none⟩ = false := by
            obtain ⟨cs, h1, _⟩ := own_out ol
            exact fz_of h1 _
          have lgl := (ol.lt gl rfl).2
          have hN := HX.out.scanX hq hlr false
          have HN : Hid (∃ L, KX (zT W3) (wr.setCell ⟨gl, i * 3 + 1, none⟩ (.bool false)) wb ⟨qcr, qcc, none, 0, qgr, qgc, qlr, qlc⟩ (vB v (i + 1)) L) := by
            have hN2 : KX (zT W3) (wr.setCell ⟨gl, i * 3 + 1, none⟩ (.bool false)) wb ⟨qcr, qcc, none, 0, qgr, qgc, qlr, qlc⟩ (vB v (i + 1)) (L.set i ⟨q.ra, q.cc, ⟨q.x.roots, false, q.x.en⟩⟩) := by
              unfold vB at hN ⊢
              rw [mp_succ ht, ← hqx]
              exact hN
            exact ⟨_, hN2⟩
          subst hlr
          clear hN hvl ol m1 hqx hq ht HX hlen
          go_wp2
          go_roundw
          case rel =>
            obtain ⟨L', hL'⟩ := HN.out
            exact ⟨i + 1, L', by go_num, by omega, hL'⟩
          case measure => simp [intOf]; omega
        · obtain rfl : i = v.lanes.length := by omega
          have i1 : ¬ (v.lanes.length : Int) < (v.lanes.length : Int) := by omega
          have HXC : Hid (KX (zT W3) wr wb ⟨qcr, qcc, none, 0, qgr, qgc, qlr, qlc⟩ (vC v) L) := by
            have := HX.out
            unfold vB at this
            rw [mp_all] at this
            exact this
          have HTr : Hid (Tab wr) := tab_kx HTc.out (Nat.lt_of_lt_of_le HTl.out HBc.out.size) (Below.refl _ _) HXC.out
          have HBr : Hid (Bn (vC v) 1000) := vC_bn HBn.out
          have HVr : Hid (VL wr ⟨qcr, qcc, none, 0, qgr, qgc, qlr, qlc⟩ (vC v)) := by
            have hb := HBr.out
            refine HXC.out.vl ⟨by have := hb.h; omega, by show 0 ≤ _; omega, by have := hb.g; omega, by have := hb.l; omega, fun q hq => ?_⟩
            have := hb.r q.x (by rw [← HXC.out.e]; exact List.mem_map_of_mem hq)
            omega
          have HHo : Hid (Calls Tryd.prog 12 #[.agg #[.slice qcr v.h.length qcc, .int .u8 1, .int .i64 v.sw, .slice none 0 0, .slice qgr v.gl.length qgc, .int .i64 0, .slice qlr v.lanes.length qlc]] wr fun e w' => e = .returned (.tuple (if mayV (vC v) then #[.bool true, .int .i64 0, .int .i64 0] else #[.bool false, .int .i64 0, .int .i64 130])) ∧ Below wr.heap.size wr w') := by
            have h := holds_any _ _ wr HVr.out HTr.out (by have := HBr.out.h; omega)
            have e1 : (⟨qcr, qcc, none, 0, qgr, qgc, qlr, qlc⟩ : Vp).cells (vC v) = #[.slice qcr v.h.length qcc, .int .u8 1, .int .i64 v.sw, .slice none 0 0, .slice qgr v.gl.length qgc, .int .i64 0, .slice qlr v.lanes.length qlc] := by
              unfold Vp.cells vC
              dsimp only
              rw [List.length_map, List.length_map]
              rfl
            rw [e1] at h
            refine h.mono ?_
            rintro e w' ⟨rfl, hb⟩
            refine ⟨?_, hb⟩
            unfold hoE
            rw [vC_holds]
            cases mayV (vC v) <;> rfl
          have b0 : wr.cell? ⟨wb, 0, none⟩ = some (.slice qcr v.h.length qcc) := by
            have this : wr.cell? ⟨wb, 0, none⟩ = some (.slice qcr (vC v).h.length qcc) := heap_cell HXC.out.b rfl
            rw [show (vC v).h.length = v.h.length from List.length_map _] at this
            exact this
          have b1 : wr.cell? ⟨wb, 1, none⟩ = some (.int .u8 1) := heap_cell HXC.out.b rfl
          have b2 : wr.cell? ⟨wb, 2, none⟩ = some (.int .i64 v.sw) := heap_cell HXC.out.b rfl
          have b3 : wr.cell? ⟨wb, 3, none⟩ = some (.slice none 0 0) := heap_cell HXC.out.b rfl
          have b4 : wr.cell? ⟨wb, 4, none⟩ = some (.slice qgr v.gl.length qgc) := heap_cell HXC.out.b rfl
          have b5 : wr.cell? ⟨wb, 5, none⟩ = some (.int .i64 0) := heap_cell HXC.out.b rfl
          clear HX hlen HVr
          go_wp2_with fail
          refine Calls.mono HHo.out ?_
          rintro e w7 ⟨rfl, hb7⟩
          have HX7 : Hid (KX (zT W3) w7 wb ⟨qcr, qcc, none, 0, qgr, qgc, qlr, qlc⟩ (vC v) L) := HXC.out.below hb7
          have HT7 : Hid (Tab w7) := HTr.out.below hb7
          clear hb7 HXC HTr HHo b0 b1 b2 b3 b4 b5 b6 lw
          cases hm : mayV (vC v) with
          | false =>
            rw [if_neg (by decide)]
            go_wp2
            go_ret
            exact ⟨rfl, HBc.out.trans (HX7.out.bel.mono HBc.out.size)⟩
          | true =>
            rw [if_pos rfl]
            have HGd : Hid (Good (vC v)) := vC_may hm
            have HLv : Hid (Calls Tryd.prog 15 #[.pointer (some ⟨wb, 0, none⟩)] w7 fun e w' => (∃ g, e = .returned (.slice (some ⟨g, 0, none⟩) v.h.length v.h.length) ∧ TR w' g v.h.length (fun k => (orderM (vC v).h (rootsV (vC v))).contains k)) ∧ Below w7.heap.size w7 w') := by
              have h := live_any _ w7 wb _ (vC v) L 1000 HX7.out HGd.out HBr.out (by omega)
              rw [show (vC v).h.length = v.h.length from List.length_map _] at h
              exact h
            clear hm
            go_wp2_with fail
            refine Calls.mono HLv.out ?_
            rintro e w8 ⟨⟨gl, rfl, hd⟩, hb8⟩
            obtain ⟨A0, hA0⟩ : ∃ A0 : Nat → Bool, A0 = fun k => (orderM (vC v).h (rootsV (vC v))).contains k := ⟨_, rfl⟩
            rw [← hA0] at hd
            have HX8 : Hid (KX (zT W3) w8 wb ⟨qcr, qcc, none, 0, qgr, qgc, qlr, qlc⟩ (vC v) L ∧ Tab w8 ∧ TR w8 gl v.h.length A0) := ⟨HX7.out.below hb8, HT7.out.below hb8, hd⟩
            clear hd hb8 HX7 HT7 HLv
            go_wp2_with (at_make; refine stop_of ?_)
            unfold Hid
            refine wpList_make_full _ rfl _ _ 73 rfl w8.heap.size 4 i0 (.bool false) 1 Tryd.underlying73 hi0 hz0 hz1 .i64 .i64 _ _ v.h.length rfl rfl rfl rfl (by rw [hz2]; omega) (by unfold maxLen; omega) (Nat.le_refl _) ?_
            intro w9 hown9 hgr9
            have b9 : Below w8.heap.size w8 w9 := grown_low hgr9 (fun g hg => by cases hg) (Nat.le_refl _)
            have HD0 : Hid (Dst W3 w9 wb gl w8.heap.size v.h.length A0 1000) := by
              refine ⟨_, vC v, L, fun _ => false, HX8.out.1.below b9, HX8.out.2.1.below b9, HGd.out, HBr.out, List.length_map _, ?_, HX8.out.2.2.kept (b9.block _ HX8.out.2.2.lt), (row_made hown9 (false_made _)).mono (fun j u _ hu => hu)⟩
              rw [hA0]
              exact (vC_dead v).same (fun c => by simp) (fun c => by simp)
            have HGf : Hid (gl ≠ w8.heap.size ∧ W3.heap.size ≤ w8.heap.size) := ⟨Nat.ne_of_lt HX8.out.2.2.lt, HX8.out.1.bel.size⟩
            clear hown9 hgr9 b9 HX8 hA0 HGd HBr
            generalize w8.heap.size = gf at HD0 HGf ⊢
            go_wp2_with fail
            go_loopw [14, 15, 16, 17, 18] (fun j _ _ _ _ wr => ∃ k : Nat, j = .int .i64 k ∧ k ≤ sl.length ∧ Hid (Dst W3 wr wb gl gf v.h.length A0 (1000 + 2 * k))) (fun j _ _ _ _ _ => sl.length - (intOf j).toNat)
            case atStart => exact ⟨0, rfl, Nat.zero_le _, HD0⟩
            case round =>
              clear HD0
              obtain ⟨k, rfl, hk, HD⟩ := hrel
              by_cases hlt : k < sl.length
              · have i1 : (k : Int) < (sl.length : Int) := by omega
                have i9 : (0 : Int) ≤ (k : Int) := by omega
                obtain ⟨p2, v2, L2, f, X2, T2, G2, B2, e2, D2, t1, t2⟩ := HD.out
                have HX2 : Hid (KX (zT W3) wr wb p2 v2 L2 ∧ TR wr gl v.h.length A0 ∧ TR wr gf v.h.length f) := ⟨X2, t1, t2⟩
                have HM2 : Hid (Tab wr ∧ Good v2 ∧ Bn v2 (1000 + 2 * k) ∧ v2.h.length = v.h.length ∧ Dd v2 (fun c => A0 c = true ∨ f c = true) (fun c => f c = true)) := ⟨T2, G2, B2, e2, D2⟩
                clear X2 T2 G2 B2 D2 t1 t2 e2 HD
                go_wp2_with fail
                obtain ⟨wA, hwA⟩ : ∃ wA, wA = wr := ⟨_, rfl⟩
                rw [← hwA] at HX2 HM2 ⊢
                clear hwA
                go_loopw [15, 16] (fun x j wr => ∃ q : Nat, j = .int .i64 q ∧ q ≤ v.h.length ∧ Hid (Below wA.heap.size wA wr ∧ wr.ownsRow wA.heap.size 4 1 x q ((List.range q).map (fun c => .bool (fkB v2 c))))) (fun _ j _ => v.h.length - (intOf j).toNat)
                case atStart => exact ⟨0, rfl, Nat.zero_le _, Below.refl _ _, World.ownsRow_nil _ _ _ _⟩
                case round =>
                  obtain ⟨q, rfl, hq, HQ⟩ := hrel
                  by_cases hlq : q < v.h.length
                  · have j1 : (q : Int) < (v.h.length : Int) := by omega
                    have j0 : (0 : Int) ≤ (q : Int) := by omega
                    obtain ⟨y, hy⟩ : ∃ y, v2.h[q]? = some y := ⟨_, List.getElem?_eq_getElem (by rw [HM2.out.2.2.2.1]; exact hlq)⟩
                    have X3 := HX2.out.1.below HQ.out.1
                    obtain ⟨gc, cc, hvc, -, -⟩ := World.ownsRow.form X3.c (by rw [HM2.out.2.2.2.1]; omega)
                    have hpc : p2.cr = some ⟨gc, 0, none⟩ := (Value.slice.inj hvc).1
                    have f0 : wr.cell? ⟨wb, 0, none⟩ = some (.slice (some ⟨gc, 0, none⟩) v.h.length p2.cc) := by
                      rw [← HM2.out.2.2.2.1, ← hpc]
                      exact heap_cell X3.b rfl
                    have oc := X3.c
                    rw [hpc] at oc
                    obtain ⟨y0, -, -, -⟩ := cl4_at v2.h q y hy
                    have d0 : wr.cell? ⟨gc, q * 4, none⟩ = some (.int .u8 y.k) := own_cell oc y0
                    have lwb := heap_lt X3.b
                    have lgc := (oc.lt gc rfl).2
                    clear oc y0 hvc hpc X3
                    have HA : Hid (∀ (o : Obj) (u1 : Value) (w1 : World) (bq : Bool), fkB v2 q = bq → w1.ownsRow wA.heap.size 4 1 u1 (q + 1) ((List.range q).map (fun c => .bool (fkB v2 c)) ++ [.bool bq]) → (wr.alloc o).grownBy w1 u15.ownBlock → Below wA.heap.size wA w1 ∧ w1.ownsRow wA.heap.size 4 1 u1 (q + 1) ((List.range (q + 1)).map (fun c => .bool (fkB v2 c)))) := fun o u1 w1 bq hb h1 h2 => by
                      refine ⟨(HQ.out.1.alloc HQ.out.1.size _).grown h2 (by rw [World.size_alloc]; have := HQ.out.1.size; omega) (fun g hg => (HQ.out.2.lt g hg).1), ?_⟩
                      rw [List.range_succ, List.map_append]
                      show w1.ownsRow _ _ _ _ _ (_ ++ [.bool (fkB v2 q)])
                      rw [hb]
                      exact h1
                    by_cases hk0 : y.k = 0
                    · have hbq : fkB v2 q = true := by unfold fkB; rw [hy]; simpa using hk0
                      rw [hk0] at d0
                      go_wp2_with (at_builtin; refine wpList_append_told _ rfl _ _ 73 rfl wA.heap.size 4 i0 (.bool false) 1 1 Tryd.underlying73 hi0 hz0 hz1 hz2 rfl (by decide) u15 q ((List.range q).map (fun c => .bool (fkB v2 c))) rfl (HQ.out.2.alloc _) _ 1 1 [.bool true] rfl rfl (cell_one_new _ _ _) (bool_one _) (by unfold maxLen; omega) (by omega) (by rw [World.size_alloc]; have := HQ.out.1.size; omega) (by decide) ?_; intro v1 w1 hown1 hgrow1 hold1 hw1)
                      have HA1 : Hid _ := HA.out _ _ _ _ hbq hown1 hgrow1
                      clear hown1 hgrow1 hold1 hw1 HA HQ f0 d0 lwb lgc
                      go_wp2_with fail
                      go_roundw
                      case rel => exact ⟨q + 1, by go_num, by omega, HA1⟩
                      case measure => simp [intOf]; omega
                    · have hbq : fkB v2 q = false := by unfold fkB; rw [hy]; simpa using hk0
                      have m0 : (y.k == 0) = false := by simpa using hk0
                      go_wp2_with (at_builtin; refine wpList_append_told _ rfl _ _ 73 rfl wA.heap.size 4 i0 (.bool false) 1 1 Tryd.underlying73 hi0 hz0 hz1 hz2 rfl (by decide) u15 q ((List.range q).map (fun c => .bool (fkB v2 c))) rfl (HQ.out.2.alloc _) _ 1 1 [.bool false] rfl rfl (cell_one_new _ _ _) (bool_one _) (by unfold maxLen; omega) (by omega) (by rw [World.size_alloc]; have := HQ.out.1.size; omega) (by decide) ?_; intro v1 w1 hown1 hgrow1 hold1 hw1)
                      have HA1 : Hid _ := HA.out _ _ _ _ hbq hown1 hgrow1
                      clear hown1 hgrow1 hold1 hw1 HA HQ f0 d0 lwb lgc
                      go_wp2_with fail
                      go_roundw
                      case rel => exact ⟨q + 1, by go_num, by omega, HA1⟩
                      case measure => simp [intOf]; omega
                  · obtain rfl : q = v.h.length := by omega
                    have j1 : ¬ (v.h.length : Int) < (v.h.length : Int) := by omega
                    obtain ⟨r15, c15, rfl⟩ : ∃ r15 c15, u15 = .slice r15 v.h.length c15 := by
                      rcases HQ.out.2.2 with ⟨h1, h2⟩ | ⟨g, cap, cur, hv, _⟩
                      · refine ⟨none, 0, ?_⟩
                        rw [h1, h2]
                        try rfl
                      · exact ⟨_, cap, hv⟩
                    have HZ : Hid (KX (zD W3 wA.heap.size gl gf v.h.length A0 f (.slice r15 v.h.length c15) (fkB v2)) wr wb p2 v2 L2 ∧ Tab wr) := ⟨(HX2.out.1.below HQ.out.1).re _ rfl ⟨HX2.out.2.1.kept (HQ.out.1.block _ HX2.out.2.1.lt), HX2.out.2.2.kept (HQ.out.1.block _ HX2.out.2.2.lt), HQ.out.2⟩, HM2.out.1.below HQ.out.1⟩
                    have hbw : Below w.heap.size w wr := HBc.out.trans ((HX2.out.1.below HQ.out.1).bel.mono HBc.out.size)
                    obtain ⟨sb, so, hor, hcs⟩ := HS.out.below hbw
                    have hrs : rs = some ⟨sb, so, none⟩ := hor.resolve_left (by omega)
                    obtain ⟨x, hx⟩ : ∃ x, sl[k]? = some x := ⟨_, List.getElem?_eq_getElem hlt⟩
                    obtain ⟨q0, q1, q2, q3, q4, q5, m1, m2, m3, m4, m5⟩ := hcs k x hx
                    have HSt : Hid (Calls Tryd.prog 14 #[.pointer (some ⟨wb, 0, none⟩), .agg #[.int .i64 x.k, .int .i64 x.w, .int .i64 x.a, .int .i64 x.b, .int .i64 x.c]] wr fun e w' => e = .returned (.bool true) ∧ ∃ (p3 : Vp) (v3 : Vw) (L3 : List Lq), KX (zD W3 wA.heap.size gl gf v.h.length A0 f (.slice r15 v.h.length c15) (fkB v2)) w' wb p3 v3 L3 ∧ Tab w' ∧ Mvs v2 v3) := by
                      refine (step_any _ wr wb p2 v2 L2 (1000 + 2 * k) x.k x.w x.a x.b x.c HZ.out.1 HZ.out.2 (Nat.lt_of_lt_of_le HTl.out HBc.out.size) HM2.out.2.1 HM2.out.2.2.1 ⟨by omega, by omega⟩ m2 m3 m4 m5).mono ?_
                      rintro e w' ⟨rfl, p3, v3, L3, X3, hm⟩
                      exact ⟨rfl, p3, v3, L3, X3, tab_kx HZ.out.2 (Nat.lt_of_lt_of_le HTl.out HBc.out.size) HZ.out.1.bel X3, hm⟩
                    have HS0 : Hid (gf < wA.heap.size) := HX2.out.2.2.lt
                    clear hcs hor hx hbw m1 m2 m3 m4 m5 HZ HQ HX2
                    subst hrs
                    go_wp2_with fail
                    refine Calls.mono HSt.out ?_
                    rintro e w7 ⟨rfl, p3, v3, L3, X3, T3, m3⟩
                    have HN : Hid (Tab w7 ∧ Good v3 ∧ Bn v3 (1000 + 2 * (k + 1)) ∧ v3.h.length = v.h.length ∧ Dd v3 (fun c => A0 c = true ∨ frB v2 v3 f c = true) (fun c => frB v2 v3 f c = true)) := ⟨T3, HM2.out.2.1.mvs m3, HM2.out.2.2.1.mvs (by omega) m3, (mvs_len m3).trans HM2.out.2.2.2.1, dead_next m3 HM2.out.2.1 HM2.out.2.2.2.2⟩
                    have HY : Hid (KX (zD W3 wA.heap.size gl gf v.h.length A0 (frK v2 v3 f 0) (.slice r15 v.h.length c15) (fkB v2)) w7 wb p3 v3 L3) := X3
                    clear X3 T3 m3 HM2 HSt q0 q1 q2 q3 q4 q5
                    go_wp2_with fail
                    generalize wA.heap.size = S0 at HY HS0
                    go_loopw [18] (fun j wr => ∃ q : Nat, j = .int .i64 q ∧ q ≤ v.h.length ∧ Hid (KX (zD W3 S0 gl gf v.h.length A0 (frK v2 v3 f q) (.slice r15 v.h.length c15) (fkB v2)) wr wb p3 v3 L3)) (fun j _ => v.h.length - (intOf j).toNat)
                    case atStart => exact ⟨0, rfl, Nat.zero_le _, HY⟩
                    case round =>
                      clear HY
                      obtain ⟨q, rfl, hq, HY⟩ := hrel
                      by_cases hlq : q < v.h.length
                      · have j1 : (q : Int) < (v.h.length : Int) := by omega
                        have j0 : (0 : Int) ≤ (q : Int) := by omega
                        obtain ⟨y, hy⟩ : ∃ y, v3.h[q]? = some y := ⟨_, List.getElem?_eq_getElem (by rw [HN.out.2.2.2.1]; exact hlq)⟩
                        obtain ⟨gc, cc, hvc, -, -⟩ := World.ownsRow.form HY.out.c (by rw [HN.out.2.2.2.1]; omega)
                        have hpc : p3.cr = some ⟨gc, 0, none⟩ := (Value.slice.inj hvc).1
                        have f0 : wr.cell? ⟨wb, 0, none⟩ = some (.slice (some ⟨gc, 0, none⟩) v.h.length p3.cc) := by
                          rw [← HN.out.2.2.2.1, ← hpc]
                          exact heap_cell HY.out.b rfl
                        have oc := HY.out.c
                        rw [hpc] at oc
                        obtain ⟨y0, -, -, -⟩ := cl4_at v3.h q y hy
                        have d0 : wr.cell? ⟨gc, q * 4, none⟩ = some (.int .u8 y.k) := own_cell oc y0
                        have lwb := heap_lt HY.out.b
                        have lgc := (oc.lt gc rfl).2
                        obtain ⟨P1, P2, P3⟩ := HY.out.bz
                        obtain ⟨a1, a2, a3⟩ := P2.at hlq
                        rw [show frK v2 v3 f q q = f q from if_neg (Nat.lt_irrefl _)] at a1
                        obtain ⟨gq, cq, hvq, -, -⟩ := World.ownsRow.form P3 (by omega)
                        have hrq : r15 = some ⟨gq, 0, none⟩ := (Value.slice.inj hvq).1
                        rw [hrq] at P3
                        have d1 : wr.cell? ⟨gq, q, none⟩ = some (.bool (fkB v2 q)) := own_cell P3 (by rw [List.getElem?_map, List.getElem?_range hlq]; rfl)
                        have lgq := (P3.lt gq rfl).2
                        have HW : Hid (∀ b : Bool, (f q || (fkB v2 q && kB v3 q)) = b → KX (zD W3 S0 gl gf v.h.length A0 (frK v2 v3 f (q + 1)) (.slice r15 v.h.length c15) (fkB v2)) (wr.setCell ⟨gf, q, none⟩ (.bool b)) wb p3 v3 L3) := fun b hb => HY.out.fresh HGf.out.1 HGf.out.2 HS0.out q b (fun c => by rw [frK_succ, hb])
                        have hkb : kB v3 q = !decide (y.k = 0) := by unfold kB; rw [hy]
                        generalize kB v3 q = b3 at HW hkb
                        generalize f q = b1 at HW a1
                        generalize fkB v2 q = b2 at HW d1
                        subst hrq
                        clear oc y0 hvc hpc P1 P2 P3 hvq HY hy
                        cases b1 with
                        | true =>
                          have HW1 : Hid _ := HW.out true rfl
                          clear HW hkb
                          go_wp2_with fail
                          go_roundw
                          case rel => exact ⟨q + 1, by go_num, by omega, HW1⟩
                          case measure => simp [intOf]; omega
                        | false =>
                          cases b2 with
                          | false =>
                            have HW1 : Hid _ := HW.out false rfl
                            clear HW hkb
                            go_wp2_with fail
                            go_roundw
                            case rel => exact ⟨q + 1, by go_num, by omega, HW1⟩
                            case measure => simp [intOf]; omega
                          | true =>
                            by_cases hk0 : y.k = 0
                            · have HW1 : Hid _ := HW.out false (by rw [hkb]; simp [hk0])
                              rw [hk0] at d0
                              clear HW hkb
                              go_wp2_with fail
                              go_roundw
                              case rel => exact ⟨q + 1, by go_num, by omega, HW1⟩
                              case measure => simp [intOf]; omega
                            · have HW1 : Hid _ := HW.out true (by rw [hkb]; simp [hk0])
                              have n1 : (y.k != 0) = true := by simpa using hk0
                              have n2 : (y.k == 0) = false := by simpa using hk0
                              clear HW hkb
                              go_wp2_with fail
                              go_roundw
                              case rel => exact ⟨q + 1, by go_num, by omega, HW1⟩
                              case measure => simp [intOf]; omega
                      · obtain rfl : q = v.h.length := by omega
                        have j1 : ¬ (v.h.length : Int) < (v.h.length : Int) := by omega
                        have HDn : Hid (Dst W3 wr wb gl gf v.h.length A0 (1000 + 2 * (k + 1))) := by
                          obtain ⟨P1, P2, P3⟩ := HY.out.bz
                          have X4 : KX (zT W3) wr wb p3 v3 L3 := HY.out.re (zT W3) rfl trivial
                          exact ⟨p3, v3, L3, frB v2 v3 f, X4, tab_kx HTc.out (Nat.lt_of_lt_of_le HTl.out HBc.out.size) (Below.refl _ _) X4, HN.out.2.1, HN.out.2.2.1, HN.out.2.2.2.1, HN.out.2.2.2.2, P1, P2.eqN (fun c hc => frK_all hc)⟩
                        clear HY HN
                        go_wp2_with fail
                        go_roundw
                        case rel => exact ⟨k + 1, by go_num, by omega, HDn⟩
                        case measure => simp [intOf]; omega
              · obtain rfl : k = sl.length := by omega
                have i1 : ¬ (sl.length : Int) < (sl.length : Int) := by omega
                obtain ⟨p2, v2, L2, f, X2, -, -, -, e2, D2, t1, t2⟩ := HD.out
                have HX2 : Hid (KX (zT W3) wr wb p2 v2 L2 ∧ TR wr gl v.h.length A0 ∧ TR wr gf v.h.length f) := ⟨X2, t1, t2⟩
                have HDe : Hid (v2.h.length = v.h.length ∧ ∀ (c : Nat) (x : Cl), v2.h[c]? = some x → (f c = true → x.c = 2) ∧ (f c = false → A0 c = false → x.k ≠ 0 → x.c = 0)) := ⟨e2, fun c x hx => dead_end D2 hx⟩
                clear X2 D2 t1 t2 e2 HD
                go_wp2_with fail
                obtain ⟨wA, hwA⟩ : ∃ wA, wA = wr := ⟨_, rfl⟩
                rw [← hwA] at HX2 ⊢
                clear hwA
                go_loopw [19, 20] (fun j _ wr => ∃ q : Nat, j = .int .i64 q ∧ q ≤ v.h.length ∧ Hid (Below wA.heap.size wA wr)) (fun j _ _ => v.h.length - (intOf j).toNat)
                case atStart => exact ⟨0, rfl, Nat.zero_le _, Below.refl _ _⟩
                case round =>
                  obtain ⟨q, rfl, hq, HQ⟩ := hrel
                  by_cases hlq : q < v.h.length
                  · have j1 : (q : Int) < (v.h.length : Int) := by omega
                    have j0 : (0 : Int) ≤ (q : Int) := by omega
                    obtain ⟨y, hy⟩ : ∃ y, v2.h[q]? = some y := ⟨_, List.getElem?_eq_getElem (by rw [HDe.out.1]; exact hlq)⟩
                    have X3 := HX2.out.1.below HQ.out
                    obtain ⟨gc, cc, hvc, -, -⟩ := World.ownsRow.form X3.c (by rw [HDe.out.1]; omega)
                    have hpc : p2.cr = some ⟨gc, 0, none⟩ := (Value.slice.inj hvc).1
                    have f0 : wr.cell? ⟨wb, 0, none⟩ = some (.slice (some ⟨gc, 0, none⟩) v.h.length p2.cc) := by
                      rw [← HDe.out.1, ← hpc]
                      exact heap_cell X3.b rfl
                    have oc := X3.c
                    rw [hpc] at oc
                    obtain ⟨y0, y1, y2, y3⟩ := cl4_at v2.h q y hy
                    have d0 : wr.cell? ⟨gc, q * 4, none⟩ = some (.int .u8 y.k) := own_cell oc y0
                    have d1 : wr.cell? ⟨gc, q * 4 + 1, none⟩ = some (.int .u8 y.c) := own_cell oc y1
                    have d2 : wr.cell? ⟨gc, q * 4 + 2, none⟩ = some (.int .u64 y.a) := own_cell oc y2
                    have d3 : wr.cell? ⟨gc, q * 4 + 3, none⟩ = some (.int .u64 y.b) := own_cell oc y3
                    have lwb := heap_lt X3.b
                    have lgc := (oc.lt gc rfl).2
                    have hde := HDe.out.2 q y hy
                    obtain ⟨W1, hW1⟩ : ∃ W1, wr.alloc (.cells #[.int .u8 y.k, .int .u8 y.c, .int .u64 y.a, .int .u64 y.b] 59) = W1 := ⟨_, rfl⟩
                    have HB1 : Hid (Below wA.heap.size wA W1) := by
                      rw [← hW1]
                      exact HQ.out.alloc HQ.out.size _
                    have hn1 : W1.heap[wr.heap.size]? = some (.cells #[.int .u8 y.k, .int .u8 y.c, .int .u64 y.a, .int .u64 y.b] 59 (0, 0)) := by
                      rw [← hW1]
                      exact heap_alloc_new _ _
                    have c0 : W1.cell? ⟨wr.heap.size, 0, none⟩ = some (.int .u8 y.k) := heap_cell hn1 rfl
                    have c1 : W1.cell? ⟨wr.heap.size, 1, none⟩ = some (.int .u8 y.c) := heap_cell hn1 rfl
                    have lc := heap_lt hn1
                    have HW1 : Hid _ := hW1
                    have g0 : W1.cell? ⟨gf, q, none⟩ = some (.bool (f q)) ∧ gf < W1.heap.size ∧ W1.frozen? ⟨gf, q, none⟩ = false := (HX2.out.2.2.kept (HB1.out.block _ HX2.out.2.2.lt)).at hlq
                    have g1 : W1.cell? ⟨gl, q, none⟩ = some (.bool (A0 q)) ∧ gl < W1.heap.size ∧ W1.frozen? ⟨gl, q, none⟩ = false := (HX2.out.2.1.kept (HB1.out.block _ HX2.out.2.1.lt)).at hlq
                    obtain ⟨g0, g2, -⟩ := g0
                    obtain ⟨g1, g3, -⟩ := g1
                    generalize f q = b1 at g0 hde
                    generalize A0 q = b2 at g1 hde
                    clear oc y0 y1 y2 y3 hvc hpc X3 hy hn1 hW1
                    go_upto_region 42 with fail
                    rw [HW1.out]
                    clear HW1 f0 d0 d1 d2 d3 lwb lgc
                    generalize wr.heap.size = cb at c0 c1 lc ⊢
                    cases b1 with
                    | true =>
                      rw [hde.1 rfl] at c1
                      clear hde
                      go_wp2_with fail
                      go_roundw
                      case rel => exact ⟨q + 1, by go_num, by omega, HB1⟩
                      case measure => simp [intOf]; omega
                    | false =>
                      cases b2 with
                      | true =>
                        clear hde
                        go_wp2_with fail
                        go_roundw
                        case rel => exact ⟨q + 1, by go_num, by omega, HB1⟩
                        case measure => simp [intOf]; omega
                      | false =>
                        by_cases hk0 : y.k = 0
                        · rw [hk0] at c0
                          clear hde
                          go_wp2_with fail
                          go_roundw
                          case rel => exact ⟨q + 1, by go_num, by omega, HB1⟩
                          case measure => simp [intOf]; omega
                        · rw [hde.2 rfl rfl hk0] at c1
                          have n1 : (y.k != 0) = true := by simpa using hk0
                          have n2 : (y.k == 0) = false := by simpa using hk0
                          clear hde
                          go_wp2_with fail
                          go_roundw
                          case rel => exact ⟨q + 1, by go_num, by omega, HB1⟩
                          case measure => simp [intOf]; omega
                  · obtain rfl : q = v.h.length := by omega
                    have j1 : ¬ (v.h.length : Int) < (v.h.length : Int) := by omega
                    have HFn : Hid (Below w.heap.size w wr) := HBc.out.trans ((HX2.out.1.below HQ.out).bel.mono HBc.out.size)
                    clear HX2 HDe HQ
                    go_wp2_with fail
                    go_ret
                    exact ⟨rfl, HFn.out⟩
end Go.Proofs.YtomdbcddokaagaaDoor
