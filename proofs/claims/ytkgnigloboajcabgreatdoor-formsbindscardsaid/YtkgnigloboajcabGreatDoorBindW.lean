/- FormsBinds. -/
import Derived.Test.YtkgnigloboajcabGreatDoorBindN
import Derived.Test.YtkgnigloboajcabGreatDoorRKey
namespace Go.Proofs.YtkgnigloboajcabGreatDoor
open Go.RowKit

/-- What the law says of a lambda of all names that a form uses. -/
def LamOk (g : Frm) : Prop := FOk g ∧ g.kids.oks ∧ (g.fm .nil).wt ≤ 900000 ∧ ((backM g).2 = 0 ∨ (backM g).2 = 70) ∧ ((backM g).2 = 0 → usesM g = [])
/-- What a form's names are. -/
structure NmsOk (f : Frm) (n : List (List UInt8)) : Prop where
  ok : ∀ x ∈ n, nmOk x
  nd : n.Nodup
  df : f.kind = 5 → ∃ l, n = f.text :: l
  lm : f.kind ≠ 5 → LamOk ⟨4, [], n, f.fm .nil, dt0⟩
theorem nms_ok {f : Frm} (ha : f.am ≤ 200000) (h : (backM f).2 = 0) : NmsOk f (usesM f) := by
  obtain ⟨hF, hO, _⟩ := Frm.am_ok ha (Nat.le_refl _)
  refine ⟨uses_ok h hF hO, uses_nodup f, uses_def h, fun hk => ?_⟩
  obtain ⟨h1, h2, h3, _⟩ := lam_ok h ha (Nat.le_refl _)
  exact ⟨h1, h2, h3, lam_back h hk hF hO, fun hl => lam_uses h hl⟩
/-- The law's names when nothing may be used. -/
theorem uses_bad {f : Frm} (h : (backM f).2 ≠ 0) : usesM f = [] := by unfold usesM; rw [if_pos h]

set_option maxRecDepth 100000 in
set_option maxHeartbeats 8000000 in
theorem formsBinds_walk (f : Frm) (nr kr dr : Option Addr) (nc kc dc : Nat) (w : World) (hR : RFo w f nr kr dr) (hS : f.SL) (hkc : f.kids.len ≤ kc) (hE : Env w) :
    Calls Tryz.prog 3 #[frmV f (.slice nr f.names.length nc) (.slice kr f.kids.len kc) (.slice dr f.dat.s.len dc)] w fun e w' => e = .returned (.bool true) ∧ Below w.heap.size w w' := by
  obtain ⟨W1, hW1⟩ : ∃ W1, w.alloc (Z9 f (.slice nr f.names.length nc) (.slice kr f.kids.len kc) (.slice dr f.dat.s.len dc)) = W1 := ⟨_, rfl⟩
  have a1 := (Below.refl _ w).alloc (Nat.le_refl w.heap.size) (Z9 f (.slice nr f.names.length nc) (.slice kr f.kids.len kc) (.slice dr f.dat.s.len dc))
  have q0 := World.alloc_heap_new w (Z9 f (.slice nr f.names.length nc) (.slice kr f.kids.len kc) (.slice dr f.dat.s.len dc))
  rw [hW1] at a1 q0
  have HOf : Hid (Calls Tryz.prog 4 #[frmV f (.slice nr f.names.length nc) (.slice kr f.kids.len kc) (.slice dr f.dat.s.len dc)] W1 fun e w' => (∃ v : Nat, e = .returned (.int .i64 v) ∧ v ≤ 1000000000000000 ∧ (v ≤ 2147483647 → v = f.am)) ∧ Below W1.heap.size W1 w') := ofForm_any f nr kr dr nc kc dc W1 (hR.below a1) hS
  have HB1 : Hid (Below w.heap.size w W1) := a1
  have HQ1 : Hid _ := q0
  have HR : Hid (RFo w f nr kr dr) := hR
  have HE : Hid (Env w) := hE
  have HK : Hid (f.kids.len ≤ kc) := hkc
  obtain ⟨⟨z0, z1, z2, z3, z4, z5, z6, z7, z8⟩, _⟩ := cells9 q0
  clear hR hS hkc hE a1 q0
  go_enter Tryz.func3, Tryz.ntmps3
  go_upto_region 1 with fail
  clear hW1
  obtain ⟨bq, hbq⟩ : ∃ b, w.heap.size = b := ⟨_, rfl⟩
  rw [hbq] at HQ1 z0 z1 z2 z3 z4 z5 z6 z7 z8 ⊢
  clear hbq
  go_wp2_with fail
  refine HOf.out.mono ?_
  rintro e w2 ⟨⟨v, rfl, hv1, hv2⟩, hb2⟩
  have HB2 : Hid (Below w.heap.size w w2) := HB1.out.trans (hb2.mono HB1.out.size)
  have HQ2 : Hid _ := (hb2.block _ (Array.getElem?_eq_some_iff.1 HQ1.out).1).trans HQ1.out
  have HV : Hid (v ≤ 2147483647 → v = f.am) := hv2
  clear hb2 hv2 z0 z1 z2 z3 z4 z5 z6 z7 z8 HOf
  by_cases hbig : 200000 < v
  · have hbig' : (200000 : Int) < (v : Int) := by omega
    go_wp2
    go_ret
    exact ⟨rfl, HB2.out⟩
  have hbig' : ¬ (200000 : Int) < (v : Int) := by omega
  have HA : Hid (f.am ≤ 200000) := by have := HV.out (by omega); show f.am ≤ 200000; omega
  have HEw : ∀ {W : World}, Below w.heap.size w W → Env W := fun hb => HE.out.below hb
  have HEW : Hid (∀ W : World, Below w.heap.size w W → Env W) := fun W hb => HEw hb
  have HRW : Hid (∀ W : World, Below w.heap.size w W → RFo W f nr kr dr) := fun W hb => HR.out.below hb
  clear HEw
  go_wp2_with fail
  refine (known_any w2 (HEW.out _ HB2.out)).mono ?_
  rintro e w3 ⟨rfl, hb3⟩
  have HB3 : Hid (Below w.heap.size w w3) := HB2.out.trans (hb3.mono HB2.out.size)
  have HQ3 : Hid _ := (hb3.block _ (Array.getElem?_eq_some_iff.1 HQ2.out).1).trans HQ2.out
  clear hb3 hv1 hbig hbig'
  obtain ⟨⟨z0, z1, z2, z3, z4, z5, z6, z7, z8⟩, _⟩ := cells9 HQ3.out
  have HFO : Hid (FOk f ∧ f.kids.oks ∧ (f.fm .nil).wt ≤ 900000) := Frm.am_ok HA.out (Nat.le_refl _)
  go_wp2_with fail
  refine (fcheck_any f nr kr dr nc kc dc w3 HFO.out.1 HFO.out.2.1 (HRW.out _ HB3.out) HK.out (HEW.out _ HB3.out) HFO.out.2.2).mono ?_
  rintro e w4 ⟨rfl, hb4⟩
  have HB4 : Hid (Below w.heap.size w w4) := HB3.out.trans (hb4.mono HB3.out.size)
  have HQ4 : Hid _ := (hb4.block _ (Array.getElem?_eq_some_iff.1 HQ3.out).1).trans HQ3.out
  clear hb4 z0 z1 z2 z3 z4 z5 z6 z7 z8
  obtain ⟨⟨z0, z1, z2, z3, z4, z5, z6, z7, z8⟩, _⟩ := cells9 HQ4.out
  go_wp2_with fail
  refine (fnames_any f nr kr dr nc kc dc w4 HFO.out.1 HFO.out.2.1 (HRW.out _ HB4.out) HK.out (HEW.out _ HB4.out) HFO.out.2.2).mono ?_
  rintro e w5 ⟨v5, rfl, ho5, hb5⟩
  obtain ⟨rn, cn, rfl, hrn, hcn, hln⟩ := own_rnc ho5
  have HB5 : Hid (Below w.heap.size w w5) := HB4.out.trans (hb5.mono HB4.out.size)
  have HQ5 : Hid _ := (hb5.block _ (Array.getElem?_eq_some_iff.1 HQ4.out).1).trans HQ4.out
  have HBAD : Hid ((backM f).2 ≠ 0 → usesM f = []) := uses_bad
  have HOK : Hid ((backM f).2 = 0 → NmsOk f (usesM f)) := nms_ok HA.out
  obtain ⟨n, hn⟩ : ∃ n, usesM f = n := ⟨_, rfl⟩
  obtain ⟨y, hy⟩ : ∃ y, (backM f).2 = y := ⟨_, rfl⟩
  rw [hn] at hrn hcn hln HBAD HOK ⊢
  rw [hy] at HBAD HOK ⊢
  have HRN : Hid (RX S w5 rn n) := hrn.rx
  have HRNN : Hid (RN w5 rn n) := hrn
  have HLN : Hid (n.length ≤ maxLen) := hln
  clear hb5 z0 z1 z2 z3 z4 z5 z6 z7 z8 ho5 hrn hn hy
  by_cases h0 : y = 0
  case neg =>
    have b0 : (y != 0) = true := by simpa using h0
    have e0 : n = [] := HBAD.out h0
    subst e0
    clear h0 HBAD HOK
    go_wp2_with fail
    go_ret
    exact ⟨rfl, HB5.out⟩
  subst h0
  have HN : Hid (NmsOk f n) := HOK.out rfl
  unfold maxLen at hln
  clear HBAD HOK
  go_upto_region 9 with fail
  go_loopw [6] (fun v wr => ∃ j : Nat, v = .int .i64 j ∧ j ≤ n.length ∧ Hid (Below w5.heap.size w5 wr)) (fun v _ => n.length - (intOf v).toNat)
  case atStart => exact ⟨0, rfl, Nat.zero_le _, Below.refl _ _⟩
  case round =>
    obtain ⟨j, rfl, hj, HBj⟩ := hrel
    have HBW : Hid (Below w.heap.size w wr) := HB5.out.trans (HBj.out.mono HB5.out.size)
    by_cases hlt : j < n.length
    · have i1 : (j : Int) < (n.length : Int) := by omega
      have i0 : ¬ (j : Int) < 0 := by omega
      obtain ⟨x, hx⟩ : ∃ x, n[j]? = some x := ⟨_, List.getElem?_eq_getElem hlt⟩
      have hok := HN.out.ok x (List.mem_of_getElem? hx)
      obtain ⟨b, o, h1, h2⟩ := RX.at HRN.out
      have hra := h1 (by omega)
      subst hra
      obtain ⟨hb, hc⟩ := h2 j x hx
      have c0 : wr.cell? ⟨b, o + j, none⟩ = some (S x) := (HBj.out.cell (p := ⟨b, o + j, none⟩) hb).trans hc
      have HC5 : Hid (b < w5.heap.size ∧ w5.cell? ⟨b, o + j, none⟩ = some (S x)) := ⟨hb, hc⟩
      have HX : Hid (x ∉ n.take j) := nodup_take HN.out.nd hx
      have hxl : x.length ≤ maxLen := by have := hok.2.2; unfold maxLen; omega
      have HP : Hid (Calls Tryz.prog 8 #[S x] wr fun e w' => e = .returned (.tuple #[.int .u8 0, .int .i64 0, .bool false]) ∧ Below wr.heap.size wr w') := by
        have := prim_any x wr hxl (HEW.out _ HBW.out).pl
        rw [hok.1] at this
        exact this
      have HKY : Hid (∀ W : World, Calls Tryz.prog 10 #[S x] W fun e w' => e = .returned (.bool false) ∧ Below W.heap.size W w') := fun W => by
        have := rkey_any x W hxl
        rwa [nmOk_key hok] at this
      clear hx hok h1 h2 hb hc hxl
      go_wp2_with fail
      refine HP.out.mono ?_
      rintro e w6 ⟨rfl, hb6⟩
      have HB6 : Hid (Below w5.heap.size w5 w6) := HBj.out.trans (hb6.mono HBj.out.size)
      clear hb6 c0 HP
      have c0 : w6.cell? ⟨b, o + j, none⟩ = some (S x) := (HB6.out.cell (p := ⟨b, o + j, none⟩) HC5.out.1).trans HC5.out.2
      have l0 : b < w6.heap.size := cell_lt c0
      have hjc : (j : Int) ≤ (cn : Int) := by omega
      have HAM : Hid (∀ k : Nat, Calls Tryz.prog 9 #[.slice (some ⟨b, o, none⟩) j cn, S x] (w6.drewN k) fun e w' => e = .returned (.bool false) ∧ w' = w6.drewN k) := fun k => by
        have h := among_none (n.take j) x (some ⟨b, o, none⟩) cn (w6.drewN k) (by rw [List.length_take]; have := HLN.out; omega) (rx_take ((HRN.out.below HB6.out).below (below_drewN (Below.refl _ w6) k)) j) HX.out
        rw [List.length_take, Nat.min_eq_left hj] at h
        exact h
      go_upto_region 12 with fail
      go_quiet (first | (go_at_call 9; exact Calls.quiet_of_same (HAM.out _)) | fail)
      go_wp2_with fail
      refine (HKY.out _).mono ?_
      rintro e w7 ⟨rfl, hb7⟩
      have HB7 : Hid (Below w5.heap.size w5 w7) := (below_drewN HB6.out _).trans (hb7.mono (below_drewN HB6.out _).size)
      clear hb7 c0 l0 HAM HKY
      go_wp2_with fail
      go_roundw
      case rel => exact ⟨j + 1, by go_num, by omega, HB7⟩
      case measure => simp [intOf]; omega
    · have i1 : ¬ (j : Int) < (n.length : Int) := by omega
      have HQr : Hid _ := (HBj.out.block _ (Array.getElem?_eq_some_iff.1 HQ5.out).1).trans HQ5.out
      obtain ⟨⟨z0, z1, z2, z3, z4, z5, z6, z7, z8⟩, _⟩ := cells9 HQr.out
      have lq : bq < wr.heap.size := (Array.getElem?_eq_some_iff.1 HQr.out).1
      by_cases hk : f.kind = 5
      · have k1 : (f.kind == 5) = true := by simpa using hk
        obtain ⟨l, hl⟩ := HN.out.df hk
        have hnl : 0 < n.length := by rw [hl]; simp
        have hni : (0 : Int) < (n.length : Int) := by omega
        obtain ⟨b, o, h1, h2⟩ := RX.at HRN.out
        have hra := h1 (by omega)
        subst hra
        obtain ⟨hb, hc⟩ := h2 0 f.text (by rw [hl]; rfl)
        have c0 : wr.cell? ⟨b, o, none⟩ = some (S f.text) := (HBj.out.cell (p := ⟨b, o, none⟩) hb).trans hc
        have l0 : b < wr.heap.size := cell_lt c0
        clear h1 h2 hb hc hl hk
        go_upto_region 16 with fail
        go_quiet (fail)
        go_wp2_with fail
        go_ret
        exact ⟨by simp, below_drewN HBW.out _⟩
      · have k1 : (f.kind == 5) = false := by simpa using hk
        have HL : Hid (LamOk ⟨4, [], n, f.fm .nil, dt0⟩) := HN.out.lm hk
        clear hk
        go_upto_region 18 with fail
        obtain ⟨W9, hW9⟩ : ∃ W, (wr.alloc (Z9 f (.slice nr f.names.length nc) (.slice kr f.kids.len kc) (.slice dr f.dat.s.len dc))).alloc (.cells (Gv n rn cn wr.heap.size) 30) = W := ⟨_, rfl⟩
        obtain ⟨hb9, q9, hrf9⟩ := lam_made (cn := cn) (HRW.out _ HBW.out) HK.out (HRNN.out.below HBj.out) W9 hW9
        rw [hW9]
        obtain ⟨b7, hb7⟩ : ∃ b, wr.heap.size = b := ⟨_, rfl⟩
        rw [hb7] at q9 hrf9 ⊢
        obtain ⟨b9, hb9'⟩ : ∃ b, b7 + 1 = b := ⟨_, rfl⟩
        rw [hb9'] at q9 ⊢
        have HB9 : Hid (Below w.heap.size w W9) := HBW.out.trans (hb9.mono HBW.out.size)
        have HQ9 : Hid _ := q9
        have HRF9 : Hid (RFo W9 ⟨4, [], n, f.fm .nil, dt0⟩ rn (some ⟨b7, 0, none⟩) none) := hrf9
        have HCk : Hid (Calls Tryz.prog 6 #[.agg (Gv n rn cn b7)] W9 fun e w' => e = .returned (.int .i64 (backM ⟨4, [], n, f.fm .nil, dt0⟩).2) ∧ Below W9.heap.size W9 w') := fcheck_any ⟨4, [], n, f.fm .nil, dt0⟩ rn (some ⟨b7, 0, none⟩) none cn 1 0 W9 HL.out.1 HL.out.2.1 HRF9.out (Nat.le_refl 1) (HEW.out _ HB9.out) HL.out.2.2.1
        have HLy : Hid (((backM ⟨4, [], n, f.fm .nil, dt0⟩).2 = 0 ∨ (backM ⟨4, [], n, f.fm .nil, dt0⟩).2 = 70) ∧ ((backM ⟨4, [], n, f.fm .nil, dt0⟩).2 = 0 → usesM ⟨4, [], n, f.fm .nil, dt0⟩ = [])) := HL.out.2.2.2
        have HCn : Hid (∀ W : World, Below W9.heap.size W9 W → Calls Tryz.prog 7 #[.agg (Gv n rn cn b7)] W fun e w' => ∃ v, e = .returned v ∧ w'.ownsRow W.heap.size 9 1 v (usesM ⟨4, [], n, f.fm .nil, dt0⟩).length ((usesM ⟨4, [], n, f.fm .nil, dt0⟩).map S) ∧ Below W.heap.size W w') := fun W hb => fnames_any ⟨4, [], n, f.fm .nil, dt0⟩ rn (some ⟨b7, 0, none⟩) none cn 1 0 W HL.out.1 HL.out.2.1 (HRF9.out.below hb) (Nat.le_refl 1) (HEW.out _ (HB9.out.trans (hb.mono HB9.out.size))) HL.out.2.2.1
        obtain ⟨y, hy⟩ : ∃ y, (backM ⟨4, [], n, f.fm .nil, dt0⟩).2 = y := ⟨_, rfl⟩
        obtain ⟨m, hm⟩ : ∃ m, usesM ⟨4, [], n, f.fm .nil, dt0⟩ = m := ⟨_, rfl⟩
        rw [hy] at HCk HLy
        rw [hm] at HCn HLy
        clear hb9 q9 hrf9 hW9 hb7 hb9' hy hm z0 z1 z2 z3 z4 z5 z6 z7 z8 lq k1 HL HRF9
        obtain ⟨⟨z0, z1, z2, z3, z4, z5, z6, z7, z8⟩, _⟩ := cells9 HQ9.out
        go_wp2_with fail
        refine HCk.out.mono ?_
        rintro e w10 ⟨rfl, hb10⟩
        have HB10 : Hid (Below w.heap.size w w10) := HB9.out.trans (hb10.mono HB9.out.size)
        have HN10 : Hid (Calls Tryz.prog 7 #[.agg (Gv n rn cn b7)] w10 fun e w' => ∃ v, e = .returned v ∧ w'.ownsRow w10.heap.size 9 1 v m.length (m.map S) ∧ Below w10.heap.size w10 w') := HCn.out _ hb10
        have HQ10 : Hid _ := (hb10.block _ (Array.getElem?_eq_some_iff.1 HQ9.out).1).trans HQ9.out
        clear hb10 z0 z1 z2 z3 z4 z5 z6 z7 z8 HCk HCn
        obtain ⟨⟨z0, z1, z2, z3, z4, z5, z6, z7, z8⟩, _⟩ := cells9 HQ10.out
        go_wp2_with fail
        refine HN10.out.mono ?_
        rintro e w11 ⟨v11, rfl, ho11, hb11⟩
        obtain ⟨rm, cm, rfl, _, _, _⟩ := own_rnc ho11
        have HB11 : Hid (Below w.heap.size w w11) := HB10.out.trans (hb11.mono HB10.out.size)
        clear hb11 ho11 z0 z1 z2 z3 z4 z5 z6 z7 z8 HN10
        rcases HLy.out.1 with h | h
        · subst h
          have hm0 : m = [] := HLy.out.2 rfl
          subst hm0
          go_wp2_with fail
          go_ret
          exact ⟨rfl, HB11.out⟩
        · subst h
          go_wp2_with fail
          go_ret
          exact ⟨rfl, HB11.out⟩
end Go.Proofs.YtkgnigloboajcabGreatDoor
