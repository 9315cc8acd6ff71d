/- The document's wrong, walked. -/
import Derived.Test.YtpkohocjgnodnaaGreatDoorGAV
namespace Go.Proofs.YtpkohocjgnodnaaGreatDoor
open Go.RowKit

def wrI (code : List Ins) : Int := match wrongAt (endM code).met code 0 with
  | some j => (j : Int)
  | none => -1
set_option maxRecDepth 100000 in
set_option maxHeartbeats 32000000 in
theorem dWrong_any (pm : Int) (code : List Ins) (ra : Option Addr) (cp : Nat) (w : World) (hl0 : 0 < code.length) (hl : code.length ≤ 4096) (hR : NR w ra code) (hf : ∀ p x, code[p]? = some x → Fit code.length p x) (ho : ∀ x ∈ code, 1 ≤ x.op ∧ x.op ≤ 18) :
    Calls Tryz.prog 76 #[.agg #[.int .i64 pm, .slice ra code.length cp]] w fun e w' => e = .returned (.int .i64 (wrI code)) ∧ Below w.heap.size w w' := by
  have HR : Hid (NR w ra code) := hR
  have HF : Hid (∀ p x, code[p]? = some x → Fit code.length p x) := hf
  have HO : Hid (∀ x ∈ code, 1 ≤ x.op ∧ x.op ≤ 18) := ho
  have HE : Hid (Inv code (endM code) (fun _ _ => False) ∧ (endM code).left = []) := inv_end hf hl0
  obtain ⟨i0, hi0, hz0, hz1, hz2⟩ := info_parts infoBool
  obtain ⟨i1, hi1, hy0, hy1, hy2⟩ := info_parts infoI
  have HA : Hid (Below w.heap.size w (w.alloc (.cells #[.int .i64 pm, .slice ra code.length cp] 64)) ∧ (w.alloc (.cells #[.int .i64 pm, .slice ra code.length cp] 64)).heap[w.heap.size]? = some (.cells #[.int .i64 pm, .slice ra code.length cp] 64 (0, 0))) := ⟨(Below.refl _ w).alloc (Nat.le_refl _) _, heap_alloc_new _ _⟩
  have HS : Hid (w.heap.size ≤ w.heap.size) := Nat.le_refl _
  clear hR hf ho
  go_enter Tryz.func76, Tryz.ntmps76
  go_upto_region 1 with fail
  obtain ⟨bp, hbp⟩ : ∃ bp, bp = w.heap.size := ⟨_, rfl⟩
  generalize w.alloc (.cells #[.int .i64 pm, .slice ra code.length cp] 64) = W1 at *
  rw [← hbp] at HA ⊢
  have HBp : Hid (bp = w.heap.size) := hbp
  clear hbp
  have c1 : W1.cell? ⟨bp, 1, none⟩ = some (.slice ra code.length cp) := heap_cell HA.out.2 rfl
  have l1 := heap_lt HA.out.2
  go_wp2_with (at_make; refine stop_of ?_)
  unfold Hid
  refine wpList_make_full _ rfl _ _ 167 rfl W1.heap.size 4 i0 (.bool false) 1 Tryz.underlying167 hi0 hz0 hz1 .i64 .i64 _ _ code.length rfl rfl rfl rfl (by rw [hz2]; omega) (by unfold maxLen; omega) (Nat.le_refl _) ?_
  intro W2 hown2 hgr2
  have hb2 : Below W1.heap.size W1 W2 := grown_low hgr2 (fun g hg => by cases hg) (Nat.le_refl _)
  have HD2 : Hid (DR W2 4 W1.heap.size code.length (fun _ u => u = .bool false) ∧ Below W1.heap.size W1 W2) := ⟨row_made hown2 (false_made _), hb2⟩
  have s2 := hb2.size
  have d2 := HD2.out.1.lt
  clear hown2 hgr2 hb2
  go_wp2_with (at_make; refine stop_of ?_)
  unfold Hid
  refine wpList_make_full _ rfl _ _ 167 rfl W2.heap.size 4 i0 (.bool false) 1 Tryz.underlying167 hi0 hz0 hz1 .i64 .i64 _ _ code.length rfl rfl rfl rfl (by rw [hz2]; omega) (by unfold maxLen; omega) (Nat.le_refl _) ?_
  intro W3 hown3 hgr3
  have hb3 : Below W2.heap.size W2 W3 := grown_low hgr3 (fun g hg => by cases hg) (Nat.le_refl _)
  have HD3 : Hid (DR W3 4 W2.heap.size code.length (fun _ u => u = .bool false) ∧ Below W2.heap.size W2 W3) := ⟨row_made hown3 (false_made _), hb3⟩
  have s3 := hb3.size
  have d3 := HD3.out.1.lt
  clear hown3 hgr3 hb3
  go_wp2_with (at_make; refine stop_of ?_)
  unfold Hid
  refine wpList_make_full _ rfl _ _ 150 rfl W3.heap.size 3 i1 (.int .i64 0) 1 Tryz.underlying150 hi1 hy0 hy1 .i64 .i64 _ _ code.length rfl rfl rfl rfl (by rw [hy2]; omega) (by unfold maxLen; omega) (Nat.le_refl _) ?_
  intro W4 hown4 hgr4
  have hb4 : Below W3.heap.size W3 W4 := grown_low hgr4 (fun g hg => by cases hg) (Nat.le_refl _)
  have s4 := hb4.size
  have hd4 : DR W4 3 W3.heap.size code.length (fun _ u => u = .int .i64 0) := row_made hown4 (made_zero _)
  have HX4 : Hid (WS w W4 bp W1.heap.size W2.heap.size W3.heap.size code.length pm ra cp (.slice none 0 0) [] (fun _ => false) (fun _ => false) (fun _ => 0)) := by
    have e3 := HD2.out.1.kept (HD3.out.2.block _ d2)
    have hs := HA.out.1.size
    have hp := HBp.out
    refine ⟨?_, (e3.kept (hb4.block _ e3.lt)).mono (fun _ u _ hu => hu), (HD3.out.1.kept (hb4.block _ d3)).mono (fun _ u _ hu => hu), hd4.mono (fun _ u _ hu => hu), World.ownsRow_nil _ _ _ _, ?_, ⟨by omega, by omega, by omega, by omega⟩, fun g hg => by cases hg⟩
    · rw [hb4.block bp (by omega), HD3.out.2.block bp (by omega), HD2.out.2.block bp l1]; exact HA.out.2
    · have hp := HBp.out; have h1 := HA.out.1; rw [hp] at h1; exact h1.trans ((HD2.out.2.mono (by omega)).trans ((HD3.out.2.mono (by omega)).trans (hb4.mono (by omega))))
  clear hown4 hgr4 hb4 hd4 HD2 HD3 HA c1 l1
  obtain ⟨gC, hgC⟩ : ∃ gC, gC = W1.heap.size := ⟨_, rfl⟩
  obtain ⟨gT, hgT⟩ : ∃ gT, gT = W2.heap.size := ⟨_, rfl⟩
  obtain ⟨gD, hgD⟩ : ∃ gD, gD = W3.heap.size := ⟨_, rfl⟩
  rw [← hgC, ← hgT, ← hgD] at HX4 ⊢
  clear hgC hgT hgD s2 s3 s4 d2 d3 HS
  obtain ⟨x0, _, _⟩ := HX4.out.cells (q := 0) hl0
  have f0 := HX4.out.c.fz 0
  obtain ⟨_, lc, _, _⟩ := HX4.out.lts
  have k0 : (0 : Int) < (code.length : Int) := by omega
  go_upto_region 6 with fail
  have HX5 : Hid (WS w (W4.setCell ⟨gC, 0, none⟩ (.bool true)) bp gC gT gD code.length pm ra cp (.slice none 0 0) [] (updB (fun _ => false) 0) (fun _ => false) (fun _ => 0)) := HX4.out.setC 0
  have hs5 := HX5.out.bel.size
  have HX6 : Hid (WS w ((W4.setCell ⟨gC, 0, none⟩ (.bool true)).alloc (.cells #[.int .i64 ((0 : Nat) : Int)] 3)) bp gC gT gD code.length pm ra cp (.slice (some ⟨(W4.setCell ⟨gC, 0, none⟩ (.bool true)).heap.size, 0, none⟩) 1 1) [0] (fun p => decide (p = 0)) (fun _ => false) (fun _ => 0)) := by
    have h := HX5.out.below ((Below.refl _ (W4.setCell ⟨gC, 0, none⟩ (.bool true))).alloc (Nat.le_refl _) (.cells #[.int .i64 ((0 : Nat) : Int)] 3))
    have e : updB (fun _ => false) 0 = fun p => decide (p = 0) := by funext p; simp [updB]
    rw [e] at h
    exact ⟨h.bx, h.c, h.t, h.d, own_new1 _ _ 0 hs5, h.bel, h.lo, fun g hg => by
      have e2 := Option.some.inj hg
      have := HX5.out.d.lt
      simp only at e2; omega⟩
  clear HX4 HX5 x0 f0 lc hs5
  go_upto_region 7 with fail
  have HB1 : Hid (B1 code 0 [0] (fun p => decide (p = 0)) (fun _ => 0)) := b1_start hl0
  rw [show ((0 : Nat) : Int) = 0 from rfl] at HX6
  rw [World.size_setCell] at HX6
  generalize (W4.setCell ⟨gC, 0, none⟩ (.bool true)).alloc (.cells #[.int .i64 0] 3) = W6 at *
  generalize W4.heap.size = g6 at *
  go_wp2_with fail
  go_loopw [7, 8, 9, 10, 11, 12] (fun vr i _ _ _ _ wr => ∃ (k : Nat) (row : List Nat) (rr : Option Addr) (rc : Nat) (come : Nat → Bool) (dep : Nat → Int), i = .int .i64 k ∧ vr = .slice rr row.length rc ∧ k ≤ row.length ∧ Hid (WS w wr bp gC gT gD code.length pm ra cp (.slice rr row.length rc) row come (fun _ => false) dep) ∧ Hid (B1 code k row come dep)) (fun _ i _ _ _ _ _ => code.length - (intOf i).toNat)
  case atStart => exact ⟨0, [0], _, 1, _, _, rfl, rfl, Nat.zero_le _, HX6, HB1⟩
  case round =>
    clear HX6 HB1
    obtain ⟨k, row, rr, rc, come, dep, rfl, rfl, hk, HX, HB⟩ := hrel
    have hrl := HB.out.len
    by_cases hkl : k < row.length
    · have k1 : (k : Int) < (row.length : Int) := by omega
      obtain ⟨p, hp⟩ : ∃ p, row[k]? = some p := ⟨_, List.getElem?_eq_getElem hkl⟩
      obtain ⟨gr, rfl, d1, lg⟩ := int_at HX.out.r hp
      have hpr := List.mem_of_getElem? hp
      have hpl := HB.out.lt p hpr
      obtain ⟨x, hx⟩ : ∃ x, code[p]? = some x := ⟨_, List.getElem?_eq_getElem hpl⟩
      have hfx := HF.out p x hx
      have hox := HO.out x (List.mem_of_getElem? hx)
      have hbd := HB.out.bd p hpr
      have HW : Hid (∀ q, Next p x q → Way code q (dep p - takesN x + putsN x)) := fun q hq => .step p q (dep p) x (HB.out.way p hpr) hx hq
      have HNl : Hid (∀ q ∈ nxtL p x, q < code.length) := fun q hq => by
        rcases nxt_iff.1 hq with ⟨h1, rfl⟩ | ⟨h1, rfl⟩
        · have := hfx.j h1; omega
        · exact hfx.e h1
      have HBh : Hid (Calls Tryz.prog 103 #[.agg #[.int .i64 pm, .slice ra code.length cp], .int .i64 (p : Int)] wr fun e w' => (∃ r c, e = .returned (.slice r (nxtL p x).length c) ∧ IX wr.heap.size w' r (nxtL p x)) ∧ Below wr.heap.size wr w') := dBehind_any code pm p x ra cp wr hl (HR.out.below HX.out.bel) hx hfx
      obtain ⟨L, hL⟩ : ∃ L, L = nxtL p x := ⟨_, rfl⟩
      have HLe : Hid (L = nxtL p x) := hL
      rw [← hL] at HNl HBh
      have hL2 : L.length ≤ 2 := by rw [hL]; exact nxt_len p x
      clear hL
      have HTk : Hid (∀ W, Calls Tryz.prog 104 #[.agg #[.int .u8 x.op, .int .i64 x.a]] W fun e w' => e = .returned (.int .i64 (takesN x)) ∧ Below W.heap.size W w') := fun W => dTakes_any x.op x.a W hox.1 hox.2 hfx.pr hfx.cl
      have HPt : Hid (∀ W, Calls Tryz.prog 105 #[.agg #[.int .u8 x.op, .int .i64 x.a]] W fun e w' => e = .returned (.int .i64 (putsN x)) ∧ Below W.heap.size W w') := fun W => dPuts_any x.op x.a W hox.1 hox.2
      have htb := takes_bd x hfx.pr hfx.cl
      have hpb := puts_bd x
      obtain ⟨b, o, hor, hcs⟩ := HR.out
      obtain ⟨g1, y0, y1, _, _⟩ := hcs p x hx
      have hra : ra = some ⟨b, o, none⟩ := hor.resolve_left (by omega)
      have HPx : Hid (row[k]? = some p ∧ code[p]? = some x) := ⟨hp, hx⟩
      have HG : Hid (∀ wx, Below w.heap.size w wx → wx.cell? ⟨b, o + p * 2, none⟩ = some (.int .u8 x.op) ∧ wx.cell? ⟨b, o + p * 2 + 1, none⟩ = some (.int .i64 x.a) ∧ b < wx.heap.size) := fun wx hb => ⟨(hb.cell (p := ⟨b, o + p * 2, none⟩) g1).trans y0, (hb.cell (p := ⟨b, o + p * 2 + 1, none⟩) g1).trans y1, Nat.lt_of_lt_of_le g1 hb.size⟩
      have HRa : Hid (ra = some ⟨b, o, none⟩) := hra
      clear hp hpr hx hor hcs y0 y1 g1 hra hfx hox
      obtain ⟨a0, a1⟩ := HX.out.at1
      obtain ⟨lb, lc, lt, ld⟩ := HX.out.lts
      go_wp2_with fail
      refine Calls.mono HBh.out ?_
      rintro e w5 ⟨⟨rl, cl, rfl, hix⟩, hb5⟩
      have HX5 : Hid (WS w w5 bp gC gT gD code.length pm ra cp (.slice (some ⟨gr, 0, none⟩) row.length rc) row come (fun _ => false) dep) := HX.out.below hb5
      have HL5 : Hid (LX wr.heap.size w5 (.slice (some ⟨gr, 0, none⟩) row.length rc) rl (L)) := lx_of hix (fun g hg => (HX.out.r.lt g hg).2)
      have HLo : Hid (gC < wr.heap.size ∧ gT < wr.heap.size ∧ gD < wr.heap.size) := ⟨lc, lt, ld⟩
      clear hb5 hix HBh a0 a1 lb lc lt ld HX d1 lg
      generalize wr.heap.size = s0 at *
      obtain ⟨a0, a1⟩ := HX5.out.at1
      obtain ⟨lb, lc, lt, ld⟩ := HX5.out.lts
      obtain ⟨_, _, e3⟩ := HX5.out.cells hpl
      obtain ⟨q0, q1, lbb⟩ := HG.out w5 HX5.out.bel
      rw [HRa.out] at a1
      have p1 : (p : Int) < (code.length : Int) := by omega
      generalize htx : takesN x = tx at *
      generalize hpx : putsN x = px at *
      generalize hdp : dep p = dp at *
      have HEq : Hid (takesN x = tx ∧ putsN x = px) := ⟨htx, hpx⟩
      clear htx hpx hdp
      have HKp : Hid (∀ wx, Below w5.heap.size w5 wx → wx.cell? ⟨gD, p, none⟩ = some (.int .i64 dp) ∧ wx.cell? ⟨bp, 1, none⟩ = some (.slice (some ⟨b, o, none⟩) code.length cp) ∧ wx.cell? ⟨b, o + p * 2, none⟩ = some (.int .u8 x.op) ∧ wx.cell? ⟨b, o + p * 2 + 1, none⟩ = some (.int .i64 x.a) ∧ gD < wx.heap.size ∧ bp < wx.heap.size ∧ b < wx.heap.size) := fun wx hb => ⟨(hb.cell (p := ⟨gD, p, none⟩) ld).trans e3, (hb.cell (p := ⟨bp, 1, none⟩) lb).trans a1, (hb.cell (p := ⟨b, o + p * 2, none⟩) lbb).trans q0, (hb.cell (p := ⟨b, o + p * 2 + 1, none⟩) lbb).trans q1, Nat.lt_of_lt_of_le ld hb.size, Nat.lt_of_lt_of_le lb hb.size, Nat.lt_of_lt_of_le lbb hb.size⟩
      go_upto_region 12 with fail
      go_region_held3 (fun wx : World => wx.cell? ⟨gD, p, none⟩ = some (.int .i64 dp) ∧ wx.cell? ⟨bp, 1, none⟩ = some (.slice (some ⟨b, o, none⟩) code.length cp) ∧ wx.cell? ⟨b, o + p * 2, none⟩ = some (.int .u8 x.op) ∧ wx.cell? ⟨b, o + p * 2 + 1, none⟩ = some (.int .i64 x.a) ∧ gD < wx.heap.size ∧ bp < wx.heap.size ∧ b < wx.heap.size) (first | exact ⟨e3, a1, q0, q1, ld, lb, lbb⟩ | (go_keep; done) | exact HKp.out _ ((Below.refl _ w5).drew.trans h6) | exact HKp.out _ (((Below.refl _ w5).drew.trans h6).trans (h7.mono h6.size))) (first | (go_at_call 104; refine (HTk.out _).mono ?_; rintro e w6 ⟨rfl, h6⟩) | (go_at_call 105; refine (HPt.out _).mono ?_; rintro e w7 ⟨rfl, h7⟩) | fail)
      have hwv : IntKind.i64.wrap (IntKind.i64.wrap (dp - tx) + px) = dp - tx + px := by
        rw [show IntKind.i64.wrap (dp - tx) = dp - tx from wrapI (by omega) (by omega)]
        exact wrapI (by omega) (by omega)
      rw [hwv]
      generalize IntKind.i64.wrap (dp - tx) = dt
      have hb7 : Below w5.heap.size w5 w7 := ((Below.refl _ w5).drew.trans h6).trans (h7.mono h6.size)
      have HX7 : Hid (WS w w7 bp gC gT gD code.length pm ra cp (.slice (some ⟨gr, 0, none⟩) row.length rc) row come (fun _ => false) dep) := HX5.out.below hb7
      have HL7 : Hid (LX s0 w7 (.slice (some ⟨gr, 0, none⟩) row.length rc) rl (L)) := HL5.out.below hb7
      obtain ⟨d, hd⟩ : ∃ d, d = dp - tx + px := ⟨_, rfl⟩
      have HWd : Hid (∀ q, Next p x q → Way code q d) := by rw [hd]; exact HW.out
      have hdb : -300 * ((row.length : Int) + 1) ≤ d ∧ d ≤ 300 * ((row.length : Int) + 1) := by omega
      rw [← hd]
      clear h6 h7 hb7 HX5 HL5 HTk HPt a0 a1 lb lc lt ld e3 q0 q1 lbb HKp hwv hd HW HEq htb hpb hbd
      go_wp2_with fail
      go_loopw [7, 12] (fun vr i wr => ∃ (j : Nat) (row' : List Nat) (rr' : Option Addr) (rc' : Nat) (come' : Nat → Bool) (dep' : Nat → Int), i = .int .i64 j ∧ vr = .slice rr' row'.length rc' ∧ j ≤ (L).length ∧ Hid (WS w wr bp gC gT gD code.length pm ra cp (.slice rr' row'.length rc') row' come' (fun _ => false) dep') ∧ Hid (B1 code k row' come' dep') ∧ Hid (LX s0 wr (.slice rr' row'.length rc') rl (L)) ∧ Hid (row'[k]? = some p ∧ row.length ≤ row'.length ∧ ∀ q ∈ (L).take j, come' q = true)) (fun _ i _ => (L).length - (intOf i).toNat)
      case atStart => exact ⟨0, row, _, rc, come, dep, rfl, rfl, Nat.zero_le _, HX7, HB, HL7, HPx.out.1, Nat.le_refl _, fun q hq => by simp at hq⟩
      case round =>
        clear HX7 HB HL7
        obtain ⟨j, row', rr', rc', come', dep', rfl, rfl, hj, HX, HB, HL, HP⟩ := hrel
        have hrl' := HB.out.len
        have hrk := HP.out.2.1
        by_cases hjl : j < (L).length
        · have j1 : (j : Int) < ((L).length : Int) := by omega
          obtain ⟨q, hq⟩ : ∃ q, (L)[j]? = some q := ⟨_, List.getElem?_eq_getElem hjl⟩
          obtain ⟨bl, rfl, hs1, hs2, hs3, d1⟩ := HL.out j q hq
          have hqn := HNl.out q (List.mem_of_getElem? hq)
          have hwq := HWd.out q (nxt_iff.1 (by rw [← HLe.out]; exact List.mem_of_getElem? hq))
          have q1 : (q : Int) < (code.length : Int) := by omega
          obtain ⟨cc, _, cd⟩ := HX.out.cells hqn
          obtain ⟨lb, lc, lt, ld⟩ := HX.out.lts
          have HQj : Hid ((L)[j]? = some q) := hq
          have HWq : Hid (Way code q d) := hwq
          clear hq hwq hs3
          cases hcq : come' q
          · have HCq : Hid (come' q = false) := hcq
            rw [hcq] at cc
            clear hcq
            have fc := HX.out.c.fz q
            have HXc : Hid (WS w (wr.setCell ⟨gC, q, none⟩ (.bool true)) bp gC gT gD code.length pm ra cp (.slice rr' row'.length rc') row' (updB come' q) (fun _ => false) dep') := HX.out.setC q
            have HXd : Hid (WS w ((wr.setCell ⟨gC, q, none⟩ (.bool true)).setCell ⟨gD, q, none⟩ (.int .i64 d)) bp gC gT gD code.length pm ra cp (.slice rr' row'.length rc') row' (updB come' q) (fun _ => false) (updD dep' q d)) := HXc.out.setD q d
            have HLd : Hid (LX s0 ((wr.setCell ⟨gC, q, none⟩ (.bool true)).setCell ⟨gD, q, none⟩ (.int .i64 d)) (.slice rr' row'.length rc') (some ⟨bl, 0, none⟩) (L)) := (HL.out.set HLo.out.1 _).set HLo.out.2.2 _
            have fd := HXc.out.d.fz q
            obtain ⟨_, _, cd2⟩ := HXc.out.cells hqn
            have hgd : gD ≠ gC := dr_dr HX.out.d HX.out.c (by decide)
            have dd1 : (wr.setCell ⟨gC, q, none⟩ (.bool true)).cell? ⟨bl, j, none⟩ = some (.int .i64 (q : Int)) := by
              obtain ⟨b2, e2, _, _, _, e5⟩ := (HL.out.set (o := q) HLo.out.1 (.bool true)) j q HQj.out
              cases e2; exact e5
            go_upto_region 19 with fail
            generalize (wr.setCell ⟨gC, q, none⟩ (.bool true)).setCell ⟨gD, q, none⟩ (.int .i64 d) = W9 at *
            have d9 : W9.cell? ⟨bl, j, none⟩ = some (.int .i64 (q : Int)) := by
              obtain ⟨b2, e2, _, e3, _, e5⟩ := HLd.out j q HQj.out
              cases e2; exact e5
            have lbl : bl < W9.heap.size := by
              obtain ⟨b2, e2, _, e3, _, _⟩ := HLd.out j q HQj.out
              cases e2; exact e3
            clear cc cd fc fd cd2 dd1 lb lc lt ld HXc d1 hs2
            go_wp2_with (at_builtin; refine stop_of ?_)
            unfold Hid
            refine wpList_append_lies _ rfl _ _ 150 rfl w.heap.size 3 i1 (.int .i64 0) 1 8 Tryz.underlying150 hi1 hy0 hy1 hy2 rfl (by decide) (.slice rr' row'.length rc') row'.length (row'.map (fun (k : Nat) => Value.int .i64 (k : Int))) rfl (HXd.out.r.alloc _) ⟨W9.heap.size, 0, none⟩ 1 1 [.int .i64 (q : Int)] rfl rfl (fun j u hu => ?_) (fun u hu => ?_) (by omega) (by unfold maxLen; omega) (by omega) (by rw [World.size_alloc]; have := HXd.out.bel.size; omega) _ rfl ?_
            · rw [ad_add, Nat.zero_add]
              exact new_cell _ #[.int .i64 (q : Int)] _ j u hu
            · simp at hu; subst hu; rfl
            intro g cap w8 hown8 hgr8 hat8 _
            have hat : ∀ g', (Value.slice (some ⟨g, 0, none⟩) (row'.length + 1) cap).ownBlock = some g' → (Value.slice rr' row'.length rc').ownBlock = some g' ∨ W9.heap.size ≤ g' := fun g' hg' => by
              have e : g = g' := by simpa [Value.ownBlock] using hg'
              rw [← e]
              rcases hat8 with h | h
              · exact .inl h
              · rw [World.size_alloc] at h; exact .inr (by omega)
            have HX8 : Hid (WS w w8 bp gC gT gD code.length pm ra cp (.slice (some ⟨g, 0, none⟩) (row'.length + 1) cap) (row' ++ [q]) (updB come' q) (fun _ => false) (updD dep' q d)) := HXd.out.push hgr8 hown8 hat
            have HL8 : Hid (LX s0 w8 (.slice (some ⟨g, 0, none⟩) (row'.length + 1) cap) (some ⟨bl, 0, none⟩) (L)) := HLd.out.push hgr8 hat
            have HB8 : Hid (B1 code k (row' ++ [q]) (updB come' q) (updD dep' q d)) := HB.out.come hqn HCq.out HWq.out (by omega) (by have := (List.getElem?_eq_some_iff.1 HP.out.1).1; omega)
            have HP8 : Hid ((row' ++ [q])[k]? = some p ∧ row.length ≤ (row' ++ [q]).length ∧ ∀ q' ∈ (L).take (j + 1), updB come' q q' = true) := by
              refine ⟨by rw [List.getElem?_append_left (List.getElem?_eq_some_iff.1 HP.out.1).1]; exact HP.out.1, by rw [List.length_append]; omega, fun q' hq' => ?_⟩
              rw [List.take_add_one, HQj.out] at hq'
              unfold updB
              rcases List.mem_append.1 hq' with h | h
              · rw [HP.out.2.2 q' h, Bool.or_true]
              · simp at h; simp [h]
            have hl8 : (row' ++ [q]).length = row'.length + 1 := by simp
            have HLn : Hid ((row' ++ [q]).length = row'.length + 1) := hl8
            clear hown8 hgr8 hat8 hat HXd HLd HB HP HL HX hl8 d9 lbl
            go_wp2
            go_roundw
            case rel =>
              refine ⟨j + 1, row' ++ [q], some ⟨g, 0, none⟩, cap, _, _, by go_num, ?_, by omega, ?_, HB8, ?_, HP8⟩
              · rw [HLn.out]
              · rw [HLn.out]; exact HX8
              · rw [HLn.out]; exact HL8
            case measure => simp [intOf]; omega
          · rw [hcq] at cc
            have HP8 : Hid (row'[k]? = some p ∧ row.length ≤ row'.length ∧ ∀ q' ∈ (L).take (j + 1), come' q' = true) := by
              refine ⟨HP.out.1, HP.out.2.1, fun q' hq' => ?_⟩
              rw [List.take_add_one, HQj.out] at hq'
              rcases List.mem_append.1 hq' with h | h
              · exact HP.out.2.2 q' h
              · simp at h; rw [h]; exact hcq
            clear hcq
            go_wp2
            go_roundw
            case rel => exact ⟨j + 1, row', rr', rc', come', dep', by go_num, rfl, by omega, HX, HB, HL, HP8⟩
            case measure => simp [intOf]; omega
        · have j1 : ¬ (j : Int) < ((L).length : Int) := by omega
          have HB9 : Hid (B1 code (k + 1) row' come' dep') := HB.out.next HP.out.1 HPx.out.2 (fun q hq => HP.out.2.2 q (by rw [List.take_of_length_le (by omega), HLe.out]; exact hq))
          have hk9 := (List.getElem?_eq_some_iff.1 HP.out.1).1
          go_wp2_with fail
          go_roundw
          case rel => exact ⟨k + 1, row', rr', rc', come', dep', by go_num, rfl, by omega, HX, HB9⟩
          case measure => simp [intOf]; omega
    · have k1 : ¬ (k : Int) < (row.length : Int) := by omega
      have e : k = row.length := by omega
      subst e
      have HBe : Hid (B1 code row.length row come dep) := HB.out
      clear HB hk hkl
      obtain ⟨HCi, HWy⟩ : Hid (∀ p, come p = true ↔ ∃ d, Way code p d) ∧ Hid (∀ p, come p = true → Way code p (dep p)) := HBe.out.ends
      go_wp2_with fail
      clear k1
      go_loopw [13, 14, 15] (fun i _ _ wr => ∃ (m : Nat) (two : Nat → Bool), i = .int .i64 m ∧ m ≤ code.length ∧ Hid (WS w wr bp gC gT gD code.length pm ra cp (.slice rr row.length rc) row come two dep) ∧ Hid (B2 code come dep m two)) (fun i _ _ _ => code.length - (intOf i).toNat)
      case atStart => exact ⟨0, _, rfl, Nat.zero_le _, HX, ⟨fun _ h => (by cases h), fun _ _ _ h => absurd h (Nat.not_lt_zero _)⟩⟩
      case round =>
        clear HX
        obtain ⟨m, two, rfl, hm, HX, HB2⟩ := hrel
        by_cases hml : m < code.length
        · have m1 : (m : Int) < (code.length : Int) := by omega
          obtain ⟨x, hx⟩ : ∃ x, code[m]? = some x := ⟨_, List.getElem?_eq_getElem hml⟩
          have hfx := HF.out m x hx
          have hox := HO.out x (List.mem_of_getElem? hx)
          have HNl : Hid (∀ q ∈ nxtL m x, q < code.length) := fun q hq => by
            rcases nxt_iff.1 hq with ⟨h1, rfl⟩ | ⟨h1, rfl⟩
            · have := hfx.j h1; omega
            · exact hfx.e h1
          have HBh : Hid (Calls Tryz.prog 103 #[.agg #[.int .i64 pm, .slice ra code.length cp], .int .i64 (m : Int)] wr fun e w' => (∃ r c, e = .returned (.slice r (nxtL m x).length c) ∧ IX wr.heap.size w' r (nxtL m x)) ∧ Below wr.heap.size wr w') := dBehind_any code pm m x ra cp wr hl (HR.out.below HX.out.bel) hx hfx
          obtain ⟨L, hL⟩ : ∃ L, L = nxtL m x := ⟨_, rfl⟩
          have HLe : Hid (L = nxtL m x) := hL
          rw [← hL] at HNl HBh
          have hL2 : L.length ≤ 2 := by rw [hL]; exact nxt_len m x
          clear hL
          have HTk : Hid (∀ W, Calls Tryz.prog 104 #[.agg #[.int .u8 x.op, .int .i64 x.a]] W fun e w' => e = .returned (.int .i64 (takesN x)) ∧ Below W.heap.size W w') := fun W => dTakes_any x.op x.a W hox.1 hox.2 hfx.pr hfx.cl
          have HPt : Hid (∀ W, Calls Tryz.prog 105 #[.agg #[.int .u8 x.op, .int .i64 x.a]] W fun e w' => e = .returned (.int .i64 (putsN x)) ∧ Below W.heap.size W w') := fun W => dPuts_any x.op x.a W hox.1 hox.2
          have htb := takes_bd x hfx.pr hfx.cl
          have hpb := puts_bd x
          obtain ⟨b, o, hor, hcs⟩ := HR.out
          obtain ⟨g1, y0, y1, _, _⟩ := hcs m x hx
          have hra : ra = some ⟨b, o, none⟩ := hor.resolve_left (by omega)
          have HPx : Hid (code[m]? = some x) := hx
          have HG : Hid (∀ wx, Below w.heap.size w wx → wx.cell? ⟨b, o + m * 2, none⟩ = some (.int .u8 x.op) ∧ wx.cell? ⟨b, o + m * 2 + 1, none⟩ = some (.int .i64 x.a) ∧ b < wx.heap.size) := fun wx hb => ⟨(hb.cell (p := ⟨b, o + m * 2, none⟩) g1).trans y0, (hb.cell (p := ⟨b, o + m * 2 + 1, none⟩) g1).trans y1, Nat.lt_of_lt_of_le g1 hb.size⟩
          have HRa : Hid (ra = some ⟨b, o, none⟩) := hra
          clear hx hor hcs y0 y1 g1 hra hfx hox
          obtain ⟨a0, a1⟩ := HX.out.at1
          obtain ⟨lb, lc, lt, ld⟩ := HX.out.lts
          go_wp2_with fail
          refine Calls.mono HBh.out ?_
          rintro e w5 ⟨⟨rl, cl, rfl, hix⟩, hb5⟩
          have HX5 : Hid (WS w w5 bp gC gT gD code.length pm ra cp (.slice rr row.length rc) row come two dep) := HX.out.below hb5
          have HL5 : Hid (LX wr.heap.size w5 (.slice rr row.length rc) rl L) := lx_of hix (fun g hg => (HX.out.r.lt g hg).2)
          have HLo : Hid (gC < wr.heap.size ∧ gT < wr.heap.size ∧ gD < wr.heap.size) := ⟨lc, lt, ld⟩
          clear hb5 hix HBh a0 a1 lb lc lt ld HX
          generalize wr.heap.size = s0 at *
          go_wp2_with fail
          go_loopw [15] (fun i wr => ∃ (j : Nat) (two' : Nat → Bool), i = .int .i64 j ∧ j ≤ L.length ∧ Hid (WS w wr bp gC gT gD code.length pm ra cp (.slice rr row.length rc) row come two' dep) ∧ Hid (B2 code come dep m two') ∧ Hid (LX s0 wr (.slice rr row.length rc) rl L) ∧ Hid (∀ q ∈ L.take j, dep q ≠ depN x (dep m) → two' q = true)) (fun i _ => L.length - (intOf i).toNat)
          case atStart => exact ⟨0, two, rfl, Nat.zero_le _, HX5, HB2, HL5, fun q hq => by simp at hq⟩
          case round =>
            clear HX5 HB2 HL5
            obtain ⟨j, two', rfl, hj, HX, HB2, HL, HP⟩ := hrel
            obtain ⟨cc, _, cd⟩ := HX.out.cells hml
            obtain ⟨lb, lc, lt, ld⟩ := HX.out.lts
            by_cases hjl : j < L.length
            · have j1 : (j : Int) < (L.length : Int) := by omega
              cases hcm : come m
              · rw [hcm] at cc
                have HB9 : Hid (B2 code come dep (m + 1) two') := ⟨HB2.out.snd, fun i' p x' h1 h2 h3 h4 h5 => by
                  by_cases e : i' = m
                  · subst e; rw [hcm] at h2; cases h2
                  · exact HB2.out.cmp i' p x' (by omega) h2 h3 h4 h5⟩
                clear hcm
                go_wp2_with fail
                go_roundw
                case rel => exact ⟨m + 1, two', by go_num, by omega, HX, HB9⟩
                case measure => simp [intOf]; omega
              · rw [hcm] at cc
                have HCm : Hid (come m = true) := hcm
                have hbd := HBe.out.bd m ((HBe.out.mem m).1 hcm)
                have hrl := HBe.out.len
                clear hcm
                obtain ⟨q, hq⟩ : ∃ q, L[j]? = some q := ⟨_, List.getElem?_eq_getElem hjl⟩
                obtain ⟨bl, rfl, hs1, hs2, hs3, d1⟩ := HL.out j q hq
                have hqL := List.mem_of_getElem? hq
                have hqn := HNl.out q hqL
                have q1 : (q : Int) < (code.length : Int) := by omega
                obtain ⟨_, ct, cdq⟩ := HX.out.cells hqn
                have HQj : Hid (L[j]? = some q) := hq
                have HTw : Hid (dep q ≠ depN x (dep m) → Two code q) := fun hne => by
                  have hn : Next m x q := nxt_iff.1 (by rw [← HLe.out]; exact hqL)
                  have hw : Way code q (depN x (dep m)) := .step m q (dep m) x (HWy.out m HCm.out) HPx.out hn
                  exact ⟨_, _, hne, HWy.out q ((HCi.out q).2 ⟨_, hw⟩), hw⟩
                clear hq hs3 hqL
                obtain ⟨a0, a1⟩ := HX.out.at1
                obtain ⟨q0, q2, lbb⟩ := HG.out wr HX.out.bel
                rw [HRa.out] at a1
                generalize htx : takesN x = tx at *
                generalize hpx : putsN x = px at *
                generalize hdm : dep m = dm at *
                generalize hdq : dep q = dq at *
                have HEq : Hid (takesN x = tx ∧ putsN x = px ∧ dep m = dm ∧ dep q = dq) := ⟨htx, hpx, hdm, hdq⟩
                clear htx hpx hdm hdq
                have HKp : Hid (∀ wx, Below wr.heap.size wr wx → wx.cell? ⟨bl, j, none⟩ = some (.int .i64 (q : Int)) ∧ wx.cell? ⟨gD, q, none⟩ = some (.int .i64 dq) ∧ wx.cell? ⟨gD, m, none⟩ = some (.int .i64 dm) ∧ wx.cell? ⟨bp, 1, none⟩ = some (.slice (some ⟨b, o, none⟩) code.length cp) ∧ wx.cell? ⟨b, o + m * 2, none⟩ = some (.int .u8 x.op) ∧ wx.cell? ⟨b, o + m * 2 + 1, none⟩ = some (.int .i64 x.a) ∧ bl < wx.heap.size ∧ gD < wx.heap.size ∧ bp < wx.heap.size ∧ b < wx.heap.size) := fun wx hb => ⟨(hb.cell (p := ⟨bl, j, none⟩) hs2).trans d1, (hb.cell (p := ⟨gD, q, none⟩) ld).trans cdq, (hb.cell (p := ⟨gD, m, none⟩) ld).trans cd, (hb.cell (p := ⟨bp, 1, none⟩) lb).trans a1, (hb.cell (p := ⟨b, o + m * 2, none⟩) lbb).trans q0, (hb.cell (p := ⟨b, o + m * 2 + 1, none⟩) lbb).trans q2, Nat.lt_of_lt_of_le hs2 hb.size, Nat.lt_of_lt_of_le ld hb.size, Nat.lt_of_lt_of_le lb hb.size, Nat.lt_of_lt_of_le lbb hb.size⟩
                go_upto_region 27 with fail
                go_region_held3 (fun wx : World => wx.cell? ⟨bl, j, none⟩ = some (.int .i64 (q : Int)) ∧ wx.cell? ⟨gD, q, none⟩ = some (.int .i64 dq) ∧ wx.cell? ⟨gD, m, none⟩ = some (.int .i64 dm) ∧ wx.cell? ⟨bp, 1, none⟩ = some (.slice (some ⟨b, o, none⟩) code.length cp) ∧ wx.cell? ⟨b, o + m * 2, none⟩ = some (.int .u8 x.op) ∧ wx.cell? ⟨b, o + m * 2 + 1, none⟩ = some (.int .i64 x.a) ∧ bl < wx.heap.size ∧ gD < wx.heap.size ∧ bp < wx.heap.size ∧ b < wx.heap.size) (first | exact ⟨d1, cdq, cd, a1, q0, q2, hs2, ld, lb, lbb⟩ | (go_keep; done) | exact HKp.out _ ((Below.refl _ wr).drew.trans h6) | exact HKp.out _ (((Below.refl _ wr).drew.trans h6).trans (h7.mono h6.size))) (first | (go_at_call 104; refine (HTk.out _).mono ?_; rintro e w6 ⟨rfl, h6⟩) | (go_at_call 105; refine (HPt.out _).mono ?_; rintro e w7 ⟨rfl, h7⟩) | fail)
                have hw1 : IntKind.i64.wrap (dm - tx) = dm - tx := wrapI (by omega) (by omega)
                have hwv : IntKind.i64.wrap (IntKind.i64.wrap (dm - tx) + px) = dm - tx + px := by
                  rw [hw1]; exact wrapI (by omega) (by omega)
                rw [hwv, hw1]
                have hb7 : Below wr.heap.size wr w7 := ((Below.refl _ wr).drew.trans h6).trans (h7.mono h6.size)
                have HX7 : Hid (WS w w7 bp gC gT gD code.length pm ra cp (.slice rr row.length rc) row come two' dep) := HX.out.below hb7
                have HL7 : Hid (LX s0 w7 (.slice rr row.length rc) (some ⟨bl, 0, none⟩) L) := HL.out.below hb7
                have HDn : Hid (depN x dm = dm - tx + px) := by show _ = _; unfold depN; rw [HEq.out.1, HEq.out.2.1]
                have d7 := (hb7.cell (p := ⟨bl, j, none⟩) hs2).trans d1
                have ct7 := (hb7.cell (p := ⟨gT, q, none⟩) lt).trans ct
                have hs7 : bl < w7.heap.size := Nat.lt_of_lt_of_le hs2 hb7.size
                have lt7 : gT < w7.heap.size := Nat.lt_of_lt_of_le lt hb7.size
                clear h6 h7 hb7 HTk HPt a0 a1 lb lc ld lt q0 q2 lbb HKp hwv hw1 cc cd cdq ct d1 hs1 hs2 HX HL
                by_cases hne : dq = dm - tx + px
                · have z : (dq != dm - tx + px) = false := by simp [hne]
                  have HP9 : Hid (∀ q' ∈ L.take (j + 1), dep q' ≠ depN x dm → two' q' = true) := fun q' hq' hn => by
                    rw [List.take_add_one, HQj.out] at hq'
                    rcases List.mem_append.1 hq' with h | h
                    · exact HP.out q' h hn
                    · simp at h
                      subst h
                      exact absurd (by rw [HEq.out.2.2.2, HDn.out]; exact hne) hn
                  clear hne
                  go_wp2_with fail
                  go_roundw
                  case rel => exact ⟨j + 1, two', by go_num, by omega, HX7, HB2, HL7, HP9⟩
                  case measure => simp [intOf]; omega
                · have z : (dq != dm - tx + px) = true := by simp [hne]
                  have HTq : Hid (Two code q) := HTw.out (by rw [HDn.out]; exact hne)
                  have ft := HX7.out.t.fz q
                  have HX8 : Hid (WS w (w7.setCell ⟨gT, q, none⟩ (.bool true)) bp gC gT gD code.length pm ra cp (.slice rr row.length rc) row come (updB two' q) dep) := HX7.out.setT q
                  have HL8 : Hid (LX s0 (w7.setCell ⟨gT, q, none⟩ (.bool true)) (.slice rr row.length rc) (some ⟨bl, 0, none⟩) L) := HL7.out.set HLo.out.2.1 _
                  have HB8 : Hid (B2 code come dep m (updB two' q)) := ⟨fun p hp => by
                    unfold updB at hp
                    rw [Bool.or_eq_true, decide_eq_true_eq] at hp
                    rcases hp with rfl | hp
                    · exact HTq.out
                    · exact HB2.out.snd p hp, fun i' p x' h1 h2 h3 h4 h5 => by unfold updB; rw [HB2.out.cmp i' p x' h1 h2 h3 h4 h5, Bool.or_true]⟩
                  have HP8 : Hid (∀ q' ∈ L.take (j + 1), dep q' ≠ depN x dm → updB two' q q' = true) := fun q' hq' hn => by
                    rw [List.take_add_one, HQj.out] at hq'
                    unfold updB
                    rcases List.mem_append.1 hq' with h | h
                    · rw [HP.out q' h hn, Bool.or_true]
                    · simp at h; simp [h]
                  clear hne HX7 HL7
                  go_wp2_with fail
                  go_roundw
                  case rel => exact ⟨j + 1, updB two' q, by go_num, by omega, HX8, HB8, HL8, HP8⟩
                  case measure => simp [intOf]; omega
            · have j1 : ¬ (j : Int) < (L.length : Int) := by omega
              have HB9 : Hid (B2 code come dep (m + 1) two') := ⟨HB2.out.snd, fun i' p x' h1 h2 h3 h4 h5 => by
                by_cases e : i' = m
                · subst e
                  rw [HPx.out] at h3; cases h3
                  exact HP.out p (by rw [List.take_of_length_le (by omega), HLe.out]; exact nxt_iff.2 h4) h5
                · exact HB2.out.cmp i' p x' (by omega) h2 h3 h4 h5⟩
              go_wp2_with fail
              go_roundw
              case rel => exact ⟨m + 1, two', by go_num, by omega, HX, HB9⟩
              case measure => simp [intOf]; omega
        · have m1 : ¬ (m : Int) < (code.length : Int) := by omega
          have HB3 : Hid (B2 code come dep code.length two) := by
            have := HB2.out
            rwa [show m = code.length by omega] at this
          have HTl : Hid (∀ p, two p = true → p < code.length) := fun p hp => by
            obtain ⟨d, _, _, hw, _⟩ := HB2.out.snd p hp
            exact HBe.out.lt p ((HBe.out.mem p).1 ((HCi.out p).2 ⟨d, hw⟩))
          have HX3 : Hid (WS w wr bp gC gT gD code.length pm ra cp (.slice none 0 0) [] come two dep) := HX.out.empt
          have HB1e : Hid (∃ row1, B1 code row1.length row1 come dep) := ⟨row, HBe.out⟩
          clear HB2 HX HBe
          go_wp2_with fail
          clear m1
          go_loopw [7, 16] (fun vr i wr => ∃ (m : Nat) (row2 : List Nat) (r2 : Option Addr) (c2 : Nat), i = .int .i64 m ∧ vr = .slice r2 row2.length c2 ∧ m ≤ code.length ∧ Hid (WS w wr bp gC gT gD code.length pm ra cp (.slice r2 row2.length c2) row2 come two dep) ∧ Hid ((∀ p, p ∈ row2 ↔ p < m ∧ two p = true) ∧ row2.Nodup ∧ row2.length ≤ m)) (fun _ i _ => code.length - (intOf i).toNat)
          case atStart => exact ⟨0, [], none, 0, rfl, rfl, Nat.zero_le _, HX3, fun p => by simp, List.nodup_nil, Nat.le_refl _⟩
          case round =>
            clear HX3
            obtain ⟨m, row2, r2, c2, rfl, rfl, hm, HX, HM⟩ := hrel
            have hrm := HM.out.2.2
            by_cases hml : m < code.length
            · have m1 : (m : Int) < (code.length : Int) := by omega
              obtain ⟨_, ct, _⟩ := HX.out.cells hml
              obtain ⟨lb, lc, lt, ld⟩ := HX.out.lts
              cases htm : two m
              · rw [htm] at ct
                have HM9 : Hid ((∀ p, p ∈ row2 ↔ p < m + 1 ∧ two p = true) ∧ row2.Nodup ∧ row2.length ≤ m + 1) := ⟨fun p => by
                  rw [HM.out.1 p]
                  constructor
                  · rintro ⟨h1, h2⟩; exact ⟨by omega, h2⟩
                  · rintro ⟨h1, h2⟩
                    refine ⟨?_, h2⟩
                    by_cases e : p = m
                    · subst e; rw [htm] at h2; cases h2
                    · omega, HM.out.2.1, by omega⟩
                clear htm
                go_wp2_with fail
                go_roundw
                case rel => exact ⟨m + 1, row2, r2, c2, by go_num, rfl, by omega, HX, HM9⟩
                case measure => simp [intOf]; omega
              · rw [htm] at ct
                have HM9 : Hid ((∀ p, p ∈ row2 ++ [m] ↔ p < m + 1 ∧ two p = true) ∧ (row2 ++ [m]).Nodup ∧ (row2 ++ [m]).length ≤ m + 1) := by
                  refine ⟨fun p => ?_, ?_, by simp; omega⟩
                  · rw [List.mem_append, List.mem_singleton, HM.out.1 p]
                    constructor
                    · rintro (⟨h1, h2⟩ | rfl)
                      · exact ⟨by omega, h2⟩
                      · exact ⟨by omega, htm⟩
                    · rintro ⟨h1, h2⟩
                      by_cases e : p = m
                      · exact .inr e
                      · exact .inl ⟨by omega, h2⟩
                  · rw [List.nodup_append]
                    exact ⟨HM.out.2.1, by simp, fun a ha b hb => by
                      rw [List.mem_singleton.1 hb]
                      exact fun e => by have := ((HM.out.1 a).1 ha).1; omega⟩
                clear htm
                go_wp2_with (at_builtin; refine stop_of ?_)
                unfold Hid
                refine wpList_append_lies _ rfl _ _ 150 rfl w.heap.size 3 i1 (.int .i64 0) 1 8 Tryz.underlying150 hi1 hy0 hy1 hy2 rfl (by decide) (.slice r2 row2.length c2) row2.length (row2.map (fun (k : Nat) => Value.int .i64 (k : Int))) rfl (HX.out.r.alloc _) ⟨wr.heap.size, 0, none⟩ 1 1 [.int .i64 (m : Int)] rfl rfl (fun j u hu => ?_) (fun u hu => ?_) (by omega) (by unfold maxLen; omega) (by omega) (by rw [World.size_alloc]; have := HX.out.bel.size; omega) _ rfl ?_
                · rw [ad_add, Nat.zero_add]
                  exact new_cell _ #[.int .i64 (m : Int)] _ j u hu
                · simp at hu; subst hu; rfl
                intro g cap w8 hown8 hgr8 hat8 _
                have hat : ∀ g', (Value.slice (some ⟨g, 0, none⟩) (row2.length + 1) cap).ownBlock = some g' → (Value.slice r2 row2.length c2).ownBlock = some g' ∨ wr.heap.size ≤ g' := fun g' hg' => by
                  have e : g = g' := by simpa [Value.ownBlock] using hg'
                  rw [← e]
                  rcases hat8 with h | h
                  · exact .inl h
                  · rw [World.size_alloc] at h; exact .inr (by omega)
                have HX8 : Hid (WS w w8 bp gC gT gD code.length pm ra cp (.slice (some ⟨g, 0, none⟩) (row2.length + 1) cap) (row2 ++ [m]) come two dep) := HX.out.push hgr8 hown8 hat
                have HLn : Hid ((row2 ++ [m]).length = row2.length + 1) := by show _ = _; simp
                clear hown8 hgr8 hat8 hat HX HM ct lb lc lt ld
                go_wp2
                go_roundw
                case rel =>
                  refine ⟨m + 1, row2 ++ [m], some ⟨g, 0, none⟩, cap, by go_num, ?_, by omega, ?_, HM9⟩
                  · rw [HLn.out]
                  · rw [HLn.out]; exact HX8
                case measure => simp [intOf]; omega
            · have m1 : ¬ (m : Int) < (code.length : Int) := by omega
              have HB4 : Hid (B3 code come dep 0 row2 two) := by
                refine ⟨HB3.out, fun p => ?_, HM.out.2.1, fun p hp => ?_, fun j _ _ _ hj => absurd hj (Nat.not_lt_zero _)⟩
                · rw [HM.out.1 p]
                  exact ⟨fun h => ⟨by have := HTl.out p h; omega, h⟩, fun h => h.2⟩
                · have := ((HM.out.1 p).1 hp).1; omega
              clear HM HB3 HTl hrm
              go_wp2_with fail
              clear m1
              go_loopw [7, 17, 18, 19] (fun vr i _ _ wr => ∃ (k : Nat) (row3 : List Nat) (r3 : Option Addr) (c3 : Nat) (two3 : Nat → Bool), i = .int .i64 k ∧ vr = .slice r3 row3.length c3 ∧ k ≤ row3.length ∧ Hid (WS w wr bp gC gT gD code.length pm ra cp (.slice r3 row3.length c3) row3 come two3 dep) ∧ Hid (B3 code come dep k row3 two3)) (fun _ i _ _ _ => code.length - (intOf i).toNat)
              case atStart => exact ⟨0, row2, r2, c2, two, rfl, rfl, Nat.zero_le _, HX, HB4⟩
              case round =>
                clear HX HB4
                obtain ⟨k, row3, r3, c3, two3, rfl, rfl, hk, HX, HB⟩ := hrel
                have hrl := HB.out.len
                by_cases hkl : k < row3.length
                · have k1 : (k : Int) < (row3.length : Int) := by omega
                  obtain ⟨p, hp⟩ : ∃ p, row3[k]? = some p := ⟨_, List.getElem?_eq_getElem hkl⟩
                  obtain ⟨gr3, rfl, d1, lg⟩ := int_at HX.out.r hp
                  have hpr := List.mem_of_getElem? hp
                  have hpl := HB.out.lt p hpr
                  obtain ⟨x, hx⟩ : ∃ x, code[p]? = some x := ⟨_, List.getElem?_eq_getElem hpl⟩
                  have hfx := HF.out p x hx
                  have HNl : Hid (∀ q ∈ nxtL p x, q < code.length) := fun q hq => by
                    rcases nxt_iff.1 hq with ⟨h1, rfl⟩ | ⟨h1, rfl⟩
                    · have := hfx.j h1; omega
                    · exact hfx.e h1
                  have HT2 : Hid (∀ q ∈ nxtL p x, Two code q) := fun q hq => two_next (HB.out.b2.snd p ((HB.out.mem p).2 hpr)) hx (nxt_iff.1 hq)
                  have HBh : Hid (∀ W, Below w.heap.size w W → Calls Tryz.prog 103 #[.agg #[.int .i64 pm, .slice ra code.length cp], .int .i64 (p : Int)] W fun e w' => (∃ r c, e = .returned (.slice r (nxtL p x).length c) ∧ IX W.heap.size w' r (nxtL p x)) ∧ Below W.heap.size W w') := fun W hb => dBehind_any code pm p x ra cp W hl (HR.out.below hb) hx hfx
                  obtain ⟨L, hL⟩ : ∃ L, L = nxtL p x := ⟨_, rfl⟩
                  have HLe : Hid (L = nxtL p x) := hL
                  rw [← hL] at HNl HBh HT2
                  have hL2 : L.length ≤ 2 := by rw [hL]; exact nxt_len p x
                  clear hL
                  have HPx : Hid (row3[k]? = some p ∧ code[p]? = some x) := ⟨hp, hx⟩
                  clear hp hpr hx hfx
                  obtain ⟨a0, a1⟩ := HX.out.at1
                  obtain ⟨lb, lc, lt, ld⟩ := HX.out.lts
                  have HKp : Hid (∀ wx, Below wr.heap.size wr wx → wx.cell? ⟨bp, 0, none⟩ = some (.int .i64 pm) ∧ wx.cell? ⟨bp, 1, none⟩ = some (.slice ra code.length cp) ∧ wx.cell? ⟨gr3, k, none⟩ = some (.int .i64 (p : Int)) ∧ bp < wx.heap.size ∧ gr3 < wx.heap.size) := fun wx hb => ⟨(hb.cell (p := ⟨bp, 0, none⟩) lb).trans a0, (hb.cell (p := ⟨bp, 1, none⟩) lb).trans a1, (hb.cell (p := ⟨gr3, k, none⟩) lg).trans d1, Nat.lt_of_lt_of_le lb hb.size, Nat.lt_of_lt_of_le lg hb.size⟩
                  have HBd : Hid (Below w.heap.size w wr.drew) := HX.out.bel.drew
                  go_upto_region 38 with fail
                  go_region_held3 (fun wx : World => wx.cell? ⟨bp, 0, none⟩ = some (.int .i64 pm) ∧ wx.cell? ⟨bp, 1, none⟩ = some (.slice ra code.length cp) ∧ wx.cell? ⟨gr3, k, none⟩ = some (.int .i64 (p : Int)) ∧ bp < wx.heap.size ∧ gr3 < wx.heap.size) (first | exact ⟨a0, a1, d1, lb, lg⟩ | (go_keep; done) | exact HKp.out _ ((Below.refl _ wr).drew.trans h5)) (first | (go_at_call 103; refine (HBh.out _ HBd.out).mono ?_; rintro e w5 ⟨⟨rl, cl, rfl, hix⟩, h5⟩) | fail)
                  have hb5 : Below wr.heap.size wr w5 := (Below.refl _ wr).drew.trans h5
                  have HX5 : Hid (WS w w5 bp gC gT gD code.length pm ra cp (.slice (some ⟨gr3, 0, none⟩) row3.length c3) row3 come two3 dep) := HX.out.below hb5
                  have HL5 : Hid (LX wr.heap.size w5 (.slice (some ⟨gr3, 0, none⟩) row3.length c3) rl L) := lx_of hix (fun g hg => (HX.out.r.lt g hg).2)
                  have HLo : Hid (gC < wr.heap.size ∧ gT < wr.heap.size ∧ gD < wr.heap.size) := ⟨lc, lt, ld⟩
                  clear h5 hb5 hix HBh HBd HKp a0 a1 lb lc lt ld HX d1 lg
                  generalize wr.heap.size = s0 at *
                  go_wp2_with fail
                  go_loopw [7, 19] (fun vr i wr => ∃ (j : Nat) (row' : List Nat) (rr' : Option Addr) (rc' : Nat) (two' : Nat → Bool), i = .int .i64 j ∧ vr = .slice rr' row'.length rc' ∧ j ≤ L.length ∧ Hid (WS w wr bp gC gT gD code.length pm ra cp (.slice rr' row'.length rc') row' come two' dep) ∧ Hid (B3 code come dep k row' two') ∧ Hid (LX s0 wr (.slice rr' row'.length rc') rl L) ∧ Hid (row'[k]? = some p ∧ ∀ q ∈ L.take j, two' q = true)) (fun _ i _ => L.length - (intOf i).toNat)
                  case atStart => exact ⟨0, row3, _, c3, two3, rfl, rfl, Nat.zero_le _, HX5, HB, HL5, HPx.out.1, fun q hq => by simp at hq⟩
                  case round =>
                    clear HX5 HB HL5
                    obtain ⟨j, row', rr', rc', two', rfl, rfl, hj, HX, HB, HL, HP⟩ := hrel
                    have hrl' := HB.out.len
                    by_cases hjl : j < L.length
                    · have j1 : (j : Int) < (L.length : Int) := by omega
                      obtain ⟨q, hq⟩ : ∃ q, L[j]? = some q := ⟨_, List.getElem?_eq_getElem hjl⟩
                      obtain ⟨bl, rfl, hs1, hs2, hs3, d1⟩ := HL.out j q hq
                      have hqn := HNl.out q (List.mem_of_getElem? hq)
                      have HTq : Hid (Two code q) := HT2.out q (List.mem_of_getElem? hq)
                      have q1 : (q : Int) < (code.length : Int) := by omega
                      obtain ⟨_, ct, _⟩ := HX.out.cells hqn
                      obtain ⟨lb, lc, lt, ld⟩ := HX.out.lts
                      have HQj : Hid (L[j]? = some q) := hq
                      clear hq hs3
                      cases htq : two' q
                      · have HCq : Hid (two' q = false) := htq
                        rw [htq] at ct
                        clear htq
                        have ft := HX.out.t.fz q
                        have HXd : Hid (WS w (wr.setCell ⟨gT, q, none⟩ (.bool true)) bp gC gT gD code.length pm ra cp (.slice rr' row'.length rc') row' come (updB two' q) dep) := HX.out.setT q
                        have HLd : Hid (LX s0 (wr.setCell ⟨gT, q, none⟩ (.bool true)) (.slice rr' row'.length rc') (some ⟨bl, 0, none⟩) L) := HL.out.set HLo.out.2.1 _
                        go_upto_region 44 with fail
                        generalize wr.setCell ⟨gT, q, none⟩ (.bool true) = W9 at *
                        have d9 : W9.cell? ⟨bl, j, none⟩ = some (.int .i64 (q : Int)) := by
                          obtain ⟨b2, e2, _, e3, _, e5⟩ := HLd.out j q HQj.out
                          cases e2; exact e5
                        have lbl : bl < W9.heap.size := by
                          obtain ⟨b2, e2, _, e3, _, _⟩ := HLd.out j q HQj.out
                          cases e2; exact e3
                        clear ct ft lb lc lt ld d1 hs2
                        go_wp2_with (at_builtin; refine stop_of ?_)
                        unfold Hid
                        refine wpList_append_lies _ rfl _ _ 150 rfl w.heap.size 3 i1 (.int .i64 0) 1 8 Tryz.underlying150 hi1 hy0 hy1 hy2 rfl (by decide) (.slice rr' row'.length rc') row'.length (row'.map (fun (k : Nat) => Value.int .i64 (k : Int))) rfl (HXd.out.r.alloc _) ⟨W9.heap.size, 0, none⟩ 1 1 [.int .i64 (q : Int)] rfl rfl (fun j u hu => ?_) (fun u hu => ?_) (by omega) (by unfold maxLen; omega) (by omega) (by rw [World.size_alloc]; have := HXd.out.bel.size; omega) _ rfl ?_
                        · rw [ad_add, Nat.zero_add]
                          exact new_cell _ #[.int .i64 (q : Int)] _ j u hu
                        · simp at hu; subst hu; rfl
                        intro g cap w8 hown8 hgr8 hat8 _
                        have hat : ∀ g', (Value.slice (some ⟨g, 0, none⟩) (row'.length + 1) cap).ownBlock = some g' → (Value.slice rr' row'.length rc').ownBlock = some g' ∨ W9.heap.size ≤ g' := fun g' hg' => by
                          have e : g = g' := by simpa [Value.ownBlock] using hg'
                          rw [← e]
                          rcases hat8 with h | h
                          · exact .inl h
                          · rw [World.size_alloc] at h; exact .inr (by omega)
                        have HX8 : Hid (WS w w8 bp gC gT gD code.length pm ra cp (.slice (some ⟨g, 0, none⟩) (row'.length + 1) cap) (row' ++ [q]) come (updB two' q) dep) := HXd.out.push hgr8 hown8 hat
                        have HL8 : Hid (LX s0 w8 (.slice (some ⟨g, 0, none⟩) (row'.length + 1) cap) (some ⟨bl, 0, none⟩) L) := HLd.out.push hgr8 hat
                        have HB8 : Hid (B3 code come dep k (row' ++ [q]) (updB two' q)) := HB.out.put hqn HCq.out HTq.out (by have := (List.getElem?_eq_some_iff.1 HP.out.1).1; omega)
                        have HP8 : Hid ((row' ++ [q])[k]? = some p ∧ ∀ q' ∈ L.take (j + 1), updB two' q q' = true) := by
                          refine ⟨by rw [List.getElem?_append_left (List.getElem?_eq_some_iff.1 HP.out.1).1]; exact HP.out.1, fun q' hq' => ?_⟩
                          rw [List.take_add_one, HQj.out] at hq'
                          unfold updB
                          rcases List.mem_append.1 hq' with h | h
                          · rw [HP.out.2 q' h, Bool.or_true]
                          · simp at h; simp [h]
                        have HLn : Hid ((row' ++ [q]).length = row'.length + 1) := by show _ = _; simp
                        clear hown8 hgr8 hat8 hat HXd HLd HB HP HL HX d9 lbl
                        go_wp2
                        go_roundw
                        case rel =>
                          refine ⟨j + 1, row' ++ [q], some ⟨g, 0, none⟩, cap, _, by go_num, ?_, by omega, ?_, HB8, ?_, HP8⟩
                          · rw [HLn.out]
                          · rw [HLn.out]; exact HX8
                          · rw [HLn.out]; exact HL8
                        case measure => simp [intOf]; omega
                      · rw [htq] at ct
                        have HP8 : Hid (row'[k]? = some p ∧ ∀ q' ∈ L.take (j + 1), two' q' = true) := by
                          refine ⟨HP.out.1, fun q' hq' => ?_⟩
                          rw [List.take_add_one, HQj.out] at hq'
                          rcases List.mem_append.1 hq' with h | h
                          · exact HP.out.2 q' h
                          · simp at h; rw [h]; exact htq
                        clear htq
                        go_wp2
                        go_roundw
                        case rel => exact ⟨j + 1, row', rr', rc', two', by go_num, rfl, by omega, HX, HB, HL, HP8⟩
                        case measure => simp [intOf]; omega
                    · have j1 : ¬ (j : Int) < (L.length : Int) := by omega
                      have HB9 : Hid (B3 code come dep (k + 1) row' two') := HB.out.next HP.out.1 HPx.out.2 (fun q hq => HP.out.2 q (by rw [List.take_of_length_le (by omega), HLe.out]; exact hq))
                      have hk9 := (List.getElem?_eq_some_iff.1 HP.out.1).1
                      go_wp2_with fail
                      go_roundw
                      case rel => exact ⟨k + 1, row', rr', rc', two', by go_num, rfl, by omega, HX, HB9⟩
                      case measure => simp [intOf]; omega
                · have k1 : ¬ (k : Int) < (row3.length : Int) := by omega
                  have HDoc : Hid (DocW code come two3 dep) := by
                    obtain ⟨row1, h1⟩ := HB1e.out
                    have h3 := HB.out
                    rw [show k = row3.length by omega] at h3
                    exact B3.doc h1 h3
                  clear HB HB1e hk
                  go_wp2_with fail
                  clear k1
                  have HLm : Hid ((endM code).met.length = code.length) := HE.out.1.ok.len
                  go_loopw [20] (fun i wr => ∃ m : Nat, i = .int .i64 m ∧ m ≤ code.length ∧ Hid (WS w wr bp gC gT gD code.length pm ra cp (.slice r3 row3.length c3) row3 come two3 dep) ∧ Hid (wrongAt (endM code).met code 0 = wrongAt ((endM code).met.drop m) (code.drop m) m)) (fun i _ => code.length - (intOf i).toNat)
                  case atStart => exact ⟨0, rfl, Nat.zero_le _, HX, by show _ = _; simp⟩
                  case round =>
                    clear HX
                    obtain ⟨m, rfl, hm, HX, HWr⟩ := hrel
                    by_cases hml : m < code.length
                    · have m1 : (m : Int) < (code.length : Int) := by omega
                      obtain ⟨x, hx⟩ : ∃ x, code[m]? = some x := ⟨_, List.getElem?_eq_getElem hml⟩
                      obtain ⟨a, ha⟩ : ∃ a, (endM code).met[m]? = some a := ⟨_, List.getElem?_eq_getElem (by rw [HLm.out]; exact hml)⟩
                      have hws := wrong_same HE.out.1 HE.out.2 HDoc.out ha (takesN x)
                      have hst : wrongAt (endM code).met code 0 = if isWrongB a (takesN x) then some m else wrongAt ((endM code).met.drop (m + 1)) (code.drop (m + 1)) (m + 1) := by
                        rw [HWr.out, List.drop_eq_getElem_cons hml, List.drop_eq_getElem_cons (by rw [HLm.out]; exact hml), (List.getElem?_eq_some_iff.1 hx).2, (List.getElem?_eq_some_iff.1 ha).2]
                        rfl
                      rw [hws] at hst
                      have HSt : Hid (wrongAt (endM code).met code 0 = if (!come m || (two3 m || (decide (dep m < takesN x) || decide (255 < dep m)))) then some m else wrongAt ((endM code).met.drop (m + 1)) (code.drop (m + 1)) (m + 1)) := hst
                      have hfx := HF.out m x hx
                      have hox := HO.out x (List.mem_of_getElem? hx)
                      have HTk : Hid (∀ W, Calls Tryz.prog 104 #[.agg #[.int .u8 x.op, .int .i64 x.a]] W fun e w' => e = .returned (.int .i64 (takesN x)) ∧ Below W.heap.size W w') := fun W => dTakes_any x.op x.a W hox.1 hox.2 hfx.pr hfx.cl
                      obtain ⟨b, o, hor, hcs⟩ := HR.out.below HX.out.bel
                      obtain ⟨lbb, q0, q2, _, _⟩ := hcs m x hx
                      have hra : ra = some ⟨b, o, none⟩ := hor.resolve_left (by omega)
                      obtain ⟨cc, ct, cd⟩ := HX.out.cells hml
                      obtain ⟨lb, lc, lt, ld⟩ := HX.out.lts
                      obtain ⟨a0, a1⟩ := HX.out.at1
                      have HA1 : Hid (wr.cell? ⟨bp, 1, none⟩ = some (.slice (some ⟨b, o, none⟩) code.length cp)) := by rw [← hra]; exact a1
                      clear hst hws ha hx hfx hox hor hcs hra a0 a1
                      have HXd : Hid (WS w wr.drew bp gC gT gD code.length pm ra cp (.slice r3 row3.length c3) row3 come two3 dep) := HX.out.below ((Below.refl _ wr).drew)
                      cases hcm : come m
                      · rw [hcm] at cc HSt
                        have HV : Hid (wrI code = (m : Int)) := by show _ = _; unfold wrI; rw [HSt.out]; rfl
                        clear hcm HSt
                        go_upto_region 48 with fail
                        go_quiet (fail)
                        go_wp2
                        go_ret
                        exact ⟨by rw [HV.out]; rfl, below_drewN HX.out.bel _⟩
                      · rw [hcm] at cc HSt
                        clear hcm
                        cases htm : two3 m
                        · rw [htm] at ct HSt
                          clear htm
                          have a1 := HA1.out
                          generalize takesN x = tx at *
                          generalize dep m = dm at *
                          have HKp : Hid (∀ wx, Below wr.heap.size wr wx → wx.cell? ⟨gC, m, none⟩ = some (.bool true) ∧ wx.cell? ⟨gT, m, none⟩ = some (.bool false) ∧ wx.cell? ⟨gD, m, none⟩ = some (.int .i64 dm) ∧ wx.cell? ⟨bp, 1, none⟩ = some (.slice (some ⟨b, o, none⟩) code.length cp) ∧ wx.cell? ⟨b, o + m * 2, none⟩ = some (.int .u8 x.op) ∧ wx.cell? ⟨b, o + m * 2 + 1, none⟩ = some (.int .i64 x.a) ∧ gC < wx.heap.size ∧ gT < wx.heap.size ∧ gD < wx.heap.size ∧ bp < wx.heap.size ∧ b < wx.heap.size) := fun wx hb => ⟨(hb.cell (p := ⟨gC, m, none⟩) lc).trans cc, (hb.cell (p := ⟨gT, m, none⟩) lt).trans ct, (hb.cell (p := ⟨gD, m, none⟩) ld).trans cd, (hb.cell (p := ⟨bp, 1, none⟩) lb).trans a1, (hb.cell (p := ⟨b, o + m * 2, none⟩) lbb).trans q0, (hb.cell (p := ⟨b, o + m * 2 + 1, none⟩) lbb).trans q2, Nat.lt_of_lt_of_le lc hb.size, Nat.lt_of_lt_of_le lt hb.size, Nat.lt_of_lt_of_le ld hb.size, Nat.lt_of_lt_of_le lb hb.size, Nat.lt_of_lt_of_le lbb hb.size⟩
                          by_cases hlt1 : dm < tx
                          · have z2 : decide (dm < tx) = true := decide_eq_true hlt1
                            have HV : Hid (wrI code = (m : Int)) := by show _ = _; unfold wrI; rw [HSt.out, z2]; rfl
                            clear hlt1 HSt
                            go_upto_region 48 with fail
                            have hmx : Tryz.prog.follows .mixedOrders = true := by kernel_rfl
                            refine wp_region_held_drew (S := (fun wx : World => wx.cell? ⟨gC, m, none⟩ = some (.bool true) ∧ wx.cell? ⟨gT, m, none⟩ = some (.bool false) ∧ wx.cell? ⟨gD, m, none⟩ = some (.int .i64 dm) ∧ wx.cell? ⟨bp, 1, none⟩ = some (.slice (some ⟨b, o, none⟩) code.length cp) ∧ wx.cell? ⟨b, o + m * 2, none⟩ = some (.int .u8 x.op) ∧ wx.cell? ⟨b, o + m * 2 + 1, none⟩ = some (.int .i64 x.a) ∧ gC < wx.heap.size ∧ gT < wx.heap.size ∧ gD < wx.heap.size ∧ bp < wx.heap.size ∧ b < wx.heap.size)) hmx (HKp.out _ ((Below.refl _ wr).drew)) (fun hHeld => ?_)
                            refine wpAnyH_take (i := 0) (oi := { dst := some 207, op := Op.move (Operand.tmp 4), type := 167, pos := "ref.go:115", after := #[], guard := none }) (v := ?v0) rfl (by kernel_rfl) (by kernel_rfl) (by kernel_rfl) (fun _ _ _ h => h) (Or.inl ⟨by rfl, ?hy0⟩) (by assumption) ?rest0
                            case hy0 => (intro w hSw; obtain ⟨s1, s2, s3, s4, s5, s6, s7, s8, s9, s10, s11⟩ := hSw; go_simp; try with_reducible rfl)
                            try simp only [Act.put, List.setIfInBounds_toArray, List.set_cons_zero, List.set_cons_succ]
                            refine wpAnyH_take (i := 1) (oi := { dst := some 208, op := Op.move (Operand.tmp 20), type := 3, pos := "ref.go:115", after := #[], guard := none }) (v := ?v1) rfl (by kernel_rfl) (by kernel_rfl) (by kernel_rfl) (fun _ _ _ h => h) (Or.inl ⟨by rfl, ?hy1⟩) (by assumption) ?rest1
                            case hy1 => (intro w hSw; obtain ⟨s1, s2, s3, s4, s5, s6, s7, s8, s9, s10, s11⟩ := hSw; go_simp; try with_reducible rfl)
                            try simp only [Act.put, List.setIfInBounds_toArray, List.set_cons_zero, List.set_cons_succ]
                            refine wpAnyH_take (i := 2) (oi := { dst := some 209, op := Op.indexAddr 167 (Operand.tmp 207) (Operand.tmp 208), type := 0, pos := "ref.go:115", after := #[{ on := 0, ground := Ground.data }, { on := 1, ground := Ground.data }], guard := none }) (v := ?v2) rfl (by kernel_rfl) (by kernel_rfl) (by kernel_rfl) (fun _ _ _ h => h) (Or.inl ⟨by rfl, ?hy2⟩) (by assumption) ?rest2
                            case hy2 => (intro w hSw; obtain ⟨s1, s2, s3, s4, s5, s6, s7, s8, s9, s10, s11⟩ := hSw; go_simp; try with_reducible rfl)
                            try simp only [Act.put, List.setIfInBounds_toArray, List.set_cons_zero, List.set_cons_succ]
                            refine wpAnyH_take (i := 3) (oi := { dst := some 210, op := Op.load 4 (Operand.tmp 209), type := 4, pos := "ref.go:115", after := #[{ on := 2, ground := Ground.data }], guard := none }) (v := ?v3) rfl (by kernel_rfl) (by kernel_rfl) (by kernel_rfl) (fun _ _ _ h => h) (Or.inl ⟨by rfl, ?hy3⟩) (by assumption) ?rest3
                            case hy3 => (intro w hSw; obtain ⟨s1, s2, s3, s4, s5, s6, s7, s8, s9, s10, s11⟩ := hSw; go_simp; try with_reducible rfl)
                            try simp only [Act.put, List.setIfInBounds_toArray, List.set_cons_zero, List.set_cons_succ]
                            refine wpAnyH_take (i := 4) (oi := { dst := some 211, op := Op.unOp UnOp.not 4 (Operand.tmp 210), type := 4, pos := "ref.go:115", after := #[{ on := 3, ground := Ground.data }], guard := none }) (v := ?v4) rfl (by kernel_rfl) (by kernel_rfl) (by kernel_rfl) (fun _ _ _ h => h) (Or.inl ⟨by rfl, ?hy4⟩) (by assumption) ?rest4
                            case hy4 => (intro w hSw; obtain ⟨s1, s2, s3, s4, s5, s6, s7, s8, s9, s10, s11⟩ := hSw; go_simp; try with_reducible rfl)
                            try simp only [Act.put, List.setIfInBounds_toArray, List.set_cons_zero, List.set_cons_succ]
                            refine wpAnyH_take (i := 5) (oi := { dst := some 212, op := Op.move (Operand.tmp 211), type := 4, pos := "ref.go:115", after := #[{ on := 4, ground := Ground.data }], guard := none }) (v := ?v5) rfl (by kernel_rfl) (by kernel_rfl) (by kernel_rfl) (fun _ _ _ h => h) (Or.inl ⟨by rfl, ?hy5⟩) (by assumption) ?rest5
                            case hy5 => (intro w hSw; obtain ⟨s1, s2, s3, s4, s5, s6, s7, s8, s9, s10, s11⟩ := hSw; go_simp; try with_reducible rfl)
                            try simp only [Act.put, List.setIfInBounds_toArray, List.set_cons_zero, List.set_cons_succ]
                            refine wpAnyH_take (i := 6) (oi := { dst := some 213, op := Op.move (Operand.tmp 5), type := 167, pos := "ref.go:115", after := #[{ on := 5, ground := Ground.guard }], guard := some (5, false) }) (v := ?v6) rfl (by kernel_rfl) (by kernel_rfl) (by kernel_rfl) (fun _ _ _ h => h) (Or.inl ⟨by rfl, ?hy6⟩) (by assumption) ?rest6
                            case hy6 => (intro w hSw; obtain ⟨s1, s2, s3, s4, s5, s6, s7, s8, s9, s10, s11⟩ := hSw; go_simp; try with_reducible rfl)
                            try simp only [Act.put, List.setIfInBounds_toArray, List.set_cons_zero, List.set_cons_succ]
                            refine wpAnyH_take (i := 7) (oi := { dst := some 214, op := Op.move (Operand.tmp 20), type := 3, pos := "ref.go:115", after := #[{ on := 5, ground := Ground.guard }], guard := some (5, false) }) (v := ?v7) rfl (by kernel_rfl) (by kernel_rfl) (by kernel_rfl) (fun _ _ _ h => h) (Or.inl ⟨by rfl, ?hy7⟩) (by assumption) ?rest7
                            case hy7 => (intro w hSw; obtain ⟨s1, s2, s3, s4, s5, s6, s7, s8, s9, s10, s11⟩ := hSw; go_simp; try with_reducible rfl)
                            try simp only [Act.put, List.setIfInBounds_toArray, List.set_cons_zero, List.set_cons_succ]
                            refine wpAnyH_take (i := 8) (oi := { dst := some 215, op := Op.indexAddr 167 (Operand.tmp 213) (Operand.tmp 214), type := 0, pos := "ref.go:115", after := #[{ on := 6, ground := Ground.data }, { on := 7, ground := Ground.data }, { on := 5, ground := Ground.guard }], guard := some (5, false) }) (v := ?v8) rfl (by kernel_rfl) (by kernel_rfl) (by kernel_rfl) (fun _ _ _ h => h) (Or.inl ⟨by rfl, ?hy8⟩) (by assumption) ?rest8
                            case hy8 => (intro w hSw; obtain ⟨s1, s2, s3, s4, s5, s6, s7, s8, s9, s10, s11⟩ := hSw; go_simp; try with_reducible rfl)
                            try simp only [Act.put, List.setIfInBounds_toArray, List.set_cons_zero, List.set_cons_succ]
                            refine wpAnyH_take (i := 9) (oi := { dst := some 216, op := Op.load 4 (Operand.tmp 215), type := 4, pos := "ref.go:115", after := #[{ on := 8, ground := Ground.data }, { on := 5, ground := Ground.guard }], guard := some (5, false) }) (v := ?v9) rfl (by kernel_rfl) (by kernel_rfl) (by kernel_rfl) (fun _ _ _ h => h) (Or.inl ⟨by rfl, ?hy9⟩) (by assumption) ?rest9
                            case hy9 => (intro w hSw; obtain ⟨s1, s2, s3, s4, s5, s6, s7, s8, s9, s10, s11⟩ := hSw; go_simp; try with_reducible rfl)
                            try simp only [Act.put, List.setIfInBounds_toArray, List.set_cons_zero, List.set_cons_succ]
                            refine wpAnyH_take (i := 10) (oi := { dst := some 217, op := Op.pick (Operand.tmp 212) (Operand.const (Value.bool true)) (Operand.tmp 216), type := 4, pos := "ref.go:115", after := #[{ on := 5, ground := Ground.data }, { on := 9, ground := Ground.data }], guard := none }) (v := ?v10) rfl (by kernel_rfl) (by kernel_rfl) (by kernel_rfl) (fun _ _ _ h => h) (Or.inl ⟨by rfl, ?hy10⟩) (by assumption) ?rest10
                            case hy10 => (intro w hSw; obtain ⟨s1, s2, s3, s4, s5, s6, s7, s8, s9, s10, s11⟩ := hSw; go_simp; try with_reducible rfl)
                            try simp only [Act.put, List.setIfInBounds_toArray, List.set_cons_zero, List.set_cons_succ]
                            refine wpAnyH_take (i := 11) (oi := { dst := some 218, op := Op.move (Operand.tmp 217), type := 4, pos := "ref.go:115", after := #[{ on := 10, ground := Ground.data }, { on := 5, ground := Ground.chain }], guard := none }) (v := ?v11) rfl (by kernel_rfl) (by kernel_rfl) (by kernel_rfl) (fun _ _ _ h => h) (Or.inl ⟨by rfl, ?hy11⟩) (by assumption) ?rest11
                            case hy11 => (intro w hSw; obtain ⟨s1, s2, s3, s4, s5, s6, s7, s8, s9, s10, s11⟩ := hSw; go_simp; try with_reducible rfl)
                            try simp only [Act.put, List.setIfInBounds_toArray, List.set_cons_zero, List.set_cons_succ]
                            refine wpAnyH_take (i := 12) (oi := { dst := some 219, op := Op.move (Operand.tmp 6), type := 150, pos := "ref.go:115", after := #[{ on := 11, ground := Ground.guard }], guard := some (11, false) }) (v := ?v12) rfl (by kernel_rfl) (by kernel_rfl) (by kernel_rfl) (fun _ _ _ h => h) (Or.inl ⟨by rfl, ?hy12⟩) (by assumption) ?rest12
                            case hy12 => (intro w hSw; obtain ⟨s1, s2, s3, s4, s5, s6, s7, s8, s9, s10, s11⟩ := hSw; go_simp; try with_reducible rfl)
                            try simp only [Act.put, List.setIfInBounds_toArray, List.set_cons_zero, List.set_cons_succ]
                            refine wpAnyH_take (i := 13) (oi := { dst := some 220, op := Op.move (Operand.tmp 20), type := 3, pos := "ref.go:115", after := #[{ on := 11, ground := Ground.guard }], guard := some (11, false) }) (v := ?v13) rfl (by kernel_rfl) (by kernel_rfl) (by kernel_rfl) (fun _ _ _ h => h) (Or.inl ⟨by rfl, ?hy13⟩) (by assumption) ?rest13
                            case hy13 => (intro w hSw; obtain ⟨s1, s2, s3, s4, s5, s6, s7, s8, s9, s10, s11⟩ := hSw; go_simp; try with_reducible rfl)
                            try simp only [Act.put, List.setIfInBounds_toArray, List.set_cons_zero, List.set_cons_succ]
                            refine wpAnyH_take (i := 14) (oi := { dst := some 221, op := Op.indexAddr 150 (Operand.tmp 219) (Operand.tmp 220), type := 0, pos := "ref.go:115", after := #[{ on := 12, ground := Ground.data }, { on := 13, ground := Ground.data }, { on := 11, ground := Ground.guard }], guard := some (11, false) }) (v := ?v14) rfl (by kernel_rfl) (by kernel_rfl) (by kernel_rfl) (fun _ _ _ h => h) (Or.inl ⟨by rfl, ?hy14⟩) (by assumption) ?rest14
                            case hy14 => (intro w hSw; obtain ⟨s1, s2, s3, s4, s5, s6, s7, s8, s9, s10, s11⟩ := hSw; go_simp; try with_reducible rfl)
                            try simp only [Act.put, List.setIfInBounds_toArray, List.set_cons_zero, List.set_cons_succ]
                            refine wpAnyH_take (i := 15) (oi := { dst := some 222, op := Op.load 3 (Operand.tmp 221), type := 3, pos := "ref.go:115", after := #[{ on := 14, ground := Ground.data }, { on := 11, ground := Ground.guard }], guard := some (11, false) }) (v := ?v15) rfl (by kernel_rfl) (by kernel_rfl) (by kernel_rfl) (fun _ _ _ h => h) (Or.inl ⟨by rfl, ?hy15⟩) (by assumption) ?rest15
                            case hy15 => (intro w hSw; obtain ⟨s1, s2, s3, s4, s5, s6, s7, s8, s9, s10, s11⟩ := hSw; go_simp; try with_reducible rfl)
                            try simp only [Act.put, List.setIfInBounds_toArray, List.set_cons_zero, List.set_cons_succ]
                            refine wpAnyH_take (i := 16) (oi := { dst := some 223, op := Op.fieldAddr 64 (Operand.tmp 1) 1, type := 0, pos := "ref.go:115", after := #[{ on := 11, ground := Ground.guard }], guard := some (11, false) }) (v := ?v16) rfl (by kernel_rfl) (by kernel_rfl) (by kernel_rfl) (fun _ _ _ h => h) (Or.inl ⟨by rfl, ?hy16⟩) (by assumption) ?rest16
                            case hy16 => (intro w hSw; obtain ⟨s1, s2, s3, s4, s5, s6, s7, s8, s9, s10, s11⟩ := hSw; go_simp; try with_reducible rfl)
                            try simp only [Act.put, List.setIfInBounds_toArray, List.set_cons_zero, List.set_cons_succ]
                            refine wpAnyH_take (i := 17) (oi := { dst := some 224, op := Op.load 62 (Operand.tmp 223), type := 62, pos := "ref.go:115", after := #[{ on := 16, ground := Ground.data }, { on := 11, ground := Ground.guard }], guard := some (11, false) }) (v := ?v17) rfl (by kernel_rfl) (by kernel_rfl) (by kernel_rfl) (fun _ _ _ h => h) (Or.inl ⟨by rfl, ?hy17⟩) (by assumption) ?rest17
                            case hy17 => (intro w hSw; obtain ⟨s1, s2, s3, s4, s5, s6, s7, s8, s9, s10, s11⟩ := hSw; go_simp; try with_reducible rfl)
                            try simp only [Act.put, List.setIfInBounds_toArray, List.set_cons_zero, List.set_cons_succ]
                            refine wpAnyH_take (i := 18) (oi := { dst := some 225, op := Op.move (Operand.tmp 20), type := 3, pos := "ref.go:115", after := #[{ on := 11, ground := Ground.guard }], guard := some (11, false) }) (v := ?v18) rfl (by kernel_rfl) (by kernel_rfl) (by kernel_rfl) (fun _ _ _ h => h) (Or.inl ⟨by rfl, ?hy18⟩) (by assumption) ?rest18
                            case hy18 => (intro w hSw; obtain ⟨s1, s2, s3, s4, s5, s6, s7, s8, s9, s10, s11⟩ := hSw; go_simp; try with_reducible rfl)
                            try simp only [Act.put, List.setIfInBounds_toArray, List.set_cons_zero, List.set_cons_succ]
                            refine wpAnyH_take (i := 19) (oi := { dst := some 226, op := Op.indexAddr 62 (Operand.tmp 224) (Operand.tmp 225), type := 0, pos := "ref.go:115", after := #[{ on := 17, ground := Ground.data }, { on := 18, ground := Ground.data }, { on := 11, ground := Ground.guard }], guard := some (11, false) }) (v := ?v19) rfl (by kernel_rfl) (by kernel_rfl) (by kernel_rfl) (fun _ _ _ h => h) (Or.inl ⟨by rfl, ?hy19⟩) (by assumption) ?rest19
                            case hy19 => (intro w hSw; obtain ⟨s1, s2, s3, s4, s5, s6, s7, s8, s9, s10, s11⟩ := hSw; go_simp; try with_reducible rfl)
                            try simp only [Act.put, List.setIfInBounds_toArray, List.set_cons_zero, List.set_cons_succ]
                            refine wpAnyH_take (i := 20) (oi := { dst := some 227, op := Op.load 79 (Operand.tmp 226), type := 79, pos := "ref.go:115", after := #[{ on := 19, ground := Ground.data }, { on := 11, ground := Ground.guard }], guard := some (11, false) }) (v := ?v20) rfl (by kernel_rfl) (by kernel_rfl) (by kernel_rfl) (fun _ _ _ h => h) (Or.inl ⟨by rfl, ?hy20⟩) (by assumption) ?rest20
                            case hy20 => (intro w hSw; obtain ⟨s1, s2, s3, s4, s5, s6, s7, s8, s9, s10, s11⟩ := hSw; go_simp; try with_reducible rfl)
                            try simp only [Act.put, List.setIfInBounds_toArray, List.set_cons_zero, List.set_cons_succ]
                            refine wpAnyH_ready (rs := [21]) (by kernel_rfl) (by simp) ?_
                            refine AllReadyH.cons (o := { dst := some 228, op := Op.call { callee := Callee.value (Operand.func 104), args := #[Operand.tmp 227], argTypes := #[79] }, type := 3, pos := "ref.go:115", after := #[{ on := 20, ground := Ground.data }, { on := 11, ground := Ground.chain }, { on := 11, ground := Ground.guard }], guard := some (11, false) }) rfl (fun K hK => ?_) AllReadyH.nil
                            go_simp
                            go_at_call 104
                            refine (HTk.out _).mono ?_
                            rintro e w6 ⟨rfl, h6⟩
                            go_wp2_with fail
                            refine hK.out _ _ (HKp.out _ ((Below.refl _ wr).drew.trans h6)) (fun hHeld => ?_)
                            clear hK K
                            try simp only [Act.put, List.setIfInBounds_toArray, List.set_cons_zero, List.set_cons_succ]
                            refine wpAnyH_take (i := 22) (oi := { dst := some 229, op := Op.binOp BinOp.lss 3 (Operand.tmp 222) (Operand.tmp 228) 3, type := 4, pos := "ref.go:115", after := #[{ on := 15, ground := Ground.data }, { on := 21, ground := Ground.data }, { on := 11, ground := Ground.guard }], guard := some (11, false) }) (v := ?v22) rfl (by kernel_rfl) (by kernel_rfl) (by kernel_rfl) (fun _ _ _ h => h) (Or.inl ⟨by rfl, ?hy22⟩) (by assumption) ?rest22
                            case hy22 => (intro w hSw; obtain ⟨s1, s2, s3, s4, s5, s6, s7, s8, s9, s10, s11⟩ := hSw; go_simp; try with_reducible rfl)
                            try simp only [Act.put, List.setIfInBounds_toArray, List.set_cons_zero, List.set_cons_succ]
                            refine wpAnyH_take (i := 23) (oi := { dst := some 230, op := Op.pick (Operand.tmp 218) (Operand.const (Value.bool true)) (Operand.tmp 229), type := 4, pos := "ref.go:115", after := #[{ on := 11, ground := Ground.data }, { on := 22, ground := Ground.data }], guard := none }) (v := ?v23) rfl (by kernel_rfl) (by kernel_rfl) (by kernel_rfl) (fun _ _ _ h => h) (Or.inl ⟨by rfl, ?hy23⟩) (by assumption) ?rest23
                            case hy23 => (intro w hSw; obtain ⟨s1, s2, s3, s4, s5, s6, s7, s8, s9, s10, s11⟩ := hSw; go_simp; try with_reducible rfl)
                            try simp only [Act.put, List.setIfInBounds_toArray, List.set_cons_zero, List.set_cons_succ]
                            refine wpAnyH_take (i := 24) (oi := { dst := some 231, op := Op.move (Operand.tmp 230), type := 4, pos := "ref.go:115", after := #[{ on := 23, ground := Ground.data }, { on := 21, ground := Ground.chain }], guard := none }) (v := ?v24) rfl (by kernel_rfl) (by kernel_rfl) (by kernel_rfl) (fun _ _ _ h => h) (Or.inl ⟨by rfl, ?hy24⟩) (by assumption) ?rest24
                            case hy24 => (intro w hSw; obtain ⟨s1, s2, s3, s4, s5, s6, s7, s8, s9, s10, s11⟩ := hSw; go_simp; try with_reducible rfl)
                            try simp only [Act.put, List.setIfInBounds_toArray, List.set_cons_zero, List.set_cons_succ]
                            refine wpAnyH_take (i := 25) (oi := { dst := some 232, op := Op.move (Operand.tmp 6), type := 150, pos := "ref.go:115", after := #[{ on := 24, ground := Ground.guard }], guard := some (24, false) }) (v := undef) rfl (by kernel_rfl) (by kernel_rfl) (by kernel_rfl) (fun _ _ _ h => h) (Or.inr ⟨by rfl, rfl⟩) (by assumption) ?rest25
                            try simp only [Act.put, List.setIfInBounds_toArray, List.set_cons_zero, List.set_cons_succ]
                            refine wpAnyH_take (i := 26) (oi := { dst := some 233, op := Op.move (Operand.tmp 20), type := 3, pos := "ref.go:115", after := #[{ on := 24, ground := Ground.guard }], guard := some (24, false) }) (v := undef) rfl (by kernel_rfl) (by kernel_rfl) (by kernel_rfl) (fun _ _ _ h => h) (Or.inr ⟨by rfl, rfl⟩) (by assumption) ?rest26
                            try simp only [Act.put, List.setIfInBounds_toArray, List.set_cons_zero, List.set_cons_succ]
                            refine wpAnyH_take (i := 27) (oi := { dst := some 234, op := Op.indexAddr 150 (Operand.tmp 232) (Operand.tmp 233), type := 0, pos := "ref.go:115", after := #[{ on := 25, ground := Ground.data }, { on := 26, ground := Ground.data }, { on := 24, ground := Ground.guard }], guard := some (24, false) }) (v := undef) rfl (by kernel_rfl) (by kernel_rfl) (by kernel_rfl) (fun _ _ _ h => h) (Or.inr ⟨by rfl, rfl⟩) (by assumption) ?rest27
                            try simp only [Act.put, List.setIfInBounds_toArray, List.set_cons_zero, List.set_cons_succ]
                            refine wpAnyH_take (i := 28) (oi := { dst := some 235, op := Op.load 3 (Operand.tmp 234), type := 3, pos := "ref.go:115", after := #[{ on := 27, ground := Ground.data }, { on := 24, ground := Ground.guard }], guard := some (24, false) }) (v := undef) rfl (by kernel_rfl) (by kernel_rfl) (by kernel_rfl) (fun _ _ _ h => h) (Or.inr ⟨by rfl, rfl⟩) (by assumption) ?rest28
                            try simp only [Act.put, List.setIfInBounds_toArray, List.set_cons_zero, List.set_cons_succ]
                            refine wpAnyH_take (i := 29) (oi := { dst := some 236, op := Op.binOp BinOp.gtr 3 (Operand.tmp 235) (Operand.const (Value.int IntKind.i64 255)) 3, type := 4, pos := "ref.go:115", after := #[{ on := 28, ground := Ground.data }, { on := 24, ground := Ground.guard }], guard := some (24, false) }) (v := undef) rfl (by kernel_rfl) (by kernel_rfl) (by kernel_rfl) (fun _ _ _ h => h) (Or.inr ⟨by rfl, rfl⟩) (by assumption) ?rest29
                            try simp only [Act.put, List.setIfInBounds_toArray, List.set_cons_zero, List.set_cons_succ]
                            refine wpAnyH_take (i := 30) (oi := { dst := some 237, op := Op.pick (Operand.tmp 231) (Operand.const (Value.bool true)) (Operand.tmp 236), type := 4, pos := "ref.go:115", after := #[{ on := 24, ground := Ground.data }, { on := 29, ground := Ground.data }], guard := none }) (v := ?v30) rfl (by kernel_rfl) (by kernel_rfl) (by kernel_rfl) (fun _ _ _ h => h) (Or.inl ⟨by rfl, ?hy30⟩) (by assumption) ?rest30
                            case hy30 => (intro w hSw; obtain ⟨s1, s2, s3, s4, s5, s6, s7, s8, s9, s10, s11⟩ := hSw; go_simp; try with_reducible rfl)
                            try simp only [Act.put, List.setIfInBounds_toArray, List.set_cons_zero, List.set_cons_succ]
                            refine wpAnyH_done (by kernel_rfl) ?_ _
                            have HBe2 : Hid (Below w.heap.size w w6) := HX.out.bel.trans ((((Below.refl _ wr).drew.trans h6)).mono HX.out.bel.size)
                            clear h6 HKp HTk
                            go_wp2
                            go_ret
                            exact ⟨by rw [HV.out]; rfl, HBe2.out⟩
                          · have z2 : decide (dm < tx) = false := decide_eq_false hlt1
                            by_cases hlt2 : 255 < dm
                            · have z3 : decide (dm > 255) = true := decide_eq_true hlt2
                              have HV : Hid (wrI code = (m : Int)) := by show _ = _; unfold wrI; rw [HSt.out, z2, show decide (255 < dm) = true from z3]; rfl
                              clear hlt1 hlt2 HSt
                              go_upto_region 48 with fail
                              first
                                | go_region_held3 (fun wx : World => wx.cell? ⟨gC, m, none⟩ = some (.bool true) ∧ wx.cell? ⟨gT, m, none⟩ = some (.bool false) ∧ wx.cell? ⟨gD, m, none⟩ = some (.int .i64 dm) ∧ wx.cell? ⟨bp, 1, none⟩ = some (.slice (some ⟨b, o, none⟩) code.length cp) ∧ wx.cell? ⟨b, o + m * 2, none⟩ = some (.int .u8 x.op) ∧ wx.cell? ⟨b, o + m * 2 + 1, none⟩ = some (.int .i64 x.a) ∧ gC < wx.heap.size ∧ gT < wx.heap.size ∧ gD < wx.heap.size ∧ bp < wx.heap.size ∧ b < wx.heap.size) (first | exact ⟨cc, ct, cd, a1, q0, q2, lc, lt, ld, lb, lbb⟩ | (go_keep; done) | exact HKp.out _ ((Below.refl _ wr).drew.trans h6)) (first | (go_at_call 104; refine (HTk.out _).mono ?_; rintro e w6 ⟨rfl, h6⟩) | fail)
                                | fail
                              have HBe2 : Hid (Below w.heap.size w w6) := HX.out.bel.trans ((((Below.refl _ wr).drew.trans h6)).mono HX.out.bel.size)
                              clear h6 HKp HTk
                              go_wp2
                              go_ret
                              exact ⟨by rw [HV.out]; rfl, HBe2.out⟩
                            · have z3 : decide (dm > 255) = false := decide_eq_false hlt2
                              have HW9 : Hid (wrongAt (endM code).met code 0 = wrongAt ((endM code).met.drop (m + 1)) (code.drop (m + 1)) (m + 1)) := by show _ = _; rw [HSt.out, z2, show decide (255 < dm) = false from z3]; rfl
                              clear hlt1 hlt2 HSt
                              go_upto_region 48 with fail
                              first
                                | go_region_held3 (fun wx : World => wx.cell? ⟨gC, m, none⟩ = some (.bool true) ∧ wx.cell? ⟨gT, m, none⟩ = some (.bool false) ∧ wx.cell? ⟨gD, m, none⟩ = some (.int .i64 dm) ∧ wx.cell? ⟨bp, 1, none⟩ = some (.slice (some ⟨b, o, none⟩) code.length cp) ∧ wx.cell? ⟨b, o + m * 2, none⟩ = some (.int .u8 x.op) ∧ wx.cell? ⟨b, o + m * 2 + 1, none⟩ = some (.int .i64 x.a) ∧ gC < wx.heap.size ∧ gT < wx.heap.size ∧ gD < wx.heap.size ∧ bp < wx.heap.size ∧ b < wx.heap.size) (first | exact ⟨cc, ct, cd, a1, q0, q2, lc, lt, ld, lb, lbb⟩ | (go_keep; done) | exact HKp.out _ ((Below.refl _ wr).drew.trans h6)) (first | (go_at_call 104; refine (HTk.out _).mono ?_; rintro e w6 ⟨rfl, h6⟩) | fail)
                                | fail
                              have HX9 : Hid (WS w w6 bp gC gT gD code.length pm ra cp (.slice r3 row3.length c3) row3 come two3 dep) := HX.out.below ((Below.refl _ wr).drew.trans h6)
                              clear h6 HKp HTk
                              go_wp2
                              go_roundw
                              case rel => exact ⟨m + 1, by go_num, by omega, HX9, HW9⟩
                              case measure => simp [intOf]; omega
                        · rw [htm] at ct HSt
                          have HV : Hid (wrI code = (m : Int)) := by show _ = _; unfold wrI; rw [HSt.out]; rfl
                          clear htm HSt
                          go_upto_region 48 with fail
                          go_quiet (fail)
                          go_wp2
                          go_ret
                          exact ⟨by rw [HV.out]; rfl, below_drewN HX.out.bel _⟩
                    · have m1 : ¬ (m : Int) < (code.length : Int) := by omega
                      have HV : Hid (wrI code = -1) := by
                        show _ = _
                        unfold wrI
                        rw [HWr.out, List.drop_of_length_le (by rw [HLm.out]; omega)]
                        rfl
                      go_wp2
                      go_ret
                      exact ⟨by rw [HV.out]; rfl, HX.out.bel⟩
end Go.Proofs.YtpkohocjgnodnaaGreatDoor
