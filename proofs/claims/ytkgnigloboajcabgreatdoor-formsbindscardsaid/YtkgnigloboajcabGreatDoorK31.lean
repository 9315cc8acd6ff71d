/- isShaped, way by way (gen_fshp.py).; isShaped, way by way (gen_fshp.py).; isShaped, way by way (gen_fshp.py). -/
import Derived.Test.YtkgnigloboajcabGreatDoorK29
import Derived.Shelf.RegionOpenPlain
/- isShaped, way by way (gen_fshp.py). -/
namespace Go.Proofs.YtkgnigloboajcabGreatDoor
open Go.RowKit Go.Maps Go.ChangeMaps

set_option maxRecDepth 100000 in
set_option maxHeartbeats 16000000 in
theorem shaped_5 (m : Nat) (ns : List (List UInt8)) (ks : Fm) (d : Dt) (nr kr dr : Option Addr) (nc kc dc : Nat) (w : World) (hF : FOk ⟨(m : Int), [], ns, ks, d⟩) (hR : RFo w ⟨(m : Int), [], ns, ks, d⟩ nr kr dr) (hE : Env w) (_hO : ks.oks) (hm0 : 1 ≤ m) (hm1 : m < 16) (h1 : takesB m ((ks.len : Int) - (valsN ⟨(m : Int), [], ns, ks, d⟩ : Int)) = true) (h4 : ns.length ≠ 0) (h5 : hasNamesB m = true) (h6 : datFitB ⟨(m : Int), [], ns, ks, d⟩ = false) :
    Calls Tryz.prog 67 #[frmV ⟨(m : Int), [], ns, ks, d⟩ (.slice nr ns.length nc) (.slice kr ks.len kc) (.slice dr d.s.len dc)] w fun e w' => e = .returned (.bool (false)) ∧ Below w.heap.size w w' := by
  obtain ⟨W1, hW1⟩ : ∃ W1, w.alloc (Z9 ⟨(m : Int), [], ns, ks, d⟩ (.slice nr ns.length nc) (.slice kr ks.len kc) (.slice dr d.s.len dc)) = W1 := ⟨_, rfl⟩
  have a1 := (Below.refl _ w).alloc (Nat.le_refl w.heap.size) (Z9 ⟨(m : Int), [], ns, ks, d⟩ (.slice nr ns.length nc) (.slice kr ks.len kc) (.slice dr d.s.len dc))
  have q0 := World.alloc_heap_new w (Z9 ⟨(m : Int), [], ns, ks, d⟩ (.slice nr ns.length nc) (.slice kr ks.len kc) (.slice dr d.s.len dc))
  rw [hW1] at a1 q0
  have HB1 : Hid (Below w.heap.size w W1) := a1
  have HR1 : Hid (RFo W1 ⟨(m : Int), [], ns, ks, d⟩ nr kr dr) := hR.below a1
  have HE1 : Hid (Env W1) := hE.below a1
  have HF : Hid (FOk ⟨(m : Int), [], ns, ks, d⟩) := hF
  obtain ⟨⟨z0, z1, z2, z3, z4, z5, z6, z7, z8⟩, _⟩ := cells9 q0
  obtain ⟨s0, s1, s2, s3⟩ := shp_at HE1.out.sl hm0 hm1
  have hwr : IntKind.i64.wrap ((ks.len : Int) - (valsN ⟨(m : Int), [], ns, ks, d⟩ : Int)) = (ks.len : Int) - (valsN ⟨(m : Int), [], ns, ks, d⟩ : Int) := wrapV hF
  have i1 : ¬ (m : Int) < 1 := by omega
  have i3 : (m : Int) < 16 := by omega
  have i2 : ¬ (15 : Int) < (m : Int) := by omega
  have hmx : Tryz.prog.follows .mixedOrders = true := by kernel_rfl
  have hb0 : Below W1.heap.size W1.drew W1.drew := Below.refl _ _
  have mk : ∀ wx, Below W1.heap.size W1.drew wx → (wx.cell? ⟨w.heap.size, 0, none⟩ = some (.int .u8 m) ∧ wx.cell? ⟨w.heap.size, 1, none⟩ = some (S []) ∧ wx.cell? ⟨w.heap.size, 2, none⟩ = some (.slice nr ns.length nc) ∧ wx.cell? ⟨w.heap.size, 3, none⟩ = some (.slice kr ks.len kc) ∧ wx.cell? ⟨w.heap.size, 4, none⟩ = some (.int .u8 d.k) ∧ wx.cell? ⟨w.heap.size, 5, none⟩ = some (.int .i64 d.n) ∧ wx.cell? ⟨w.heap.size, 6, none⟩ = some (S d.t) ∧ wx.cell? ⟨w.heap.size, 7, none⟩ = some (.slice dr d.s.len dc) ∧ wx.cell? ⟨w.heap.size, 8, none⟩ = some (.bool d.d)) ∧ (wx.cell? ⟨1, m * 4, none⟩ = some (S (shpOf m).1) ∧ wx.cell? ⟨1, m * 4 + 1, none⟩ = some (.int .i64 (shpOf m).2.1) ∧ wx.cell? ⟨1, m * 4 + 1 + 1, none⟩ = some (.int .i64 (shpOf m).2.2.1) ∧ wx.cell? ⟨1, m * 4 + 1 + 1 + 1, none⟩ = some (.int .i64 (shpOf m).2.2.2)) := fun wx hb => ⟨keepZ (W := W1.drew) hb ⟨z0, z1, z2, z3, z4, z5, z6, z7, z8⟩, keepS (W := W1.drew) hb ⟨s0, s1, s2, s3⟩⟩
  clear a1 q0 hR hE hF
  -- calls VTND
  have HV : Hid (∀ wx, Below W1.heap.size W1.drew wx → Calls Tryz.prog 33 #[frmV ⟨(m : Int), [], ns, ks, d⟩ (.slice nr ns.length nc) (.slice kr ks.len kc) (.slice dr d.s.len dc)] wx fun e w' => e = .returned (.int .i64 (valsN ⟨(m : Int), [], ns, ks, d⟩)) ∧ Below wx.heap.size wx w') := fun wx hb => valueCount_any ⟨(m : Int), [], ns, ks, d⟩ nr kr dr nc kc dc wx HF.out.nl
  have HT : Hid (∀ wx, Below W1.heap.size W1.drew wx → Calls Tryz.prog 64 #[shpV m, .int .i64 ((ks.len : Int) - (valsN ⟨(m : Int), [], ns, ks, d⟩ : Int))] wx fun e w' => e = .returned (.bool true) ∧ Below wx.heap.size wx w') := fun wx hb => by rw [← h1]; exact takes_any m _ wx
  have HN : Hid (∀ wx, Below W1.heap.size W1.drew wx → Calls Tryz.prog 81 #[.int .u8 m] wx fun e w' => e = .returned (.bool true) ∧ Below wx.heap.size wx w') := fun wx hb => by rw [← h5]; exact hasNames_any m wx
  have HD : Hid (∀ wx, Below W1.heap.size W1.drew wx → Calls Tryz.prog 82 #[frmV ⟨(m : Int), [], ns, ks, d⟩ (.slice nr ns.length nc) (.slice kr ks.len kc) (.slice dr d.s.len dc)] wx fun e w' => e = .returned (.bool false) ∧ Below wx.heap.size wx w') := fun wx hb => by rw [← h6]; exact datFit_of ⟨(m : Int), [], ns, ks, d⟩ nr kr dr nc kc dc wx HF.out (HR1.out.below (below_of hb)) (HE1.out.below (below_of hb))
  clear h1 h5 h6
  generalize ns.length = n4 at *
  have h4i : ((n4 : Int) == 0) = false := by simp; omega
  go_enter Tryz.func67, Tryz.ntmps67
  go_upto_region 1 with fail
  clear hW1
  go_wp2_with fail
  have hun : undef = .tuple #[] := rfl
  refine wp_region_noPanic ?_
  refine wp_region_held_drew (S := fun wx => (wx.cell? ⟨w.heap.size, 0, none⟩ = some (.int .u8 m) ∧ wx.cell? ⟨w.heap.size, 1, none⟩ = some (S []) ∧ wx.cell? ⟨w.heap.size, 2, none⟩ = some (.slice nr n4 nc) ∧ wx.cell? ⟨w.heap.size, 3, none⟩ = some (.slice kr ks.len kc) ∧ wx.cell? ⟨w.heap.size, 4, none⟩ = some (.int .u8 d.k) ∧ wx.cell? ⟨w.heap.size, 5, none⟩ = some (.int .i64 d.n) ∧ wx.cell? ⟨w.heap.size, 6, none⟩ = some (S d.t) ∧ wx.cell? ⟨w.heap.size, 7, none⟩ = some (.slice dr d.s.len dc) ∧ wx.cell? ⟨w.heap.size, 8, none⟩ = some (.bool d.d)) ∧ (wx.cell? ⟨1, m * 4, none⟩ = some (S (shpOf m).1) ∧ wx.cell? ⟨1, m * 4 + 1, none⟩ = some (.int .i64 (shpOf m).2.1) ∧ wx.cell? ⟨1, m * 4 + 1 + 1, none⟩ = some (.int .i64 (shpOf m).2.2.1) ∧ wx.cell? ⟨1, m * 4 + 1 + 1 + 1, none⟩ = some (.int .i64 (shpOf m).2.2.2))) hmx ?_ (fun hHeld => ?_)
  · exact mk _ hb0
  refine wpAnyH_take (i := 0) (oi := { dst := some 11, op := _, type := _, pos := _, after := _, guard := _ }) (v := ?v0) rfl (by kernel_rfl) (by kernel_rfl) (by kernel_rfl) (fun _ _ _ h => h) (Or.inl ⟨by rfl, ?hy0⟩) (by assumption) ?rest0
  case hy0 => (intro w hSw; (try dsimp only at hSw); go_simp; try with_reducible rfl)
  try simp only [Act.put, List.setIfInBounds_toArray, List.set_cons_zero, List.set_cons_succ]
  refine wpAnyH_take (i := 1) (oi := { dst := some 12, op := _, type := _, pos := _, after := _, guard := _ }) (v := ?v1) rfl (by kernel_rfl) (by kernel_rfl) (by kernel_rfl) (fun _ _ _ h => h) (Or.inl ⟨by rfl, ?hy1⟩) (by assumption) ?rest1
  case hy1 => (intro w hSw; (try dsimp only at hSw); go_simp; try with_reducible rfl)
  try simp only [Act.put, List.setIfInBounds_toArray, List.set_cons_zero, List.set_cons_succ]
  refine wpAnyH_take (i := 2) (oi := { dst := some 13, op := _, type := _, pos := _, after := _, guard := _ }) (v := ?v2) rfl (by kernel_rfl) (by kernel_rfl) (by kernel_rfl) (fun _ _ _ h => h) (Or.inl ⟨by rfl, ?hy2⟩) (by assumption) ?rest2
  case hy2 => (intro w hSw; (try dsimp only at hSw); go_simp; try with_reducible rfl)
  try simp only [Act.put, List.setIfInBounds_toArray, List.set_cons_zero, List.set_cons_succ]
  refine wpAnyH_take (i := 3) (oi := { dst := some 14, op := _, type := _, pos := _, after := _, guard := _ }) (v := ?v3) rfl (by kernel_rfl) (by kernel_rfl) (by kernel_rfl) (fun _ _ _ h => h) (Or.inl ⟨by rfl, ?hy3⟩) (by assumption) ?rest3
  case hy3 => (intro w hSw; (try dsimp only at hSw); go_simp; try with_reducible rfl)
  try simp only [Act.put, List.setIfInBounds_toArray, List.set_cons_zero, List.set_cons_succ]
  refine wpAnyH_take (i := 4) (oi := { dst := some 15, op := _, type := _, pos := _, after := _, guard := _ }) (v := ?v4) rfl (by kernel_rfl) (by kernel_rfl) (by kernel_rfl) (fun _ _ _ h => h) (Or.inl ⟨by rfl, ?hy4⟩) (by assumption) ?rest4
  case hy4 => (intro w hSw; (try dsimp only at hSw); go_simp; try with_reducible rfl)
  try simp only [Act.put, List.setIfInBounds_toArray, List.set_cons_zero, List.set_cons_succ]
  refine wpAnyH_take (i := 5) (oi := { dst := some 16, op := _, type := _, pos := _, after := _, guard := _ }) (v := ?v5) rfl (by kernel_rfl) (by kernel_rfl) (by kernel_rfl) (fun _ _ _ h => h) (Or.inl ⟨by rfl, ?hy5⟩) (by assumption) ?rest5
  case hy5 => (intro w hSw; (try dsimp only at hSw); go_simp; try with_reducible rfl)
  try simp only [Act.put, List.setIfInBounds_toArray, List.set_cons_zero, List.set_cons_succ]
  refine wpAnyH_take (i := 6) (oi := { dst := some 17, op := _, type := _, pos := _, after := _, guard := _ }) (v := ?v6) rfl (by kernel_rfl) (by kernel_rfl) (by kernel_rfl) (fun _ _ _ h => h) (Or.inl ⟨by rfl, ?hy6⟩) (by assumption) ?rest6
  case hy6 => (intro w hSw; (try dsimp only at hSw); go_simp; try with_reducible rfl)
  try simp only [Act.put, List.setIfInBounds_toArray, List.set_cons_zero, List.set_cons_succ]
  refine wpAnyH_take (i := 7) (oi := { dst := some 18, op := _, type := _, pos := _, after := _, guard := _ }) (v := ?v7) rfl (by kernel_rfl) (by kernel_rfl) (by kernel_rfl) (fun _ _ _ h => h) (Or.inl ⟨by rfl, ?hy7⟩) (by assumption) ?rest7
  case hy7 => (intro w hSw; (try dsimp only at hSw); go_simp; try with_reducible rfl)
  try simp only [Act.put, List.setIfInBounds_toArray, List.set_cons_zero, List.set_cons_succ]
  refine wpAnyH_ready (rs := [8]) (by kernel_rfl) (by simp) ?_
  refine AllReadyH.cons (o := { dst := some 19, op := _, type := _, pos := _, after := _, guard := _ }) rfl (fun K hK => ?_) AllReadyH.nil
  go_simp
  first | (go_at_call 33; refine (HV.out _ hb0).mono ?_; rintro e wV ⟨rfl, hxV⟩; have hbV : Below W1.heap.size W1.drew wV := hb0.trans (hxV.mono hb0.size); go_wp2_with fail) | (go_at_call 64; refine (HT.out _ hbV).mono ?_; rintro e wT ⟨rfl, hxT⟩; have hbT : Below W1.heap.size W1.drew wT := hbV.trans (hxT.mono hbV.size); go_wp2_with fail) | (go_at_call 81; refine (HN.out _ hbT).mono ?_; rintro e wN ⟨rfl, hxN⟩; have hbN : Below W1.heap.size W1.drew wN := hbT.trans (hxN.mono hbT.size); go_wp2_with fail) | (go_at_call 82; refine (HD.out _ hbN).mono ?_; rintro e wD ⟨rfl, hxD⟩; have hbD : Below W1.heap.size W1.drew wD := hbN.trans (hxD.mono hbN.size); go_wp2_with fail) | skip
  refine hK.out _ _ ?_ (fun hHeld => ?_)
  · (first | assumption | exact mk _ hbD | exact mk _ hbN | exact mk _ hbT | exact mk _ hbV | exact mk _ hb0)
  clear hK K
  try simp only [Act.put, List.setIfInBounds_toArray, List.set_cons_zero, List.set_cons_succ]
  refine wpAnyH_take (i := 9) (oi := { dst := some 20, op := _, type := _, pos := _, after := _, guard := _ }) (v := ?v9) rfl (by kernel_rfl) (by kernel_rfl) (by kernel_rfl) (fun _ _ _ h => h) (Or.inl ⟨by rfl, ?hy9⟩) (by assumption) ?rest9
  case hy9 => (intro w hSw; (try dsimp only at hSw); go_simp; try with_reducible rfl)
  try simp only [Act.put, List.setIfInBounds_toArray, List.set_cons_zero, List.set_cons_succ]
  refine wpAnyH_ready (rs := [10]) (by kernel_rfl) (by simp) ?_
  refine AllReadyH.cons (o := { dst := some 21, op := _, type := _, pos := _, after := _, guard := _ }) rfl (fun K hK => ?_) AllReadyH.nil
  go_simp
  first | (go_at_call 33; refine (HV.out _ hb0).mono ?_; rintro e wV ⟨rfl, hxV⟩; have hbV : Below W1.heap.size W1.drew wV := hb0.trans (hxV.mono hb0.size); go_wp2_with fail) | (go_at_call 64; refine (HT.out _ hbV).mono ?_; rintro e wT ⟨rfl, hxT⟩; have hbT : Below W1.heap.size W1.drew wT := hbV.trans (hxT.mono hbV.size); go_wp2_with fail) | (go_at_call 81; refine (HN.out _ hbT).mono ?_; rintro e wN ⟨rfl, hxN⟩; have hbN : Below W1.heap.size W1.drew wN := hbT.trans (hxN.mono hbT.size); go_wp2_with fail) | (go_at_call 82; refine (HD.out _ hbN).mono ?_; rintro e wD ⟨rfl, hxD⟩; have hbD : Below W1.heap.size W1.drew wD := hbN.trans (hxD.mono hbN.size); go_wp2_with fail) | skip
  refine hK.out _ _ ?_ (fun hHeld => ?_)
  · (first | assumption | exact mk _ hbD | exact mk _ hbN | exact mk _ hbT | exact mk _ hbV | exact mk _ hb0)
  clear hK K
  try simp only [Act.put, List.setIfInBounds_toArray, List.set_cons_zero, List.set_cons_succ]
  refine wpAnyH_take (i := 11) (oi := { dst := some 22, op := _, type := _, pos := _, after := _, guard := _ }) (v := ?v11) rfl (by kernel_rfl) (by kernel_rfl) (by kernel_rfl) (fun _ _ _ h => h) (Or.inl ⟨by rfl, ?hy11⟩) (by assumption) ?rest11
  case hy11 => (intro w hSw; (try dsimp only at hSw); go_simp; try with_reducible rfl)
  try simp only [Act.put, List.setIfInBounds_toArray, List.set_cons_zero, List.set_cons_succ]
  refine wpAnyH_take (i := 12) (oi := { dst := some 23, op := _, type := _, pos := _, after := _, guard := _ }) (v := ?v12) rfl (by kernel_rfl) (by kernel_rfl) (by kernel_rfl) (fun _ _ _ h => h) (Or.inl ⟨by rfl, ?hy12⟩) (by assumption) ?rest12
  case hy12 => (intro w hSw; (try dsimp only at hSw); go_simp; try with_reducible rfl)
  try simp only [Act.put, List.setIfInBounds_toArray, List.set_cons_zero, List.set_cons_succ]
  refine wpAnyH_take (i := 13) (oi := { dst := some 24, op := _, type := _, pos := _, after := _, guard := _ }) (v := ?v13) rfl (by kernel_rfl) (by kernel_rfl) (by kernel_rfl) (fun _ _ _ h => h) (Or.inl ⟨by rfl, ?hy13⟩) (by assumption) ?rest13
  case hy13 => (intro w hSw; (try dsimp only at hSw); go_simp; try with_reducible rfl)
  try simp only [Act.put, List.setIfInBounds_toArray, List.set_cons_zero, List.set_cons_succ]
  refine wpAnyH_take (i := 14) (oi := { dst := some 25, op := _, type := _, pos := _, after := _, guard := _ }) (v := ?v14) rfl (by kernel_rfl) (by kernel_rfl) (by kernel_rfl) (fun _ _ _ h => h) (Or.inl ⟨by rfl, ?hy14⟩) (by assumption) ?rest14
  case hy14 => (intro w hSw; (try dsimp only at hSw); go_simp; try with_reducible rfl)
  try simp only [Act.put, List.setIfInBounds_toArray, List.set_cons_zero, List.set_cons_succ]
  refine wpAnyH_take (i := 15) (oi := { dst := some 26, op := _, type := _, pos := _, after := _, guard := _ }) (v := ?v15) rfl (by kernel_rfl) (by kernel_rfl) (by kernel_rfl) (fun _ _ _ h => h) (Or.inl ⟨by rfl, ?hy15⟩) (by assumption) ?rest15
  case hy15 => (intro w hSw; (try dsimp only at hSw); go_simp; try with_reducible rfl)
  try simp only [Act.put, List.setIfInBounds_toArray, List.set_cons_zero, List.set_cons_succ]
  refine wpAnyH_ready (rs := [16]) (by kernel_rfl) (by simp) ?_
  refine AllReadyH.cons (o := { dst := some 27, op := _, type := _, pos := _, after := _, guard := _ }) rfl (fun K hK => ?_) AllReadyH.nil
  go_simp
  first | (go_at_call 33; refine (HV.out _ hb0).mono ?_; rintro e wV ⟨rfl, hxV⟩; have hbV : Below W1.heap.size W1.drew wV := hb0.trans (hxV.mono hb0.size); go_wp2_with fail) | (go_at_call 64; refine (HT.out _ hbV).mono ?_; rintro e wT ⟨rfl, hxT⟩; have hbT : Below W1.heap.size W1.drew wT := hbV.trans (hxT.mono hbV.size); go_wp2_with fail) | (go_at_call 81; refine (HN.out _ hbT).mono ?_; rintro e wN ⟨rfl, hxN⟩; have hbN : Below W1.heap.size W1.drew wN := hbT.trans (hxN.mono hbT.size); go_wp2_with fail) | (go_at_call 82; refine (HD.out _ hbN).mono ?_; rintro e wD ⟨rfl, hxD⟩; have hbD : Below W1.heap.size W1.drew wD := hbN.trans (hxD.mono hbN.size); go_wp2_with fail) | skip
  refine hK.out _ _ ?_ (fun hHeld => ?_)
  · (first | assumption | exact mk _ hbD | exact mk _ hbN | exact mk _ hbT | exact mk _ hbV | exact mk _ hb0)
  clear hK K
  try simp only [Act.put, List.setIfInBounds_toArray, List.set_cons_zero, List.set_cons_succ]
  refine wpAnyH_ready (rs := [17]) (by kernel_rfl) (by simp) ?_
  refine AllReadyH.cons (o := { dst := some 28, op := _, type := _, pos := _, after := _, guard := _ }) rfl (fun K hK => ?_) AllReadyH.nil
  go_simp
  first | (go_at_call 33; refine (HV.out _ hb0).mono ?_; rintro e wV ⟨rfl, hxV⟩; have hbV : Below W1.heap.size W1.drew wV := hb0.trans (hxV.mono hb0.size); go_wp2_with fail) | (go_at_call 64; refine (HT.out _ hbV).mono ?_; rintro e wT ⟨rfl, hxT⟩; have hbT : Below W1.heap.size W1.drew wT := hbV.trans (hxT.mono hbV.size); go_wp2_with fail) | (go_at_call 81; refine (HN.out _ hbT).mono ?_; rintro e wN ⟨rfl, hxN⟩; have hbN : Below W1.heap.size W1.drew wN := hbT.trans (hxN.mono hbT.size); go_wp2_with fail) | (go_at_call 82; refine (HD.out _ hbN).mono ?_; rintro e wD ⟨rfl, hxD⟩; have hbD : Below W1.heap.size W1.drew wD := hbN.trans (hxD.mono hbN.size); go_wp2_with fail) | skip
  refine hK.out _ _ ?_ (fun hHeld => ?_)
  · (first | assumption | exact mk _ hbD | exact mk _ hbN | exact mk _ hbT | exact mk _ hbV | exact mk _ hb0)
  clear hK K
  try simp only [Act.put, List.setIfInBounds_toArray, List.set_cons_zero, List.set_cons_succ]
  refine wpAnyH_ready (rs := [18]) (by kernel_rfl) (by simp) ?_
  refine AllReadyH.cons (o := { dst := some 29, op := _, type := _, pos := _, after := _, guard := _ }) rfl (fun K hK => ?_) AllReadyH.nil
  go_simp
  first | (go_at_call 33; refine (HV.out _ hb0).mono ?_; rintro e wV ⟨rfl, hxV⟩; have hbV : Below W1.heap.size W1.drew wV := hb0.trans (hxV.mono hb0.size); go_wp2_with fail) | (go_at_call 64; refine (HT.out _ hbV).mono ?_; rintro e wT ⟨rfl, hxT⟩; have hbT : Below W1.heap.size W1.drew wT := hbV.trans (hxT.mono hbV.size); go_wp2_with fail) | (go_at_call 81; refine (HN.out _ hbT).mono ?_; rintro e wN ⟨rfl, hxN⟩; have hbN : Below W1.heap.size W1.drew wN := hbT.trans (hxN.mono hbT.size); go_wp2_with fail) | (go_at_call 82; refine (HD.out _ hbN).mono ?_; rintro e wD ⟨rfl, hxD⟩; have hbD : Below W1.heap.size W1.drew wD := hbN.trans (hxD.mono hbN.size); go_wp2_with fail) | skip
  refine hK.out _ _ ?_ (fun hHeld => ?_)
  · (first | assumption | exact mk _ hbD | exact mk _ hbN | exact mk _ hbT | exact mk _ hbV | exact mk _ hb0)
  clear hK K
  try simp only [Act.put, List.setIfInBounds_toArray, List.set_cons_zero, List.set_cons_succ]
  refine wpAnyH_take (i := 19) (oi := { dst := some 30, op := _, type := _, pos := _, after := _, guard := _ }) (v := ?v19) rfl (by kernel_rfl) (by kernel_rfl) (by kernel_rfl) (fun _ _ _ h => h) (Or.inl ⟨by rfl, ?hy19⟩) (by assumption) ?rest19
  case hy19 => (intro w hSw; (try dsimp only at hSw); go_simp; try with_reducible rfl)
  try simp only [Act.put, List.setIfInBounds_toArray, List.set_cons_zero, List.set_cons_succ]
  refine wpAnyH_take (i := 20) (oi := { dst := some 31, op := _, type := _, pos := _, after := _, guard := _ }) (v := ?v20) rfl (by kernel_rfl) (by kernel_rfl) (by kernel_rfl) (fun _ _ _ h => h) (Or.inl ⟨by rfl, ?hy20⟩) (by assumption) ?rest20
  case hy20 => (intro w hSw; (try dsimp only at hSw); go_simp; try with_reducible rfl)
  try simp only [Act.put, List.setIfInBounds_toArray, List.set_cons_zero, List.set_cons_succ]
  refine wpAnyH_take (i := 21) (oi := { dst := some 32, op := _, type := _, pos := _, after := _, guard := _ }) (v := ?v21) rfl (by kernel_rfl) (by kernel_rfl) (by kernel_rfl) (fun _ _ _ h => h) (Or.inl ⟨by rfl, ?hy21⟩) (by assumption) ?rest21
  case hy21 => (intro w hSw; (try dsimp only at hSw); go_simp; try with_reducible rfl)
  try simp only [Act.put, List.setIfInBounds_toArray, List.set_cons_zero, List.set_cons_succ]
  refine wpAnyH_take (i := 22) (oi := { dst := some 33, op := _, type := _, pos := _, after := _, guard := _ }) (v := ?v22) rfl (by kernel_rfl) (by kernel_rfl) (by kernel_rfl) (fun _ _ _ h => h) (Or.inl ⟨by rfl, ?hy22⟩) (by assumption) ?rest22
  case hy22 => (intro w hSw; (try dsimp only at hSw); go_simp; try with_reducible rfl)
  try simp only [Act.put, List.setIfInBounds_toArray, List.set_cons_zero, List.set_cons_succ]
  refine wpAnyH_take (i := 23) (oi := { dst := some 34, op := _, type := _, pos := _, after := _, guard := _ }) (v := ?v23) rfl (by kernel_rfl) (by kernel_rfl) (by kernel_rfl) (fun _ _ _ h => h) (Or.inl ⟨by rfl, ?hy23⟩) (by assumption) ?rest23
  case hy23 => (intro w hSw; (try dsimp only at hSw); go_simp; try with_reducible rfl)
  try simp only [Act.put, List.setIfInBounds_toArray, List.set_cons_zero, List.set_cons_succ]
  refine wpAnyH_take (i := 24) (oi := { dst := some 35, op := _, type := _, pos := _, after := _, guard := _ }) (v := ?v24) rfl (by kernel_rfl) (by kernel_rfl) (by kernel_rfl) (fun _ _ _ h => h) (Or.inl ⟨by rfl, ?hy24⟩) (by assumption) ?rest24
  case hy24 => (intro w hSw; (try dsimp only at hSw); go_simp; try with_reducible rfl)
  try simp only [Act.put, List.setIfInBounds_toArray, List.set_cons_zero, List.set_cons_succ]
  refine wpAnyH_take (i := 25) (oi := { dst := some 36, op := _, type := _, pos := _, after := _, guard := _ }) (v := ?v25) rfl (by kernel_rfl) (by kernel_rfl) (by kernel_rfl) (fun _ _ _ h => h) (Or.inl ⟨by rfl, ?hy25⟩) (by assumption) ?rest25
  case hy25 => (intro w hSw; (try dsimp only at hSw); go_simp; try with_reducible rfl)
  try simp only [Act.put, List.setIfInBounds_toArray, List.set_cons_zero, List.set_cons_succ]
  refine wpAnyH_take (i := 26) (oi := { dst := some 37, op := _, type := _, pos := _, after := _, guard := _ }) (v := ?v26) rfl (by kernel_rfl) (by kernel_rfl) (by kernel_rfl) (fun _ _ _ h => h) (Or.inl ⟨by rfl, ?hy26⟩) (by assumption) ?rest26
  case hy26 => (intro w hSw; (try dsimp only at hSw); go_simp; try with_reducible rfl)
  try simp only [Act.put, List.setIfInBounds_toArray, List.set_cons_zero, List.set_cons_succ]
  refine wpAnyH_take (i := 27) (oi := { dst := some 38, op := _, type := _, pos := _, after := _, guard := _ }) (v := ?v27) rfl (by kernel_rfl) (by kernel_rfl) (by kernel_rfl) (fun _ _ _ h => h) (Or.inl ⟨by rfl, ?hy27⟩) (by assumption) ?rest27
  case hy27 => (intro w hSw; (try dsimp only at hSw); go_simp; try with_reducible rfl)
  try simp only [Act.put, List.setIfInBounds_toArray, List.set_cons_zero, List.set_cons_succ]
  refine wpAnyH_take (i := 28) (oi := { dst := some 39, op := _, type := _, pos := _, after := _, guard := _ }) (v := ?v28) rfl (by kernel_rfl) (by kernel_rfl) (by kernel_rfl) (fun _ _ _ h => h) (Or.inl ⟨by rfl, ?hy28⟩) (by assumption) ?rest28
  case hy28 => (intro w hSw; (try dsimp only at hSw); go_simp; try with_reducible rfl)
  try simp only [Act.put, List.setIfInBounds_toArray, List.set_cons_zero, List.set_cons_succ]
  refine wpAnyH_ready (rs := [29]) (by kernel_rfl) (by simp) ?_
  refine AllReadyH.cons (o := { dst := some 40, op := _, type := _, pos := _, after := _, guard := _ }) rfl (fun K hK => ?_) AllReadyH.nil
  go_simp
  first | (go_at_call 33; refine (HV.out _ hb0).mono ?_; rintro e wV ⟨rfl, hxV⟩; have hbV : Below W1.heap.size W1.drew wV := hb0.trans (hxV.mono hb0.size); go_wp2_with fail) | (go_at_call 64; refine (HT.out _ hbV).mono ?_; rintro e wT ⟨rfl, hxT⟩; have hbT : Below W1.heap.size W1.drew wT := hbV.trans (hxT.mono hbV.size); go_wp2_with fail) | (go_at_call 81; refine (HN.out _ hbT).mono ?_; rintro e wN ⟨rfl, hxN⟩; have hbN : Below W1.heap.size W1.drew wN := hbT.trans (hxN.mono hbT.size); go_wp2_with fail) | (go_at_call 82; refine (HD.out _ hbN).mono ?_; rintro e wD ⟨rfl, hxD⟩; have hbD : Below W1.heap.size W1.drew wD := hbN.trans (hxD.mono hbN.size); go_wp2_with fail) | skip
  refine hK.out _ _ ?_ (fun hHeld => ?_)
  · (first | assumption | exact mk _ hbD | exact mk _ hbN | exact mk _ hbT | exact mk _ hbV | exact mk _ hb0)
  clear hK K
  try simp only [Act.put, List.setIfInBounds_toArray, List.set_cons_zero, List.set_cons_succ]
  refine wpAnyH_take (i := 30) (oi := { dst := some 41, op := _, type := _, pos := _, after := _, guard := _ }) (v := ?v30) rfl (by kernel_rfl) (by kernel_rfl) (by kernel_rfl) (fun _ _ _ h => h) (Or.inl ⟨by rfl, ?hy30⟩) (by assumption) ?rest30
  case hy30 => (intro w hSw; (try dsimp only at hSw); go_simp; try with_reducible rfl)
  try simp only [Act.put, List.setIfInBounds_toArray, List.set_cons_zero, List.set_cons_succ]
  refine wpAnyH_take (i := 31) (oi := { dst := some 42, op := _, type := _, pos := _, after := _, guard := _ }) (v := ?v31) rfl (by kernel_rfl) (by kernel_rfl) (by kernel_rfl) (fun _ _ _ h => h) (Or.inl ⟨by rfl, ?hy31⟩) (by assumption) ?rest31
  case hy31 => (intro w hSw; (try dsimp only at hSw); go_simp; try with_reducible rfl)
  try simp only [Act.put, List.setIfInBounds_toArray, List.set_cons_zero, List.set_cons_succ]
  refine wpAnyH_take (i := 32) (oi := { dst := some 43, op := _, type := _, pos := _, after := _, guard := _ }) (v := ?v32) rfl (by kernel_rfl) (by kernel_rfl) (by kernel_rfl) (fun _ _ _ h => h) (Or.inl ⟨by rfl, ?hy32⟩) (by assumption) ?rest32
  case hy32 => (intro w hSw; (try dsimp only at hSw); go_simp; try with_reducible rfl)
  try simp only [Act.put, List.setIfInBounds_toArray, List.set_cons_zero, List.set_cons_succ]
  refine wpAnyH_take (i := 33) (oi := { dst := some 44, op := _, type := _, pos := _, after := _, guard := _ }) (v := ?v33) rfl (by kernel_rfl) (by kernel_rfl) (by kernel_rfl) (fun _ _ _ h => h) (Or.inl ⟨by rfl, ?hy33⟩) (by assumption) ?rest33
  case hy33 => (intro w hSw; (try dsimp only at hSw); go_simp; try with_reducible rfl)
  try simp only [Act.put, List.setIfInBounds_toArray, List.set_cons_zero, List.set_cons_succ]
  refine wpAnyH_ready (rs := [34]) (by kernel_rfl) (by simp) ?_
  refine AllReadyH.cons (o := { dst := some 45, op := _, type := _, pos := _, after := _, guard := _ }) rfl (fun K hK => ?_) AllReadyH.nil
  go_simp
  first | (go_at_call 33; refine (HV.out _ hb0).mono ?_; rintro e wV ⟨rfl, hxV⟩; have hbV : Below W1.heap.size W1.drew wV := hb0.trans (hxV.mono hb0.size); go_wp2_with fail) | (go_at_call 64; refine (HT.out _ hbV).mono ?_; rintro e wT ⟨rfl, hxT⟩; have hbT : Below W1.heap.size W1.drew wT := hbV.trans (hxT.mono hbV.size); go_wp2_with fail) | (go_at_call 81; refine (HN.out _ hbT).mono ?_; rintro e wN ⟨rfl, hxN⟩; have hbN : Below W1.heap.size W1.drew wN := hbT.trans (hxN.mono hbT.size); go_wp2_with fail) | (go_at_call 82; refine (HD.out _ hbN).mono ?_; rintro e wD ⟨rfl, hxD⟩; have hbD : Below W1.heap.size W1.drew wD := hbN.trans (hxD.mono hbN.size); go_wp2_with fail) | skip
  refine hK.out _ _ ?_ (fun hHeld => ?_)
  · (first | assumption | exact mk _ hbD | exact mk _ hbN | exact mk _ hbT | exact mk _ hbV | exact mk _ hb0)
  clear hK K
  try simp only [Act.put, List.setIfInBounds_toArray, List.set_cons_zero, List.set_cons_succ]
  refine wpAnyH_take (i := 35) (oi := { dst := some 46, op := _, type := _, pos := _, after := _, guard := _ }) (v := ?v35) rfl (by kernel_rfl) (by kernel_rfl) (by kernel_rfl) (fun _ _ _ h => h) (Or.inl ⟨by rfl, ?hy35⟩) (by assumption) ?rest35
  case hy35 => (intro w hSw; (try dsimp only at hSw); go_simp; try with_reducible rfl)
  try simp only [Act.put, List.setIfInBounds_toArray, List.set_cons_zero, List.set_cons_succ]
  refine wpAnyH_take (i := 36) (oi := { dst := some 47, op := _, type := _, pos := _, after := _, guard := _ }) (v := ?v36) rfl (by kernel_rfl) (by kernel_rfl) (by kernel_rfl) (fun _ _ _ h => h) (Or.inl ⟨by rfl, ?hy36⟩) (by assumption) ?rest36
  case hy36 => (intro w hSw; (try dsimp only at hSw); go_simp; try with_reducible rfl)
  try simp only [Act.put, List.setIfInBounds_toArray, List.set_cons_zero, List.set_cons_succ]
  refine wpAnyH_ready (rs := [37]) (by kernel_rfl) (by simp) ?_
  refine AllReadyH.cons (o := { dst := some 48, op := _, type := _, pos := _, after := _, guard := _ }) rfl (fun K hK => ?_) AllReadyH.nil
  go_simp
  first | (go_at_call 33; refine (HV.out _ hb0).mono ?_; rintro e wV ⟨rfl, hxV⟩; have hbV : Below W1.heap.size W1.drew wV := hb0.trans (hxV.mono hb0.size); go_wp2_with fail) | (go_at_call 64; refine (HT.out _ hbV).mono ?_; rintro e wT ⟨rfl, hxT⟩; have hbT : Below W1.heap.size W1.drew wT := hbV.trans (hxT.mono hbV.size); go_wp2_with fail) | (go_at_call 81; refine (HN.out _ hbT).mono ?_; rintro e wN ⟨rfl, hxN⟩; have hbN : Below W1.heap.size W1.drew wN := hbT.trans (hxN.mono hbT.size); go_wp2_with fail) | (go_at_call 82; refine (HD.out _ hbN).mono ?_; rintro e wD ⟨rfl, hxD⟩; have hbD : Below W1.heap.size W1.drew wD := hbN.trans (hxD.mono hbN.size); go_wp2_with fail) | skip
  refine hK.out _ _ ?_ (fun hHeld => ?_)
  · (first | assumption | exact mk _ hbD | exact mk _ hbN | exact mk _ hbT | exact mk _ hbV | exact mk _ hb0)
  clear hK K
  try simp only [Act.put, List.setIfInBounds_toArray, List.set_cons_zero, List.set_cons_succ]
  refine wpAnyH_ready (rs := [38]) (by kernel_rfl) (by simp) ?_
  refine AllReadyH.cons (o := { dst := some 49, op := _, type := _, pos := _, after := _, guard := _ }) rfl (fun K hK => ?_) AllReadyH.nil
  go_simp
  first | (go_at_call 33; refine (HV.out _ hb0).mono ?_; rintro e wV ⟨rfl, hxV⟩; have hbV : Below W1.heap.size W1.drew wV := hb0.trans (hxV.mono hb0.size); go_wp2_with fail) | (go_at_call 64; refine (HT.out _ hbV).mono ?_; rintro e wT ⟨rfl, hxT⟩; have hbT : Below W1.heap.size W1.drew wT := hbV.trans (hxT.mono hbV.size); go_wp2_with fail) | (go_at_call 81; refine (HN.out _ hbT).mono ?_; rintro e wN ⟨rfl, hxN⟩; have hbN : Below W1.heap.size W1.drew wN := hbT.trans (hxN.mono hbT.size); go_wp2_with fail) | (go_at_call 82; refine (HD.out _ hbN).mono ?_; rintro e wD ⟨rfl, hxD⟩; have hbD : Below W1.heap.size W1.drew wD := hbN.trans (hxD.mono hbN.size); go_wp2_with fail) | skip
  refine hK.out _ _ ?_ (fun hHeld => ?_)
  · (first | assumption | exact mk _ hbD | exact mk _ hbN | exact mk _ hbT | exact mk _ hbV | exact mk _ hb0)
  clear hK K
  try simp only [Act.put, List.setIfInBounds_toArray, List.set_cons_zero, List.set_cons_succ]
  refine wpAnyH_take (i := 39) (oi := { dst := some 50, op := _, type := _, pos := _, after := _, guard := _ }) (v := ?v39) rfl (by kernel_rfl) (by kernel_rfl) (by kernel_rfl) (fun _ _ _ h => h) (Or.inl ⟨by rfl, ?hy39⟩) (by assumption) ?rest39
  case hy39 => (intro w hSw; (try dsimp only at hSw); go_simp; try with_reducible rfl)
  try simp only [Act.put, List.setIfInBounds_toArray, List.set_cons_zero, List.set_cons_succ]
  refine wpAnyH_take (i := 40) (oi := { dst := some 2, op := _, type := _, pos := _, after := _, guard := _ }) (v := ?v40) rfl (by kernel_rfl) (by kernel_rfl) (by kernel_rfl) (fun _ _ _ h => h) (Or.inl ⟨by rfl, ?hy40⟩) (by assumption) ?rest40
  case hy40 => (intro w hSw; (try dsimp only at hSw); go_simp; try with_reducible rfl)
  try simp only [Act.put, List.setIfInBounds_toArray, List.set_cons_zero, List.set_cons_succ]
  refine wpAnyH_done (by kernel_rfl) ?_ _
  refine NoPanic.normal ?_
  clear hun
  go_wp2
  go_ret
  exact ⟨rfl, HB1.out.trans (((Below.refl _ W1).drew.trans hbD).mono HB1.out.size)⟩
end Go.Proofs.YtkgnigloboajcabGreatDoor

/- isShaped, way by way (gen_fshp.py). -/
namespace Go.Proofs.YtkgnigloboajcabGreatDoor
open Go.RowKit Go.Maps Go.ChangeMaps

set_option maxRecDepth 100000 in
set_option maxHeartbeats 16000000 in
theorem shaped_6 (m : Nat) (ns : List (List UInt8)) (ks : Fm) (d : Dt) (nr kr dr : Option Addr) (nc kc dc : Nat) (w : World) (hF : FOk ⟨(m : Int), [], ns, ks, d⟩) (hR : RFo w ⟨(m : Int), [], ns, ks, d⟩ nr kr dr) (hE : Env w) (hO : ks.oks) (hm0 : 1 ≤ m) (hm1 : m < 16) (h1 : takesB m ((ks.len : Int) - (valsN ⟨(m : Int), [], ns, ks, d⟩ : Int)) = true) (h4 : ns.length ≠ 0) (h5 : hasNamesB m = true) (h6 : datFitB ⟨(m : Int), [], ns, ks, d⟩ = true) :
    Calls Tryz.prog 67 #[frmV ⟨(m : Int), [], ns, ks, d⟩ (.slice nr ns.length nc) (.slice kr ks.len kc) (.slice dr d.s.len dc)] w fun e w' => e = .returned (.bool (callFitB ⟨(m : Int), [], ns, ks, d⟩)) ∧ Below w.heap.size w w' := by
  obtain ⟨W1, hW1⟩ : ∃ W1, w.alloc (Z9 ⟨(m : Int), [], ns, ks, d⟩ (.slice nr ns.length nc) (.slice kr ks.len kc) (.slice dr d.s.len dc)) = W1 := ⟨_, rfl⟩
  have a1 := (Below.refl _ w).alloc (Nat.le_refl w.heap.size) (Z9 ⟨(m : Int), [], ns, ks, d⟩ (.slice nr ns.length nc) (.slice kr ks.len kc) (.slice dr d.s.len dc))
  have q0 := World.alloc_heap_new w (Z9 ⟨(m : Int), [], ns, ks, d⟩ (.slice nr ns.length nc) (.slice kr ks.len kc) (.slice dr d.s.len dc))
  rw [hW1] at a1 q0
  have HB1 : Hid (Below w.heap.size w W1) := a1
  have HR1 : Hid (RFo W1 ⟨(m : Int), [], ns, ks, d⟩ nr kr dr) := hR.below a1
  have HE1 : Hid (Env W1) := hE.below a1
  have HF : Hid (FOk ⟨(m : Int), [], ns, ks, d⟩) := hF
  obtain ⟨⟨z0, z1, z2, z3, z4, z5, z6, z7, z8⟩, _⟩ := cells9 q0
  obtain ⟨s0, s1, s2, s3⟩ := shp_at HE1.out.sl hm0 hm1
  have hwr : IntKind.i64.wrap ((ks.len : Int) - (valsN ⟨(m : Int), [], ns, ks, d⟩ : Int)) = (ks.len : Int) - (valsN ⟨(m : Int), [], ns, ks, d⟩ : Int) := wrapV hF
  have i1 : ¬ (m : Int) < 1 := by omega
  have i3 : (m : Int) < 16 := by omega
  have i2 : ¬ (15 : Int) < (m : Int) := by omega
  have hmx : Tryz.prog.follows .mixedOrders = true := by kernel_rfl
  have hb0 : Below W1.heap.size W1.drew W1.drew := Below.refl _ _
  have mk : ∀ wx, Below W1.heap.size W1.drew wx → (wx.cell? ⟨w.heap.size, 0, none⟩ = some (.int .u8 m) ∧ wx.cell? ⟨w.heap.size, 1, none⟩ = some (S []) ∧ wx.cell? ⟨w.heap.size, 2, none⟩ = some (.slice nr ns.length nc) ∧ wx.cell? ⟨w.heap.size, 3, none⟩ = some (.slice kr ks.len kc) ∧ wx.cell? ⟨w.heap.size, 4, none⟩ = some (.int .u8 d.k) ∧ wx.cell? ⟨w.heap.size, 5, none⟩ = some (.int .i64 d.n) ∧ wx.cell? ⟨w.heap.size, 6, none⟩ = some (S d.t) ∧ wx.cell? ⟨w.heap.size, 7, none⟩ = some (.slice dr d.s.len dc) ∧ wx.cell? ⟨w.heap.size, 8, none⟩ = some (.bool d.d)) ∧ (wx.cell? ⟨1, m * 4, none⟩ = some (S (shpOf m).1) ∧ wx.cell? ⟨1, m * 4 + 1, none⟩ = some (.int .i64 (shpOf m).2.1) ∧ wx.cell? ⟨1, m * 4 + 1 + 1, none⟩ = some (.int .i64 (shpOf m).2.2.1) ∧ wx.cell? ⟨1, m * 4 + 1 + 1 + 1, none⟩ = some (.int .i64 (shpOf m).2.2.2)) := fun wx hb => ⟨keepZ (W := W1.drew) hb ⟨z0, z1, z2, z3, z4, z5, z6, z7, z8⟩, keepS (W := W1.drew) hb ⟨s0, s1, s2, s3⟩⟩
  clear a1 q0 hR hE hF
  -- calls VTNDC
  have Hne : Hid ((m : Int) = 10 → ks.len ≠ 0) := fun h10 => takes_ten (m := m) (by omega) (by rw [show valsN ⟨(m : Int), [], ns, ks, d⟩ = 0 by unfold valsN; rw [if_neg (by show ¬ (m : Int) = 8; omega)]]; simp) h1
  have HV : Hid (∀ wx, Below W1.heap.size W1.drew wx → Calls Tryz.prog 33 #[frmV ⟨(m : Int), [], ns, ks, d⟩ (.slice nr ns.length nc) (.slice kr ks.len kc) (.slice dr d.s.len dc)] wx fun e w' => e = .returned (.int .i64 (valsN ⟨(m : Int), [], ns, ks, d⟩)) ∧ Below wx.heap.size wx w') := fun wx hb => valueCount_any ⟨(m : Int), [], ns, ks, d⟩ nr kr dr nc kc dc wx HF.out.nl
  have HT : Hid (∀ wx, Below W1.heap.size W1.drew wx → Calls Tryz.prog 64 #[shpV m, .int .i64 ((ks.len : Int) - (valsN ⟨(m : Int), [], ns, ks, d⟩ : Int))] wx fun e w' => e = .returned (.bool true) ∧ Below wx.heap.size wx w') := fun wx hb => by rw [← h1]; exact takes_any m _ wx
  have HN : Hid (∀ wx, Below W1.heap.size W1.drew wx → Calls Tryz.prog 81 #[.int .u8 m] wx fun e w' => e = .returned (.bool true) ∧ Below wx.heap.size wx w') := fun wx hb => by rw [← h5]; exact hasNames_any m wx
  have HD : Hid (∀ wx, Below W1.heap.size W1.drew wx → Calls Tryz.prog 82 #[frmV ⟨(m : Int), [], ns, ks, d⟩ (.slice nr ns.length nc) (.slice kr ks.len kc) (.slice dr d.s.len dc)] wx fun e w' => e = .returned (.bool true) ∧ Below wx.heap.size wx w') := fun wx hb => by rw [← h6]; exact datFit_of ⟨(m : Int), [], ns, ks, d⟩ nr kr dr nc kc dc wx HF.out (HR1.out.below (below_of hb)) (HE1.out.below (below_of hb))
  have HC : Hid (∀ wx, Below W1.heap.size W1.drew wx → Calls Tryz.prog 83 #[frmV ⟨(m : Int), [], ns, ks, d⟩ (.slice nr ns.length nc) (.slice kr ks.len kc) (.slice dr d.s.len dc)] wx fun e w' => e = .returned (.bool (callFitB ⟨(m : Int), [], ns, ks, d⟩)) ∧ Below wx.heap.size wx w') := fun wx hb => callFit_of ⟨(m : Int), [], ns, ks, d⟩ nr kr dr nc kc dc wx HF.out (HR1.out.below (below_of hb)) (HE1.out.below (below_of hb)) hO Hne.out
  clear h1 h5 h6
  generalize ns.length = n4 at *
  have h4i : ((n4 : Int) == 0) = false := by simp; omega
  go_enter Tryz.func67, Tryz.ntmps67
  go_upto_region 1 with fail
  clear hW1
  go_wp2_with fail
  have hun : undef = .tuple #[] := rfl
  refine wp_region_noPanic ?_
  refine wp_region_held_drew (S := fun wx => (wx.cell? ⟨w.heap.size, 0, none⟩ = some (.int .u8 m) ∧ wx.cell? ⟨w.heap.size, 1, none⟩ = some (S []) ∧ wx.cell? ⟨w.heap.size, 2, none⟩ = some (.slice nr n4 nc) ∧ wx.cell? ⟨w.heap.size, 3, none⟩ = some (.slice kr ks.len kc) ∧ wx.cell? ⟨w.heap.size, 4, none⟩ = some (.int .u8 d.k) ∧ wx.cell? ⟨w.heap.size, 5, none⟩ = some (.int .i64 d.n) ∧ wx.cell? ⟨w.heap.size, 6, none⟩ = some (S d.t) ∧ wx.cell? ⟨w.heap.size, 7, none⟩ = some (.slice dr d.s.len dc) ∧ wx.cell? ⟨w.heap.size, 8, none⟩ = some (.bool d.d)) ∧ (wx.cell? ⟨1, m * 4, none⟩ = some (S (shpOf m).1) ∧ wx.cell? ⟨1, m * 4 + 1, none⟩ = some (.int .i64 (shpOf m).2.1) ∧ wx.cell? ⟨1, m * 4 + 1 + 1, none⟩ = some (.int .i64 (shpOf m).2.2.1) ∧ wx.cell? ⟨1, m * 4 + 1 + 1 + 1, none⟩ = some (.int .i64 (shpOf m).2.2.2))) hmx ?_ (fun hHeld => ?_)
  · exact mk _ hb0
  refine wpAnyH_take (i := 0) (oi := { dst := some 11, op := _, type := _, pos := _, after := _, guard := _ }) (v := ?v0) rfl (by kernel_rfl) (by kernel_rfl) (by kernel_rfl) (fun _ _ _ h => h) (Or.inl ⟨by rfl, ?hy0⟩) (by assumption) ?rest0
  case hy0 => (intro w hSw; (try dsimp only at hSw); go_simp; try with_reducible rfl)
  try simp only [Act.put, List.setIfInBounds_toArray, List.set_cons_zero, List.set_cons_succ]
  refine wpAnyH_take (i := 1) (oi := { dst := some 12, op := _, type := _, pos := _, after := _, guard := _ }) (v := ?v1) rfl (by kernel_rfl) (by kernel_rfl) (by kernel_rfl) (fun _ _ _ h => h) (Or.inl ⟨by rfl, ?hy1⟩) (by assumption) ?rest1
  case hy1 => (intro w hSw; (try dsimp only at hSw); go_simp; try with_reducible rfl)
  try simp only [Act.put, List.setIfInBounds_toArray, List.set_cons_zero, List.set_cons_succ]
  refine wpAnyH_take (i := 2) (oi := { dst := some 13, op := _, type := _, pos := _, after := _, guard := _ }) (v := ?v2) rfl (by kernel_rfl) (by kernel_rfl) (by kernel_rfl) (fun _ _ _ h => h) (Or.inl ⟨by rfl, ?hy2⟩) (by assumption) ?rest2
  case hy2 => (intro w hSw; (try dsimp only at hSw); go_simp; try with_reducible rfl)
  try simp only [Act.put, List.setIfInBounds_toArray, List.set_cons_zero, List.set_cons_succ]
  refine wpAnyH_take (i := 3) (oi := { dst := some 14, op := _, type := _, pos := _, after := _, guard := _ }) (v := ?v3) rfl (by kernel_rfl) (by kernel_rfl) (by kernel_rfl) (fun _ _ _ h => h) (Or.inl ⟨by rfl, ?hy3⟩) (by assumption) ?rest3
  case hy3 => (intro w hSw; (try dsimp only at hSw); go_simp; try with_reducible rfl)
  try simp only [Act.put, List.setIfInBounds_toArray, List.set_cons_zero, List.set_cons_succ]
  refine wpAnyH_take (i := 4) (oi := { dst := some 15, op := _, type := _, pos := _, after := _, guard := _ }) (v := ?v4) rfl (by kernel_rfl) (by kernel_rfl) (by kernel_rfl) (fun _ _ _ h => h) (Or.inl ⟨by rfl, ?hy4⟩) (by assumption) ?rest4
  case hy4 => (intro w hSw; (try dsimp only at hSw); go_simp; try with_reducible rfl)
  try simp only [Act.put, List.setIfInBounds_toArray, List.set_cons_zero, List.set_cons_succ]
  refine wpAnyH_take (i := 5) (oi := { dst := some 16, op := _, type := _, pos := _, after := _, guard := _ }) (v := ?v5) rfl (by kernel_rfl) (by kernel_rfl) (by kernel_rfl) (fun _ _ _ h => h) (Or.inl ⟨by rfl, ?hy5⟩) (by assumption) ?rest5
  case hy5 => (intro w hSw; (try dsimp only at hSw); go_simp; try with_reducible rfl)
  try simp only [Act.put, List.setIfInBounds_toArray, List.set_cons_zero, List.set_cons_succ]
  refine wpAnyH_take (i := 6) (oi := { dst := some 17, op := _, type := _, pos := _, after := _, guard := _ }) (v := ?v6) rfl (by kernel_rfl) (by kernel_rfl) (by kernel_rfl) (fun _ _ _ h => h) (Or.inl ⟨by rfl, ?hy6⟩) (by assumption) ?rest6
  case hy6 => (intro w hSw; (try dsimp only at hSw); go_simp; try with_reducible rfl)
  try simp only [Act.put, List.setIfInBounds_toArray, List.set_cons_zero, List.set_cons_succ]
  refine wpAnyH_take (i := 7) (oi := { dst := some 18, op := _, type := _, pos := _, after := _, guard := _ }) (v := ?v7) rfl (by kernel_rfl) (by kernel_rfl) (by kernel_rfl) (fun _ _ _ h => h) (Or.inl ⟨by rfl, ?hy7⟩) (by assumption) ?rest7
  case hy7 => (intro w hSw; (try dsimp only at hSw); go_simp; try with_reducible rfl)
  try simp only [Act.put, List.setIfInBounds_toArray, List.set_cons_zero, List.set_cons_succ]
  refine wpAnyH_ready (rs := [8]) (by kernel_rfl) (by simp) ?_
  refine AllReadyH.cons (o := { dst := some 19, op := _, type := _, pos := _, after := _, guard := _ }) rfl (fun K hK => ?_) AllReadyH.nil
  go_simp
  first | (go_at_call 33; refine (HV.out _ hb0).mono ?_; rintro e wV ⟨rfl, hxV⟩; have hbV : Below W1.heap.size W1.drew wV := hb0.trans (hxV.mono hb0.size); go_wp2_with fail) | (go_at_call 64; refine (HT.out _ hbV).mono ?_; rintro e wT ⟨rfl, hxT⟩; have hbT : Below W1.heap.size W1.drew wT := hbV.trans (hxT.mono hbV.size); go_wp2_with fail) | (go_at_call 81; refine (HN.out _ hbT).mono ?_; rintro e wN ⟨rfl, hxN⟩; have hbN : Below W1.heap.size W1.drew wN := hbT.trans (hxN.mono hbT.size); go_wp2_with fail) | (go_at_call 82; refine (HD.out _ hbN).mono ?_; rintro e wD ⟨rfl, hxD⟩; have hbD : Below W1.heap.size W1.drew wD := hbN.trans (hxD.mono hbN.size); go_wp2_with fail) | (go_at_call 83; refine (HC.out _ hbD).mono ?_; rintro e wC ⟨rfl, hxC⟩; have hbC : Below W1.heap.size W1.drew wC := hbD.trans (hxC.mono hbD.size); go_wp2_with fail) | skip
  refine hK.out _ _ ?_ (fun hHeld => ?_)
  · (first | assumption | exact mk _ hbC | exact mk _ hbD | exact mk _ hbN | exact mk _ hbT | exact mk _ hbV | exact mk _ hb0)
  clear hK K
  try simp only [Act.put, List.setIfInBounds_toArray, List.set_cons_zero, List.set_cons_succ]
  refine wpAnyH_take (i := 9) (oi := { dst := some 20, op := _, type := _, pos := _, after := _, guard := _ }) (v := ?v9) rfl (by kernel_rfl) (by kernel_rfl) (by kernel_rfl) (fun _ _ _ h => h) (Or.inl ⟨by rfl, ?hy9⟩) (by assumption) ?rest9
  case hy9 => (intro w hSw; (try dsimp only at hSw); go_simp; try with_reducible rfl)
  try simp only [Act.put, List.setIfInBounds_toArray, List.set_cons_zero, List.set_cons_succ]
  refine wpAnyH_ready (rs := [10]) (by kernel_rfl) (by simp) ?_
  refine AllReadyH.cons (o := { dst := some 21, op := _, type := _, pos := _, after := _, guard := _ }) rfl (fun K hK => ?_) AllReadyH.nil
  go_simp
  first | (go_at_call 33; refine (HV.out _ hb0).mono ?_; rintro e wV ⟨rfl, hxV⟩; have hbV : Below W1.heap.size W1.drew wV := hb0.trans (hxV.mono hb0.size); go_wp2_with fail) | (go_at_call 64; refine (HT.out _ hbV).mono ?_; rintro e wT ⟨rfl, hxT⟩; have hbT : Below W1.heap.size W1.drew wT := hbV.trans (hxT.mono hbV.size); go_wp2_with fail) | (go_at_call 81; refine (HN.out _ hbT).mono ?_; rintro e wN ⟨rfl, hxN⟩; have hbN : Below W1.heap.size W1.drew wN := hbT.trans (hxN.mono hbT.size); go_wp2_with fail) | (go_at_call 82; refine (HD.out _ hbN).mono ?_; rintro e wD ⟨rfl, hxD⟩; have hbD : Below W1.heap.size W1.drew wD := hbN.trans (hxD.mono hbN.size); go_wp2_with fail) | (go_at_call 83; refine (HC.out _ hbD).mono ?_; rintro e wC ⟨rfl, hxC⟩; have hbC : Below W1.heap.size W1.drew wC := hbD.trans (hxC.mono hbD.size); go_wp2_with fail) | skip
  refine hK.out _ _ ?_ (fun hHeld => ?_)
  · (first | assumption | exact mk _ hbC | exact mk _ hbD | exact mk _ hbN | exact mk _ hbT | exact mk _ hbV | exact mk _ hb0)
  clear hK K
  try simp only [Act.put, List.setIfInBounds_toArray, List.set_cons_zero, List.set_cons_succ]
  refine wpAnyH_take (i := 11) (oi := { dst := some 22, op := _, type := _, pos := _, after := _, guard := _ }) (v := ?v11) rfl (by kernel_rfl) (by kernel_rfl) (by kernel_rfl) (fun _ _ _ h => h) (Or.inl ⟨by rfl, ?hy11⟩) (by assumption) ?rest11
  case hy11 => (intro w hSw; (try dsimp only at hSw); go_simp; try with_reducible rfl)
  try simp only [Act.put, List.setIfInBounds_toArray, List.set_cons_zero, List.set_cons_succ]
  refine wpAnyH_take (i := 12) (oi := { dst := some 23, op := _, type := _, pos := _, after := _, guard := _ }) (v := ?v12) rfl (by kernel_rfl) (by kernel_rfl) (by kernel_rfl) (fun _ _ _ h => h) (Or.inl ⟨by rfl, ?hy12⟩) (by assumption) ?rest12
  case hy12 => (intro w hSw; (try dsimp only at hSw); go_simp; try with_reducible rfl)
  try simp only [Act.put, List.setIfInBounds_toArray, List.set_cons_zero, List.set_cons_succ]
  refine wpAnyH_take (i := 13) (oi := { dst := some 24, op := _, type := _, pos := _, after := _, guard := _ }) (v := ?v13) rfl (by kernel_rfl) (by kernel_rfl) (by kernel_rfl) (fun _ _ _ h => h) (Or.inl ⟨by rfl, ?hy13⟩) (by assumption) ?rest13
  case hy13 => (intro w hSw; (try dsimp only at hSw); go_simp; try with_reducible rfl)
  try simp only [Act.put, List.setIfInBounds_toArray, List.set_cons_zero, List.set_cons_succ]
  refine wpAnyH_take (i := 14) (oi := { dst := some 25, op := _, type := _, pos := _, after := _, guard := _ }) (v := ?v14) rfl (by kernel_rfl) (by kernel_rfl) (by kernel_rfl) (fun _ _ _ h => h) (Or.inl ⟨by rfl, ?hy14⟩) (by assumption) ?rest14
  case hy14 => (intro w hSw; (try dsimp only at hSw); go_simp; try with_reducible rfl)
  try simp only [Act.put, List.setIfInBounds_toArray, List.set_cons_zero, List.set_cons_succ]
  refine wpAnyH_take (i := 15) (oi := { dst := some 26, op := _, type := _, pos := _, after := _, guard := _ }) (v := ?v15) rfl (by kernel_rfl) (by kernel_rfl) (by kernel_rfl) (fun _ _ _ h => h) (Or.inl ⟨by rfl, ?hy15⟩) (by assumption) ?rest15
  case hy15 => (intro w hSw; (try dsimp only at hSw); go_simp; try with_reducible rfl)
  try simp only [Act.put, List.setIfInBounds_toArray, List.set_cons_zero, List.set_cons_succ]
  refine wpAnyH_ready (rs := [16]) (by kernel_rfl) (by simp) ?_
  refine AllReadyH.cons (o := { dst := some 27, op := _, type := _, pos := _, after := _, guard := _ }) rfl (fun K hK => ?_) AllReadyH.nil
  go_simp
  first | (go_at_call 33; refine (HV.out _ hb0).mono ?_; rintro e wV ⟨rfl, hxV⟩; have hbV : Below W1.heap.size W1.drew wV := hb0.trans (hxV.mono hb0.size); go_wp2_with fail) | (go_at_call 64; refine (HT.out _ hbV).mono ?_; rintro e wT ⟨rfl, hxT⟩; have hbT : Below W1.heap.size W1.drew wT := hbV.trans (hxT.mono hbV.size); go_wp2_with fail) | (go_at_call 81; refine (HN.out _ hbT).mono ?_; rintro e wN ⟨rfl, hxN⟩; have hbN : Below W1.heap.size W1.drew wN := hbT.trans (hxN.mono hbT.size); go_wp2_with fail) | (go_at_call 82; refine (HD.out _ hbN).mono ?_; rintro e wD ⟨rfl, hxD⟩; have hbD : Below W1.heap.size W1.drew wD := hbN.trans (hxD.mono hbN.size); go_wp2_with fail) | (go_at_call 83; refine (HC.out _ hbD).mono ?_; rintro e wC ⟨rfl, hxC⟩; have hbC : Below W1.heap.size W1.drew wC := hbD.trans (hxC.mono hbD.size); go_wp2_with fail) | skip
  refine hK.out _ _ ?_ (fun hHeld => ?_)
  · (first | assumption | exact mk _ hbC | exact mk _ hbD | exact mk _ hbN | exact mk _ hbT | exact mk _ hbV | exact mk _ hb0)
  clear hK K
  try simp only [Act.put, List.setIfInBounds_toArray, List.set_cons_zero, List.set_cons_succ]
  refine wpAnyH_ready (rs := [17]) (by kernel_rfl) (by simp) ?_
  refine AllReadyH.cons (o := { dst := some 28, op := _, type := _, pos := _, after := _, guard := _ }) rfl (fun K hK => ?_) AllReadyH.nil
  go_simp
  first | (go_at_call 33; refine (HV.out _ hb0).mono ?_; rintro e wV ⟨rfl, hxV⟩; have hbV : Below W1.heap.size W1.drew wV := hb0.trans (hxV.mono hb0.size); go_wp2_with fail) | (go_at_call 64; refine (HT.out _ hbV).mono ?_; rintro e wT ⟨rfl, hxT⟩; have hbT : Below W1.heap.size W1.drew wT := hbV.trans (hxT.mono hbV.size); go_wp2_with fail) | (go_at_call 81; refine (HN.out _ hbT).mono ?_; rintro e wN ⟨rfl, hxN⟩; have hbN : Below W1.heap.size W1.drew wN := hbT.trans (hxN.mono hbT.size); go_wp2_with fail) | (go_at_call 82; refine (HD.out _ hbN).mono ?_; rintro e wD ⟨rfl, hxD⟩; have hbD : Below W1.heap.size W1.drew wD := hbN.trans (hxD.mono hbN.size); go_wp2_with fail) | (go_at_call 83; refine (HC.out _ hbD).mono ?_; rintro e wC ⟨rfl, hxC⟩; have hbC : Below W1.heap.size W1.drew wC := hbD.trans (hxC.mono hbD.size); go_wp2_with fail) | skip
  refine hK.out _ _ ?_ (fun hHeld => ?_)
  · (first | assumption | exact mk _ hbC | exact mk _ hbD | exact mk _ hbN | exact mk _ hbT | exact mk _ hbV | exact mk _ hb0)
  clear hK K
  try simp only [Act.put, List.setIfInBounds_toArray, List.set_cons_zero, List.set_cons_succ]
  refine wpAnyH_ready (rs := [18]) (by kernel_rfl) (by simp) ?_
  refine AllReadyH.cons (o := { dst := some 29, op := _, type := _, pos := _, after := _, guard := _ }) rfl (fun K hK => ?_) AllReadyH.nil
  go_simp
  first | (go_at_call 33; refine (HV.out _ hb0).mono ?_; rintro e wV ⟨rfl, hxV⟩; have hbV : Below W1.heap.size W1.drew wV := hb0.trans (hxV.mono hb0.size); go_wp2_with fail) | (go_at_call 64; refine (HT.out _ hbV).mono ?_; rintro e wT ⟨rfl, hxT⟩; have hbT : Below W1.heap.size W1.drew wT := hbV.trans (hxT.mono hbV.size); go_wp2_with fail) | (go_at_call 81; refine (HN.out _ hbT).mono ?_; rintro e wN ⟨rfl, hxN⟩; have hbN : Below W1.heap.size W1.drew wN := hbT.trans (hxN.mono hbT.size); go_wp2_with fail) | (go_at_call 82; refine (HD.out _ hbN).mono ?_; rintro e wD ⟨rfl, hxD⟩; have hbD : Below W1.heap.size W1.drew wD := hbN.trans (hxD.mono hbN.size); go_wp2_with fail) | (go_at_call 83; refine (HC.out _ hbD).mono ?_; rintro e wC ⟨rfl, hxC⟩; have hbC : Below W1.heap.size W1.drew wC := hbD.trans (hxC.mono hbD.size); go_wp2_with fail) | skip
  refine hK.out _ _ ?_ (fun hHeld => ?_)
  · (first | assumption | exact mk _ hbC | exact mk _ hbD | exact mk _ hbN | exact mk _ hbT | exact mk _ hbV | exact mk _ hb0)
  clear hK K
  try simp only [Act.put, List.setIfInBounds_toArray, List.set_cons_zero, List.set_cons_succ]
  refine wpAnyH_take (i := 19) (oi := { dst := some 30, op := _, type := _, pos := _, after := _, guard := _ }) (v := ?v19) rfl (by kernel_rfl) (by kernel_rfl) (by kernel_rfl) (fun _ _ _ h => h) (Or.inl ⟨by rfl, ?hy19⟩) (by assumption) ?rest19
  case hy19 => (intro w hSw; (try dsimp only at hSw); go_simp; try with_reducible rfl)
  try simp only [Act.put, List.setIfInBounds_toArray, List.set_cons_zero, List.set_cons_succ]
  refine wpAnyH_take (i := 20) (oi := { dst := some 31, op := _, type := _, pos := _, after := _, guard := _ }) (v := ?v20) rfl (by kernel_rfl) (by kernel_rfl) (by kernel_rfl) (fun _ _ _ h => h) (Or.inl ⟨by rfl, ?hy20⟩) (by assumption) ?rest20
  case hy20 => (intro w hSw; (try dsimp only at hSw); go_simp; try with_reducible rfl)
  try simp only [Act.put, List.setIfInBounds_toArray, List.set_cons_zero, List.set_cons_succ]
  refine wpAnyH_take (i := 21) (oi := { dst := some 32, op := _, type := _, pos := _, after := _, guard := _ }) (v := ?v21) rfl (by kernel_rfl) (by kernel_rfl) (by kernel_rfl) (fun _ _ _ h => h) (Or.inl ⟨by rfl, ?hy21⟩) (by assumption) ?rest21
  case hy21 => (intro w hSw; (try dsimp only at hSw); go_simp; try with_reducible rfl)
  try simp only [Act.put, List.setIfInBounds_toArray, List.set_cons_zero, List.set_cons_succ]
  refine wpAnyH_take (i := 22) (oi := { dst := some 33, op := _, type := _, pos := _, after := _, guard := _ }) (v := ?v22) rfl (by kernel_rfl) (by kernel_rfl) (by kernel_rfl) (fun _ _ _ h => h) (Or.inl ⟨by rfl, ?hy22⟩) (by assumption) ?rest22
  case hy22 => (intro w hSw; (try dsimp only at hSw); go_simp; try with_reducible rfl)
  try simp only [Act.put, List.setIfInBounds_toArray, List.set_cons_zero, List.set_cons_succ]
  refine wpAnyH_take (i := 23) (oi := { dst := some 34, op := _, type := _, pos := _, after := _, guard := _ }) (v := ?v23) rfl (by kernel_rfl) (by kernel_rfl) (by kernel_rfl) (fun _ _ _ h => h) (Or.inl ⟨by rfl, ?hy23⟩) (by assumption) ?rest23
  case hy23 => (intro w hSw; (try dsimp only at hSw); go_simp; try with_reducible rfl)
  try simp only [Act.put, List.setIfInBounds_toArray, List.set_cons_zero, List.set_cons_succ]
  refine wpAnyH_take (i := 24) (oi := { dst := some 35, op := _, type := _, pos := _, after := _, guard := _ }) (v := ?v24) rfl (by kernel_rfl) (by kernel_rfl) (by kernel_rfl) (fun _ _ _ h => h) (Or.inl ⟨by rfl, ?hy24⟩) (by assumption) ?rest24
  case hy24 => (intro w hSw; (try dsimp only at hSw); go_simp; try with_reducible rfl)
  try simp only [Act.put, List.setIfInBounds_toArray, List.set_cons_zero, List.set_cons_succ]
  refine wpAnyH_take (i := 25) (oi := { dst := some 36, op := _, type := _, pos := _, after := _, guard := _ }) (v := ?v25) rfl (by kernel_rfl) (by kernel_rfl) (by kernel_rfl) (fun _ _ _ h => h) (Or.inl ⟨by rfl, ?hy25⟩) (by assumption) ?rest25
  case hy25 => (intro w hSw; (try dsimp only at hSw); go_simp; try with_reducible rfl)
  try simp only [Act.put, List.setIfInBounds_toArray, List.set_cons_zero, List.set_cons_succ]
  refine wpAnyH_take (i := 26) (oi := { dst := some 37, op := _, type := _, pos := _, after := _, guard := _ }) (v := ?v26) rfl (by kernel_rfl) (by kernel_rfl) (by kernel_rfl) (fun _ _ _ h => h) (Or.inl ⟨by rfl, ?hy26⟩) (by assumption) ?rest26
  case hy26 => (intro w hSw; (try dsimp only at hSw); go_simp; try with_reducible rfl)
  try simp only [Act.put, List.setIfInBounds_toArray, List.set_cons_zero, List.set_cons_succ]
  refine wpAnyH_take (i := 27) (oi := { dst := some 38, op := _, type := _, pos := _, after := _, guard := _ }) (v := ?v27) rfl (by kernel_rfl) (by kernel_rfl) (by kernel_rfl) (fun _ _ _ h => h) (Or.inl ⟨by rfl, ?hy27⟩) (by assumption) ?rest27
  case hy27 => (intro w hSw; (try dsimp only at hSw); go_simp; try with_reducible rfl)
  try simp only [Act.put, List.setIfInBounds_toArray, List.set_cons_zero, List.set_cons_succ]
  refine wpAnyH_take (i := 28) (oi := { dst := some 39, op := _, type := _, pos := _, after := _, guard := _ }) (v := ?v28) rfl (by kernel_rfl) (by kernel_rfl) (by kernel_rfl) (fun _ _ _ h => h) (Or.inl ⟨by rfl, ?hy28⟩) (by assumption) ?rest28
  case hy28 => (intro w hSw; (try dsimp only at hSw); go_simp; try with_reducible rfl)
  try simp only [Act.put, List.setIfInBounds_toArray, List.set_cons_zero, List.set_cons_succ]
  refine wpAnyH_ready (rs := [29]) (by kernel_rfl) (by simp) ?_
  refine AllReadyH.cons (o := { dst := some 40, op := _, type := _, pos := _, after := _, guard := _ }) rfl (fun K hK => ?_) AllReadyH.nil
  go_simp
  first | (go_at_call 33; refine (HV.out _ hb0).mono ?_; rintro e wV ⟨rfl, hxV⟩; have hbV : Below W1.heap.size W1.drew wV := hb0.trans (hxV.mono hb0.size); go_wp2_with fail) | (go_at_call 64; refine (HT.out _ hbV).mono ?_; rintro e wT ⟨rfl, hxT⟩; have hbT : Below W1.heap.size W1.drew wT := hbV.trans (hxT.mono hbV.size); go_wp2_with fail) | (go_at_call 81; refine (HN.out _ hbT).mono ?_; rintro e wN ⟨rfl, hxN⟩; have hbN : Below W1.heap.size W1.drew wN := hbT.trans (hxN.mono hbT.size); go_wp2_with fail) | (go_at_call 82; refine (HD.out _ hbN).mono ?_; rintro e wD ⟨rfl, hxD⟩; have hbD : Below W1.heap.size W1.drew wD := hbN.trans (hxD.mono hbN.size); go_wp2_with fail) | (go_at_call 83; refine (HC.out _ hbD).mono ?_; rintro e wC ⟨rfl, hxC⟩; have hbC : Below W1.heap.size W1.drew wC := hbD.trans (hxC.mono hbD.size); go_wp2_with fail) | skip
  refine hK.out _ _ ?_ (fun hHeld => ?_)
  · (first | assumption | exact mk _ hbC | exact mk _ hbD | exact mk _ hbN | exact mk _ hbT | exact mk _ hbV | exact mk _ hb0)
  clear hK K
  try simp only [Act.put, List.setIfInBounds_toArray, List.set_cons_zero, List.set_cons_succ]
  refine wpAnyH_take (i := 30) (oi := { dst := some 41, op := _, type := _, pos := _, after := _, guard := _ }) (v := ?v30) rfl (by kernel_rfl) (by kernel_rfl) (by kernel_rfl) (fun _ _ _ h => h) (Or.inl ⟨by rfl, ?hy30⟩) (by assumption) ?rest30
  case hy30 => (intro w hSw; (try dsimp only at hSw); go_simp; try with_reducible rfl)
  try simp only [Act.put, List.setIfInBounds_toArray, List.set_cons_zero, List.set_cons_succ]
  refine wpAnyH_take (i := 31) (oi := { dst := some 42, op := _, type := _, pos := _, after := _, guard := _ }) (v := ?v31) rfl (by kernel_rfl) (by kernel_rfl) (by kernel_rfl) (fun _ _ _ h => h) (Or.inl ⟨by rfl, ?hy31⟩) (by assumption) ?rest31
  case hy31 => (intro w hSw; (try dsimp only at hSw); go_simp; try with_reducible rfl)
  try simp only [Act.put, List.setIfInBounds_toArray, List.set_cons_zero, List.set_cons_succ]
  refine wpAnyH_take (i := 32) (oi := { dst := some 43, op := _, type := _, pos := _, after := _, guard := _ }) (v := ?v32) rfl (by kernel_rfl) (by kernel_rfl) (by kernel_rfl) (fun _ _ _ h => h) (Or.inl ⟨by rfl, ?hy32⟩) (by assumption) ?rest32
  case hy32 => (intro w hSw; (try dsimp only at hSw); go_simp; try with_reducible rfl)
  try simp only [Act.put, List.setIfInBounds_toArray, List.set_cons_zero, List.set_cons_succ]
  refine wpAnyH_take (i := 33) (oi := { dst := some 44, op := _, type := _, pos := _, after := _, guard := _ }) (v := ?v33) rfl (by kernel_rfl) (by kernel_rfl) (by kernel_rfl) (fun _ _ _ h => h) (Or.inl ⟨by rfl, ?hy33⟩) (by assumption) ?rest33
  case hy33 => (intro w hSw; (try dsimp only at hSw); go_simp; try with_reducible rfl)
  try simp only [Act.put, List.setIfInBounds_toArray, List.set_cons_zero, List.set_cons_succ]
  refine wpAnyH_ready (rs := [34]) (by kernel_rfl) (by simp) ?_
  refine AllReadyH.cons (o := { dst := some 45, op := _, type := _, pos := _, after := _, guard := _ }) rfl (fun K hK => ?_) AllReadyH.nil
  go_simp
  first | (go_at_call 33; refine (HV.out _ hb0).mono ?_; rintro e wV ⟨rfl, hxV⟩; have hbV : Below W1.heap.size W1.drew wV := hb0.trans (hxV.mono hb0.size); go_wp2_with fail) | (go_at_call 64; refine (HT.out _ hbV).mono ?_; rintro e wT ⟨rfl, hxT⟩; have hbT : Below W1.heap.size W1.drew wT := hbV.trans (hxT.mono hbV.size); go_wp2_with fail) | (go_at_call 81; refine (HN.out _ hbT).mono ?_; rintro e wN ⟨rfl, hxN⟩; have hbN : Below W1.heap.size W1.drew wN := hbT.trans (hxN.mono hbT.size); go_wp2_with fail) | (go_at_call 82; refine (HD.out _ hbN).mono ?_; rintro e wD ⟨rfl, hxD⟩; have hbD : Below W1.heap.size W1.drew wD := hbN.trans (hxD.mono hbN.size); go_wp2_with fail) | (go_at_call 83; refine (HC.out _ hbD).mono ?_; rintro e wC ⟨rfl, hxC⟩; have hbC : Below W1.heap.size W1.drew wC := hbD.trans (hxC.mono hbD.size); go_wp2_with fail) | skip
  refine hK.out _ _ ?_ (fun hHeld => ?_)
  · (first | assumption | exact mk _ hbC | exact mk _ hbD | exact mk _ hbN | exact mk _ hbT | exact mk _ hbV | exact mk _ hb0)
  clear hK K
  try simp only [Act.put, List.setIfInBounds_toArray, List.set_cons_zero, List.set_cons_succ]
  refine wpAnyH_take (i := 35) (oi := { dst := some 46, op := _, type := _, pos := _, after := _, guard := _ }) (v := ?v35) rfl (by kernel_rfl) (by kernel_rfl) (by kernel_rfl) (fun _ _ _ h => h) (Or.inl ⟨by rfl, ?hy35⟩) (by assumption) ?rest35
  case hy35 => (intro w hSw; (try dsimp only at hSw); go_simp; try with_reducible rfl)
  try simp only [Act.put, List.setIfInBounds_toArray, List.set_cons_zero, List.set_cons_succ]
  refine wpAnyH_take (i := 36) (oi := { dst := some 47, op := _, type := _, pos := _, after := _, guard := _ }) (v := ?v36) rfl (by kernel_rfl) (by kernel_rfl) (by kernel_rfl) (fun _ _ _ h => h) (Or.inl ⟨by rfl, ?hy36⟩) (by assumption) ?rest36
  case hy36 => (intro w hSw; (try dsimp only at hSw); go_simp; try with_reducible rfl)
  try simp only [Act.put, List.setIfInBounds_toArray, List.set_cons_zero, List.set_cons_succ]
  refine wpAnyH_take (i := 37) (oi := { dst := some 48, op := _, type := _, pos := _, after := _, guard := _ }) (v := ?v37) rfl (by kernel_rfl) (by kernel_rfl) (by kernel_rfl) (fun _ _ _ h => h) (Or.inl ⟨by rfl, ?hy37⟩) (by assumption) ?rest37
  case hy37 => (intro w hSw; (try dsimp only at hSw); go_simp; try with_reducible rfl)
  try simp only [Act.put, List.setIfInBounds_toArray, List.set_cons_zero, List.set_cons_succ]
  refine wpAnyH_ready (rs := [38]) (by kernel_rfl) (by simp) ?_
  refine AllReadyH.cons (o := { dst := some 49, op := _, type := _, pos := _, after := _, guard := _ }) rfl (fun K hK => ?_) AllReadyH.nil
  go_simp
  first | (go_at_call 33; refine (HV.out _ hb0).mono ?_; rintro e wV ⟨rfl, hxV⟩; have hbV : Below W1.heap.size W1.drew wV := hb0.trans (hxV.mono hb0.size); go_wp2_with fail) | (go_at_call 64; refine (HT.out _ hbV).mono ?_; rintro e wT ⟨rfl, hxT⟩; have hbT : Below W1.heap.size W1.drew wT := hbV.trans (hxT.mono hbV.size); go_wp2_with fail) | (go_at_call 81; refine (HN.out _ hbT).mono ?_; rintro e wN ⟨rfl, hxN⟩; have hbN : Below W1.heap.size W1.drew wN := hbT.trans (hxN.mono hbT.size); go_wp2_with fail) | (go_at_call 82; refine (HD.out _ hbN).mono ?_; rintro e wD ⟨rfl, hxD⟩; have hbD : Below W1.heap.size W1.drew wD := hbN.trans (hxD.mono hbN.size); go_wp2_with fail) | (go_at_call 83; refine (HC.out _ hbD).mono ?_; rintro e wC ⟨rfl, hxC⟩; have hbC : Below W1.heap.size W1.drew wC := hbD.trans (hxC.mono hbD.size); go_wp2_with fail) | skip
  refine hK.out _ _ ?_ (fun hHeld => ?_)
  · (first | assumption | exact mk _ hbC | exact mk _ hbD | exact mk _ hbN | exact mk _ hbT | exact mk _ hbV | exact mk _ hb0)
  clear hK K
  try simp only [Act.put, List.setIfInBounds_toArray, List.set_cons_zero, List.set_cons_succ]
  refine wpAnyH_take (i := 39) (oi := { dst := some 50, op := _, type := _, pos := _, after := _, guard := _ }) (v := ?v39) rfl (by kernel_rfl) (by kernel_rfl) (by kernel_rfl) (fun _ _ _ h => h) (Or.inl ⟨by rfl, ?hy39⟩) (by assumption) ?rest39
  case hy39 => (intro w hSw; (try dsimp only at hSw); go_simp; try with_reducible rfl)
  try simp only [Act.put, List.setIfInBounds_toArray, List.set_cons_zero, List.set_cons_succ]
  refine wpAnyH_take (i := 40) (oi := { dst := some 2, op := _, type := _, pos := _, after := _, guard := _ }) (v := ?v40) rfl (by kernel_rfl) (by kernel_rfl) (by kernel_rfl) (fun _ _ _ h => h) (Or.inl ⟨by rfl, ?hy40⟩) (by assumption) ?rest40
  case hy40 => (intro w hSw; (try dsimp only at hSw); go_simp; try with_reducible rfl)
  try simp only [Act.put, List.setIfInBounds_toArray, List.set_cons_zero, List.set_cons_succ]
  refine wpAnyH_done (by kernel_rfl) ?_ _
  refine NoPanic.normal ?_
  clear hun
  go_wp2
  go_ret
  exact ⟨rfl, HB1.out.trans (((Below.refl _ W1).drew.trans hbC).mono HB1.out.size)⟩
end Go.Proofs.YtkgnigloboajcabGreatDoor

/- isShaped, way by way (gen_fshp.py). -/
namespace Go.Proofs.YtkgnigloboajcabGreatDoor
open Go.RowKit Go.Maps Go.ChangeMaps

set_option maxRecDepth 100000 in
set_option maxHeartbeats 16000000 in
theorem shaped_7 (m : Nat) (t : List UInt8) (ns : List (List UInt8)) (ks : Fm) (d : Dt) (nr kr dr : Option Addr) (nc kc dc : Nat) (w : World) (hF : FOk ⟨(m : Int), t, ns, ks, d⟩) (hR : RFo w ⟨(m : Int), t, ns, ks, d⟩ nr kr dr) (hE : Env w) (_hO : ks.oks) (hm0 : 1 ≤ m) (hm1 : m < 16) (h1 : takesB m ((ks.len : Int) - (valsN ⟨(m : Int), t, ns, ks, d⟩ : Int)) = true) (h2 : (t == []) = false) (h3 : hasTextB m = true) (h4 : ns.length ≠ 0) (h5 : hasNamesB m = false) :
    Calls Tryz.prog 67 #[frmV ⟨(m : Int), t, ns, ks, d⟩ (.slice nr ns.length nc) (.slice kr ks.len kc) (.slice dr d.s.len dc)] w fun e w' => e = .returned (.bool (false)) ∧ Below w.heap.size w w' := by
  obtain ⟨W1, hW1⟩ : ∃ W1, w.alloc (Z9 ⟨(m : Int), t, ns, ks, d⟩ (.slice nr ns.length nc) (.slice kr ks.len kc) (.slice dr d.s.len dc)) = W1 := ⟨_, rfl⟩
  have a1 := (Below.refl _ w).alloc (Nat.le_refl w.heap.size) (Z9 ⟨(m : Int), t, ns, ks, d⟩ (.slice nr ns.length nc) (.slice kr ks.len kc) (.slice dr d.s.len dc))
  have q0 := World.alloc_heap_new w (Z9 ⟨(m : Int), t, ns, ks, d⟩ (.slice nr ns.length nc) (.slice kr ks.len kc) (.slice dr d.s.len dc))
  rw [hW1] at a1 q0
  have HB1 : Hid (Below w.heap.size w W1) := a1
  have HR1 : Hid (RFo W1 ⟨(m : Int), t, ns, ks, d⟩ nr kr dr) := hR.below a1
  have HE1 : Hid (Env W1) := hE.below a1
  have HF : Hid (FOk ⟨(m : Int), t, ns, ks, d⟩) := hF
  obtain ⟨⟨z0, z1, z2, z3, z4, z5, z6, z7, z8⟩, _⟩ := cells9 q0
  obtain ⟨s0, s1, s2, s3⟩ := shp_at HE1.out.sl hm0 hm1
  have hwr : IntKind.i64.wrap ((ks.len : Int) - (valsN ⟨(m : Int), t, ns, ks, d⟩ : Int)) = (ks.len : Int) - (valsN ⟨(m : Int), t, ns, ks, d⟩ : Int) := wrapV hF
  have i1 : ¬ (m : Int) < 1 := by omega
  have i3 : (m : Int) < 16 := by omega
  have i2 : ¬ (15 : Int) < (m : Int) := by omega
  have hmx : Tryz.prog.follows .mixedOrders = true := by kernel_rfl
  have hb0 : Below W1.heap.size W1.drew W1.drew := Below.refl _ _
  have mk : ∀ wx, Below W1.heap.size W1.drew wx → (wx.cell? ⟨w.heap.size, 0, none⟩ = some (.int .u8 m) ∧ wx.cell? ⟨w.heap.size, 1, none⟩ = some (S t) ∧ wx.cell? ⟨w.heap.size, 2, none⟩ = some (.slice nr ns.length nc) ∧ wx.cell? ⟨w.heap.size, 3, none⟩ = some (.slice kr ks.len kc) ∧ wx.cell? ⟨w.heap.size, 4, none⟩ = some (.int .u8 d.k) ∧ wx.cell? ⟨w.heap.size, 5, none⟩ = some (.int .i64 d.n) ∧ wx.cell? ⟨w.heap.size, 6, none⟩ = some (S d.t) ∧ wx.cell? ⟨w.heap.size, 7, none⟩ = some (.slice dr d.s.len dc) ∧ wx.cell? ⟨w.heap.size, 8, none⟩ = some (.bool d.d)) ∧ (wx.cell? ⟨1, m * 4, none⟩ = some (S (shpOf m).1) ∧ wx.cell? ⟨1, m * 4 + 1, none⟩ = some (.int .i64 (shpOf m).2.1) ∧ wx.cell? ⟨1, m * 4 + 1 + 1, none⟩ = some (.int .i64 (shpOf m).2.2.1) ∧ wx.cell? ⟨1, m * 4 + 1 + 1 + 1, none⟩ = some (.int .i64 (shpOf m).2.2.2)) := fun wx hb => ⟨keepZ (W := W1.drew) hb ⟨z0, z1, z2, z3, z4, z5, z6, z7, z8⟩, keepS (W := W1.drew) hb ⟨s0, s1, s2, s3⟩⟩
  clear a1 q0 hR hE hF
  -- calls VTXN
  have HV : Hid (∀ wx, Below W1.heap.size W1.drew wx → Calls Tryz.prog 33 #[frmV ⟨(m : Int), t, ns, ks, d⟩ (.slice nr ns.length nc) (.slice kr ks.len kc) (.slice dr d.s.len dc)] wx fun e w' => e = .returned (.int .i64 (valsN ⟨(m : Int), t, ns, ks, d⟩)) ∧ Below wx.heap.size wx w') := fun wx hb => valueCount_any ⟨(m : Int), t, ns, ks, d⟩ nr kr dr nc kc dc wx HF.out.nl
  have HT : Hid (∀ wx, Below W1.heap.size W1.drew wx → Calls Tryz.prog 64 #[shpV m, .int .i64 ((ks.len : Int) - (valsN ⟨(m : Int), t, ns, ks, d⟩ : Int))] wx fun e w' => e = .returned (.bool true) ∧ Below wx.heap.size wx w') := fun wx hb => by rw [← h1]; exact takes_any m _ wx
  have HX : Hid (∀ wx, Below W1.heap.size W1.drew wx → Calls Tryz.prog 31 #[.int .u8 m] wx fun e w' => e = .returned (.bool true) ∧ Below wx.heap.size wx w') := fun wx hb => by rw [← h3]; exact hasText_any m wx
  have HN : Hid (∀ wx, Below W1.heap.size W1.drew wx → Calls Tryz.prog 81 #[.int .u8 m] wx fun e w' => e = .returned (.bool false) ∧ Below wx.heap.size wx w') := fun wx hb => by rw [← h5]; exact hasNames_any m wx
  clear h1 h3 h5
  generalize ns.length = n4 at *
  have h4i : ((n4 : Int) == 0) = false := by simp; omega
  go_enter Tryz.func67, Tryz.ntmps67
  go_upto_region 1 with fail
  clear hW1
  go_wp2_with fail
  have hun : undef = .tuple #[] := rfl
  refine wp_region_noPanic ?_
  refine wp_region_held_drew (S := fun wx => (wx.cell? ⟨w.heap.size, 0, none⟩ = some (.int .u8 m) ∧ wx.cell? ⟨w.heap.size, 1, none⟩ = some (S t) ∧ wx.cell? ⟨w.heap.size, 2, none⟩ = some (.slice nr n4 nc) ∧ wx.cell? ⟨w.heap.size, 3, none⟩ = some (.slice kr ks.len kc) ∧ wx.cell? ⟨w.heap.size, 4, none⟩ = some (.int .u8 d.k) ∧ wx.cell? ⟨w.heap.size, 5, none⟩ = some (.int .i64 d.n) ∧ wx.cell? ⟨w.heap.size, 6, none⟩ = some (S d.t) ∧ wx.cell? ⟨w.heap.size, 7, none⟩ = some (.slice dr d.s.len dc) ∧ wx.cell? ⟨w.heap.size, 8, none⟩ = some (.bool d.d)) ∧ (wx.cell? ⟨1, m * 4, none⟩ = some (S (shpOf m).1) ∧ wx.cell? ⟨1, m * 4 + 1, none⟩ = some (.int .i64 (shpOf m).2.1) ∧ wx.cell? ⟨1, m * 4 + 1 + 1, none⟩ = some (.int .i64 (shpOf m).2.2.1) ∧ wx.cell? ⟨1, m * 4 + 1 + 1 + 1, none⟩ = some (.int .i64 (shpOf m).2.2.2))) hmx ?_ (fun hHeld => ?_)
  · exact mk _ hb0
  refine wpAnyH_take (i := 0) (oi := { dst := some 11, op := _, type := _, pos := _, after := _, guard := _ }) (v := ?v0) rfl (by kernel_rfl) (by kernel_rfl) (by kernel_rfl) (fun _ _ _ h => h) (Or.inl ⟨by rfl, ?hy0⟩) (by assumption) ?rest0
  case hy0 => (intro w hSw; (try dsimp only at hSw); go_simp; try with_reducible rfl)
  try simp only [Act.put, List.setIfInBounds_toArray, List.set_cons_zero, List.set_cons_succ]
  refine wpAnyH_take (i := 1) (oi := { dst := some 12, op := _, type := _, pos := _, after := _, guard := _ }) (v := ?v1) rfl (by kernel_rfl) (by kernel_rfl) (by kernel_rfl) (fun _ _ _ h => h) (Or.inl ⟨by rfl, ?hy1⟩) (by assumption) ?rest1
  case hy1 => (intro w hSw; (try dsimp only at hSw); go_simp; try with_reducible rfl)
  try simp only [Act.put, List.setIfInBounds_toArray, List.set_cons_zero, List.set_cons_succ]
  refine wpAnyH_take (i := 2) (oi := { dst := some 13, op := _, type := _, pos := _, after := _, guard := _ }) (v := ?v2) rfl (by kernel_rfl) (by kernel_rfl) (by kernel_rfl) (fun _ _ _ h => h) (Or.inl ⟨by rfl, ?hy2⟩) (by assumption) ?rest2
  case hy2 => (intro w hSw; (try dsimp only at hSw); go_simp; try with_reducible rfl)
  try simp only [Act.put, List.setIfInBounds_toArray, List.set_cons_zero, List.set_cons_succ]
  refine wpAnyH_take (i := 3) (oi := { dst := some 14, op := _, type := _, pos := _, after := _, guard := _ }) (v := ?v3) rfl (by kernel_rfl) (by kernel_rfl) (by kernel_rfl) (fun _ _ _ h => h) (Or.inl ⟨by rfl, ?hy3⟩) (by assumption) ?rest3
  case hy3 => (intro w hSw; (try dsimp only at hSw); go_simp; try with_reducible rfl)
  try simp only [Act.put, List.setIfInBounds_toArray, List.set_cons_zero, List.set_cons_succ]
  refine wpAnyH_take (i := 4) (oi := { dst := some 15, op := _, type := _, pos := _, after := _, guard := _ }) (v := ?v4) rfl (by kernel_rfl) (by kernel_rfl) (by kernel_rfl) (fun _ _ _ h => h) (Or.inl ⟨by rfl, ?hy4⟩) (by assumption) ?rest4
  case hy4 => (intro w hSw; (try dsimp only at hSw); go_simp; try with_reducible rfl)
  try simp only [Act.put, List.setIfInBounds_toArray, List.set_cons_zero, List.set_cons_succ]
  refine wpAnyH_take (i := 5) (oi := { dst := some 16, op := _, type := _, pos := _, after := _, guard := _ }) (v := ?v5) rfl (by kernel_rfl) (by kernel_rfl) (by kernel_rfl) (fun _ _ _ h => h) (Or.inl ⟨by rfl, ?hy5⟩) (by assumption) ?rest5
  case hy5 => (intro w hSw; (try dsimp only at hSw); go_simp; try with_reducible rfl)
  try simp only [Act.put, List.setIfInBounds_toArray, List.set_cons_zero, List.set_cons_succ]
  refine wpAnyH_take (i := 6) (oi := { dst := some 17, op := _, type := _, pos := _, after := _, guard := _ }) (v := ?v6) rfl (by kernel_rfl) (by kernel_rfl) (by kernel_rfl) (fun _ _ _ h => h) (Or.inl ⟨by rfl, ?hy6⟩) (by assumption) ?rest6
  case hy6 => (intro w hSw; (try dsimp only at hSw); go_simp; try with_reducible rfl)
  try simp only [Act.put, List.setIfInBounds_toArray, List.set_cons_zero, List.set_cons_succ]
  refine wpAnyH_take (i := 7) (oi := { dst := some 18, op := _, type := _, pos := _, after := _, guard := _ }) (v := ?v7) rfl (by kernel_rfl) (by kernel_rfl) (by kernel_rfl) (fun _ _ _ h => h) (Or.inl ⟨by rfl, ?hy7⟩) (by assumption) ?rest7
  case hy7 => (intro w hSw; (try dsimp only at hSw); go_simp; try with_reducible rfl)
  try simp only [Act.put, List.setIfInBounds_toArray, List.set_cons_zero, List.set_cons_succ]
  refine wpAnyH_ready (rs := [8]) (by kernel_rfl) (by simp) ?_
  refine AllReadyH.cons (o := { dst := some 19, op := _, type := _, pos := _, after := _, guard := _ }) rfl (fun K hK => ?_) AllReadyH.nil
  go_simp
  first | (go_at_call 33; refine (HV.out _ hb0).mono ?_; rintro e wV ⟨rfl, hxV⟩; have hbV : Below W1.heap.size W1.drew wV := hb0.trans (hxV.mono hb0.size); go_wp2_with fail) | (go_at_call 64; refine (HT.out _ hbV).mono ?_; rintro e wT ⟨rfl, hxT⟩; have hbT : Below W1.heap.size W1.drew wT := hbV.trans (hxT.mono hbV.size); go_wp2_with fail) | (go_at_call 31; refine (HX.out _ hbT).mono ?_; rintro e wX ⟨rfl, hxX⟩; have hbX : Below W1.heap.size W1.drew wX := hbT.trans (hxX.mono hbT.size); go_wp2_with fail) | (go_at_call 81; refine (HN.out _ hbX).mono ?_; rintro e wN ⟨rfl, hxN⟩; have hbN : Below W1.heap.size W1.drew wN := hbX.trans (hxN.mono hbX.size); go_wp2_with fail) | skip
  refine hK.out _ _ ?_ (fun hHeld => ?_)
  · (first | assumption | exact mk _ hbN | exact mk _ hbX | exact mk _ hbT | exact mk _ hbV | exact mk _ hb0)
  clear hK K
  try simp only [Act.put, List.setIfInBounds_toArray, List.set_cons_zero, List.set_cons_succ]
  refine wpAnyH_take (i := 9) (oi := { dst := some 20, op := _, type := _, pos := _, after := _, guard := _ }) (v := ?v9) rfl (by kernel_rfl) (by kernel_rfl) (by kernel_rfl) (fun _ _ _ h => h) (Or.inl ⟨by rfl, ?hy9⟩) (by assumption) ?rest9
  case hy9 => (intro w hSw; (try dsimp only at hSw); go_simp; try with_reducible rfl)
  try simp only [Act.put, List.setIfInBounds_toArray, List.set_cons_zero, List.set_cons_succ]
  refine wpAnyH_ready (rs := [10]) (by kernel_rfl) (by simp) ?_
  refine AllReadyH.cons (o := { dst := some 21, op := _, type := _, pos := _, after := _, guard := _ }) rfl (fun K hK => ?_) AllReadyH.nil
  go_simp
  first | (go_at_call 33; refine (HV.out _ hb0).mono ?_; rintro e wV ⟨rfl, hxV⟩; have hbV : Below W1.heap.size W1.drew wV := hb0.trans (hxV.mono hb0.size); go_wp2_with fail) | (go_at_call 64; refine (HT.out _ hbV).mono ?_; rintro e wT ⟨rfl, hxT⟩; have hbT : Below W1.heap.size W1.drew wT := hbV.trans (hxT.mono hbV.size); go_wp2_with fail) | (go_at_call 31; refine (HX.out _ hbT).mono ?_; rintro e wX ⟨rfl, hxX⟩; have hbX : Below W1.heap.size W1.drew wX := hbT.trans (hxX.mono hbT.size); go_wp2_with fail) | (go_at_call 81; refine (HN.out _ hbX).mono ?_; rintro e wN ⟨rfl, hxN⟩; have hbN : Below W1.heap.size W1.drew wN := hbX.trans (hxN.mono hbX.size); go_wp2_with fail) | skip
  refine hK.out _ _ ?_ (fun hHeld => ?_)
  · (first | assumption | exact mk _ hbN | exact mk _ hbX | exact mk _ hbT | exact mk _ hbV | exact mk _ hb0)
  clear hK K
  try simp only [Act.put, List.setIfInBounds_toArray, List.set_cons_zero, List.set_cons_succ]
  refine wpAnyH_take (i := 11) (oi := { dst := some 22, op := _, type := _, pos := _, after := _, guard := _ }) (v := ?v11) rfl (by kernel_rfl) (by kernel_rfl) (by kernel_rfl) (fun _ _ _ h => h) (Or.inl ⟨by rfl, ?hy11⟩) (by assumption) ?rest11
  case hy11 => (intro w hSw; (try dsimp only at hSw); go_simp; try with_reducible rfl)
  try simp only [Act.put, List.setIfInBounds_toArray, List.set_cons_zero, List.set_cons_succ]
  refine wpAnyH_take (i := 12) (oi := { dst := some 23, op := _, type := _, pos := _, after := _, guard := _ }) (v := ?v12) rfl (by kernel_rfl) (by kernel_rfl) (by kernel_rfl) (fun _ _ _ h => h) (Or.inl ⟨by rfl, ?hy12⟩) (by assumption) ?rest12
  case hy12 => (intro w hSw; (try dsimp only at hSw); go_simp; try with_reducible rfl)
  try simp only [Act.put, List.setIfInBounds_toArray, List.set_cons_zero, List.set_cons_succ]
  refine wpAnyH_take (i := 13) (oi := { dst := some 24, op := _, type := _, pos := _, after := _, guard := _ }) (v := ?v13) rfl (by kernel_rfl) (by kernel_rfl) (by kernel_rfl) (fun _ _ _ h => h) (Or.inl ⟨by rfl, ?hy13⟩) (by assumption) ?rest13
  case hy13 => (intro w hSw; (try dsimp only at hSw); go_simp; try with_reducible rfl)
  try simp only [Act.put, List.setIfInBounds_toArray, List.set_cons_zero, List.set_cons_succ]
  refine wpAnyH_take (i := 14) (oi := { dst := some 25, op := _, type := _, pos := _, after := _, guard := _ }) (v := ?v14) rfl (by kernel_rfl) (by kernel_rfl) (by kernel_rfl) (fun _ _ _ h => h) (Or.inl ⟨by rfl, ?hy14⟩) (by assumption) ?rest14
  case hy14 => (intro w hSw; (try dsimp only at hSw); go_simp; try with_reducible rfl)
  try simp only [Act.put, List.setIfInBounds_toArray, List.set_cons_zero, List.set_cons_succ]
  refine wpAnyH_take (i := 15) (oi := { dst := some 26, op := _, type := _, pos := _, after := _, guard := _ }) (v := ?v15) rfl (by kernel_rfl) (by kernel_rfl) (by kernel_rfl) (fun _ _ _ h => h) (Or.inl ⟨by rfl, ?hy15⟩) (by assumption) ?rest15
  case hy15 => (intro w hSw; (try dsimp only at hSw); go_simp; try with_reducible rfl)
  try simp only [Act.put, List.setIfInBounds_toArray, List.set_cons_zero, List.set_cons_succ]
  refine wpAnyH_take (i := 16) (oi := { dst := some 27, op := _, type := _, pos := _, after := _, guard := _ }) (v := ?v16) rfl (by kernel_rfl) (by kernel_rfl) (by kernel_rfl) (fun _ _ _ h => h) (Or.inl ⟨by rfl, ?hy16⟩) (by assumption) ?rest16
  case hy16 => (intro w hSw; (try dsimp only at hSw); go_simp; try with_reducible rfl)
  try simp only [Act.put, List.setIfInBounds_toArray, List.set_cons_zero, List.set_cons_succ]
  refine wpAnyH_take (i := 17) (oi := { dst := some 28, op := _, type := _, pos := _, after := _, guard := _ }) (v := ?v17) rfl (by kernel_rfl) (by kernel_rfl) (by kernel_rfl) (fun _ _ _ h => h) (Or.inl ⟨by rfl, ?hy17⟩) (by assumption) ?rest17
  case hy17 => (intro w hSw; (try dsimp only at hSw); go_simp; try with_reducible rfl)
  try simp only [Act.put, List.setIfInBounds_toArray, List.set_cons_zero, List.set_cons_succ]
  refine wpAnyH_ready (rs := [18]) (by kernel_rfl) (by simp) ?_
  refine AllReadyH.cons (o := { dst := some 29, op := _, type := _, pos := _, after := _, guard := _ }) rfl (fun K hK => ?_) AllReadyH.nil
  go_simp
  first | (go_at_call 33; refine (HV.out _ hb0).mono ?_; rintro e wV ⟨rfl, hxV⟩; have hbV : Below W1.heap.size W1.drew wV := hb0.trans (hxV.mono hb0.size); go_wp2_with fail) | (go_at_call 64; refine (HT.out _ hbV).mono ?_; rintro e wT ⟨rfl, hxT⟩; have hbT : Below W1.heap.size W1.drew wT := hbV.trans (hxT.mono hbV.size); go_wp2_with fail) | (go_at_call 31; refine (HX.out _ hbT).mono ?_; rintro e wX ⟨rfl, hxX⟩; have hbX : Below W1.heap.size W1.drew wX := hbT.trans (hxX.mono hbT.size); go_wp2_with fail) | (go_at_call 81; refine (HN.out _ hbX).mono ?_; rintro e wN ⟨rfl, hxN⟩; have hbN : Below W1.heap.size W1.drew wN := hbX.trans (hxN.mono hbX.size); go_wp2_with fail) | skip
  refine hK.out _ _ ?_ (fun hHeld => ?_)
  · (first | assumption | exact mk _ hbN | exact mk _ hbX | exact mk _ hbT | exact mk _ hbV | exact mk _ hb0)
  clear hK K
  try simp only [Act.put, List.setIfInBounds_toArray, List.set_cons_zero, List.set_cons_succ]
  refine wpAnyH_take (i := 19) (oi := { dst := some 30, op := _, type := _, pos := _, after := _, guard := _ }) (v := ?v19) rfl (by kernel_rfl) (by kernel_rfl) (by kernel_rfl) (fun _ _ _ h => h) (Or.inl ⟨by rfl, ?hy19⟩) (by assumption) ?rest19
  case hy19 => (intro w hSw; (try dsimp only at hSw); go_simp; try with_reducible rfl)
  try simp only [Act.put, List.setIfInBounds_toArray, List.set_cons_zero, List.set_cons_succ]
  refine wpAnyH_take (i := 20) (oi := { dst := some 31, op := _, type := _, pos := _, after := _, guard := _ }) (v := ?v20) rfl (by kernel_rfl) (by kernel_rfl) (by kernel_rfl) (fun _ _ _ h => h) (Or.inl ⟨by rfl, ?hy20⟩) (by assumption) ?rest20
  case hy20 => (intro w hSw; (try dsimp only at hSw); go_simp; try with_reducible rfl)
  try simp only [Act.put, List.setIfInBounds_toArray, List.set_cons_zero, List.set_cons_succ]
  refine wpAnyH_take (i := 21) (oi := { dst := some 32, op := _, type := _, pos := _, after := _, guard := _ }) (v := ?v21) rfl (by kernel_rfl) (by kernel_rfl) (by kernel_rfl) (fun _ _ _ h => h) (Or.inl ⟨by rfl, ?hy21⟩) (by assumption) ?rest21
  case hy21 => (intro w hSw; (try dsimp only at hSw); go_simp; try with_reducible rfl)
  try simp only [Act.put, List.setIfInBounds_toArray, List.set_cons_zero, List.set_cons_succ]
  refine wpAnyH_take (i := 22) (oi := { dst := some 33, op := _, type := _, pos := _, after := _, guard := _ }) (v := ?v22) rfl (by kernel_rfl) (by kernel_rfl) (by kernel_rfl) (fun _ _ _ h => h) (Or.inl ⟨by rfl, ?hy22⟩) (by assumption) ?rest22
  case hy22 => (intro w hSw; (try dsimp only at hSw); go_simp; try with_reducible rfl)
  try simp only [Act.put, List.setIfInBounds_toArray, List.set_cons_zero, List.set_cons_succ]
  refine wpAnyH_take (i := 23) (oi := { dst := some 34, op := _, type := _, pos := _, after := _, guard := _ }) (v := ?v23) rfl (by kernel_rfl) (by kernel_rfl) (by kernel_rfl) (fun _ _ _ h => h) (Or.inl ⟨by rfl, ?hy23⟩) (by assumption) ?rest23
  case hy23 => (intro w hSw; (try dsimp only at hSw); go_simp; try with_reducible rfl)
  try simp only [Act.put, List.setIfInBounds_toArray, List.set_cons_zero, List.set_cons_succ]
  refine wpAnyH_take (i := 24) (oi := { dst := some 35, op := _, type := _, pos := _, after := _, guard := _ }) (v := ?v24) rfl (by kernel_rfl) (by kernel_rfl) (by kernel_rfl) (fun _ _ _ h => h) (Or.inl ⟨by rfl, ?hy24⟩) (by assumption) ?rest24
  case hy24 => (intro w hSw; (try dsimp only at hSw); go_simp; try with_reducible rfl)
  try simp only [Act.put, List.setIfInBounds_toArray, List.set_cons_zero, List.set_cons_succ]
  refine wpAnyH_take (i := 25) (oi := { dst := some 36, op := _, type := _, pos := _, after := _, guard := _ }) (v := ?v25) rfl (by kernel_rfl) (by kernel_rfl) (by kernel_rfl) (fun _ _ _ h => h) (Or.inl ⟨by rfl, ?hy25⟩) (by assumption) ?rest25
  case hy25 => (intro w hSw; (try dsimp only at hSw); go_simp; try with_reducible rfl)
  try simp only [Act.put, List.setIfInBounds_toArray, List.set_cons_zero, List.set_cons_succ]
  refine wpAnyH_take (i := 26) (oi := { dst := some 37, op := _, type := _, pos := _, after := _, guard := _ }) (v := ?v26) rfl (by kernel_rfl) (by kernel_rfl) (by kernel_rfl) (fun _ _ _ h => h) (Or.inl ⟨by rfl, ?hy26⟩) (by assumption) ?rest26
  case hy26 => (intro w hSw; (try dsimp only at hSw); go_simp; try with_reducible rfl)
  try simp only [Act.put, List.setIfInBounds_toArray, List.set_cons_zero, List.set_cons_succ]
  refine wpAnyH_take (i := 27) (oi := { dst := some 38, op := _, type := _, pos := _, after := _, guard := _ }) (v := ?v27) rfl (by kernel_rfl) (by kernel_rfl) (by kernel_rfl) (fun _ _ _ h => h) (Or.inl ⟨by rfl, ?hy27⟩) (by assumption) ?rest27
  case hy27 => (intro w hSw; (try dsimp only at hSw); go_simp; try with_reducible rfl)
  try simp only [Act.put, List.setIfInBounds_toArray, List.set_cons_zero, List.set_cons_succ]
  refine wpAnyH_take (i := 28) (oi := { dst := some 39, op := _, type := _, pos := _, after := _, guard := _ }) (v := ?v28) rfl (by kernel_rfl) (by kernel_rfl) (by kernel_rfl) (fun _ _ _ h => h) (Or.inl ⟨by rfl, ?hy28⟩) (by assumption) ?rest28
  case hy28 => (intro w hSw; (try dsimp only at hSw); go_simp; try with_reducible rfl)
  try simp only [Act.put, List.setIfInBounds_toArray, List.set_cons_zero, List.set_cons_succ]
  refine wpAnyH_ready (rs := [29]) (by kernel_rfl) (by simp) ?_
  refine AllReadyH.cons (o := { dst := some 40, op := _, type := _, pos := _, after := _, guard := _ }) rfl (fun K hK => ?_) AllReadyH.nil
  go_simp
  first | (go_at_call 33; refine (HV.out _ hb0).mono ?_; rintro e wV ⟨rfl, hxV⟩; have hbV : Below W1.heap.size W1.drew wV := hb0.trans (hxV.mono hb0.size); go_wp2_with fail) | (go_at_call 64; refine (HT.out _ hbV).mono ?_; rintro e wT ⟨rfl, hxT⟩; have hbT : Below W1.heap.size W1.drew wT := hbV.trans (hxT.mono hbV.size); go_wp2_with fail) | (go_at_call 31; refine (HX.out _ hbT).mono ?_; rintro e wX ⟨rfl, hxX⟩; have hbX : Below W1.heap.size W1.drew wX := hbT.trans (hxX.mono hbT.size); go_wp2_with fail) | (go_at_call 81; refine (HN.out _ hbX).mono ?_; rintro e wN ⟨rfl, hxN⟩; have hbN : Below W1.heap.size W1.drew wN := hbX.trans (hxN.mono hbX.size); go_wp2_with fail) | skip
  refine hK.out _ _ ?_ (fun hHeld => ?_)
  · (first | assumption | exact mk _ hbN | exact mk _ hbX | exact mk _ hbT | exact mk _ hbV | exact mk _ hb0)
  clear hK K
  try simp only [Act.put, List.setIfInBounds_toArray, List.set_cons_zero, List.set_cons_succ]
  refine wpAnyH_take (i := 30) (oi := { dst := some 41, op := _, type := _, pos := _, after := _, guard := _ }) (v := ?v30) rfl (by kernel_rfl) (by kernel_rfl) (by kernel_rfl) (fun _ _ _ h => h) (Or.inl ⟨by rfl, ?hy30⟩) (by assumption) ?rest30
  case hy30 => (intro w hSw; (try dsimp only at hSw); go_simp; try with_reducible rfl)
  try simp only [Act.put, List.setIfInBounds_toArray, List.set_cons_zero, List.set_cons_succ]
  refine wpAnyH_take (i := 31) (oi := { dst := some 42, op := _, type := _, pos := _, after := _, guard := _ }) (v := ?v31) rfl (by kernel_rfl) (by kernel_rfl) (by kernel_rfl) (fun _ _ _ h => h) (Or.inl ⟨by rfl, ?hy31⟩) (by assumption) ?rest31
  case hy31 => (intro w hSw; (try dsimp only at hSw); go_simp; try with_reducible rfl)
  try simp only [Act.put, List.setIfInBounds_toArray, List.set_cons_zero, List.set_cons_succ]
  refine wpAnyH_take (i := 32) (oi := { dst := some 43, op := _, type := _, pos := _, after := _, guard := _ }) (v := ?v32) rfl (by kernel_rfl) (by kernel_rfl) (by kernel_rfl) (fun _ _ _ h => h) (Or.inl ⟨by rfl, ?hy32⟩) (by assumption) ?rest32
  case hy32 => (intro w hSw; (try dsimp only at hSw); go_simp; try with_reducible rfl)
  try simp only [Act.put, List.setIfInBounds_toArray, List.set_cons_zero, List.set_cons_succ]
  refine wpAnyH_ready (rs := [33]) (by kernel_rfl) (by simp) ?_
  refine AllReadyH.cons (o := { dst := some 44, op := _, type := _, pos := _, after := _, guard := _ }) rfl (fun K hK => ?_) AllReadyH.nil
  go_simp
  first | (go_at_call 33; refine (HV.out _ hb0).mono ?_; rintro e wV ⟨rfl, hxV⟩; have hbV : Below W1.heap.size W1.drew wV := hb0.trans (hxV.mono hb0.size); go_wp2_with fail) | (go_at_call 64; refine (HT.out _ hbV).mono ?_; rintro e wT ⟨rfl, hxT⟩; have hbT : Below W1.heap.size W1.drew wT := hbV.trans (hxT.mono hbV.size); go_wp2_with fail) | (go_at_call 31; refine (HX.out _ hbT).mono ?_; rintro e wX ⟨rfl, hxX⟩; have hbX : Below W1.heap.size W1.drew wX := hbT.trans (hxX.mono hbT.size); go_wp2_with fail) | (go_at_call 81; refine (HN.out _ hbX).mono ?_; rintro e wN ⟨rfl, hxN⟩; have hbN : Below W1.heap.size W1.drew wN := hbX.trans (hxN.mono hbX.size); go_wp2_with fail) | skip
  refine hK.out _ _ ?_ (fun hHeld => ?_)
  · (first | assumption | exact mk _ hbN | exact mk _ hbX | exact mk _ hbT | exact mk _ hbV | exact mk _ hb0)
  clear hK K
  try simp only [Act.put, List.setIfInBounds_toArray, List.set_cons_zero, List.set_cons_succ]
  refine wpAnyH_ready (rs := [34]) (by kernel_rfl) (by simp) ?_
  refine AllReadyH.cons (o := { dst := some 45, op := _, type := _, pos := _, after := _, guard := _ }) rfl (fun K hK => ?_) AllReadyH.nil
  go_simp
  first | (go_at_call 33; refine (HV.out _ hb0).mono ?_; rintro e wV ⟨rfl, hxV⟩; have hbV : Below W1.heap.size W1.drew wV := hb0.trans (hxV.mono hb0.size); go_wp2_with fail) | (go_at_call 64; refine (HT.out _ hbV).mono ?_; rintro e wT ⟨rfl, hxT⟩; have hbT : Below W1.heap.size W1.drew wT := hbV.trans (hxT.mono hbV.size); go_wp2_with fail) | (go_at_call 31; refine (HX.out _ hbT).mono ?_; rintro e wX ⟨rfl, hxX⟩; have hbX : Below W1.heap.size W1.drew wX := hbT.trans (hxX.mono hbT.size); go_wp2_with fail) | (go_at_call 81; refine (HN.out _ hbX).mono ?_; rintro e wN ⟨rfl, hxN⟩; have hbN : Below W1.heap.size W1.drew wN := hbX.trans (hxN.mono hbX.size); go_wp2_with fail) | skip
  refine hK.out _ _ ?_ (fun hHeld => ?_)
  · (first | assumption | exact mk _ hbN | exact mk _ hbX | exact mk _ hbT | exact mk _ hbV | exact mk _ hb0)
  clear hK K
  try simp only [Act.put, List.setIfInBounds_toArray, List.set_cons_zero, List.set_cons_succ]
  refine wpAnyH_take (i := 35) (oi := { dst := some 46, op := _, type := _, pos := _, after := _, guard := _ }) (v := ?v35) rfl (by kernel_rfl) (by kernel_rfl) (by kernel_rfl) (fun _ _ _ h => h) (Or.inl ⟨by rfl, ?hy35⟩) (by assumption) ?rest35
  case hy35 => (intro w hSw; (try dsimp only at hSw); go_simp; try with_reducible rfl)
  try simp only [Act.put, List.setIfInBounds_toArray, List.set_cons_zero, List.set_cons_succ]
  refine wpAnyH_take (i := 36) (oi := { dst := some 47, op := _, type := _, pos := _, after := _, guard := _ }) (v := ?v36) rfl (by kernel_rfl) (by kernel_rfl) (by kernel_rfl) (fun _ _ _ h => h) (Or.inl ⟨by rfl, ?hy36⟩) (by assumption) ?rest36
  case hy36 => (intro w hSw; (try dsimp only at hSw); go_simp; try with_reducible rfl)
  try simp only [Act.put, List.setIfInBounds_toArray, List.set_cons_zero, List.set_cons_succ]
  refine wpAnyH_ready (rs := [37]) (by kernel_rfl) (by simp) ?_
  refine AllReadyH.cons (o := { dst := some 48, op := _, type := _, pos := _, after := _, guard := _ }) rfl (fun K hK => ?_) AllReadyH.nil
  go_simp
  first | (go_at_call 33; refine (HV.out _ hb0).mono ?_; rintro e wV ⟨rfl, hxV⟩; have hbV : Below W1.heap.size W1.drew wV := hb0.trans (hxV.mono hb0.size); go_wp2_with fail) | (go_at_call 64; refine (HT.out _ hbV).mono ?_; rintro e wT ⟨rfl, hxT⟩; have hbT : Below W1.heap.size W1.drew wT := hbV.trans (hxT.mono hbV.size); go_wp2_with fail) | (go_at_call 31; refine (HX.out _ hbT).mono ?_; rintro e wX ⟨rfl, hxX⟩; have hbX : Below W1.heap.size W1.drew wX := hbT.trans (hxX.mono hbT.size); go_wp2_with fail) | (go_at_call 81; refine (HN.out _ hbX).mono ?_; rintro e wN ⟨rfl, hxN⟩; have hbN : Below W1.heap.size W1.drew wN := hbX.trans (hxN.mono hbX.size); go_wp2_with fail) | skip
  refine hK.out _ _ ?_ (fun hHeld => ?_)
  · (first | assumption | exact mk _ hbN | exact mk _ hbX | exact mk _ hbT | exact mk _ hbV | exact mk _ hb0)
  clear hK K
  try simp only [Act.put, List.setIfInBounds_toArray, List.set_cons_zero, List.set_cons_succ]
  refine wpAnyH_ready (rs := [38]) (by kernel_rfl) (by simp) ?_
  refine AllReadyH.cons (o := { dst := some 49, op := _, type := _, pos := _, after := _, guard := _ }) rfl (fun K hK => ?_) AllReadyH.nil
  go_simp
  first | (go_at_call 33; refine (HV.out _ hb0).mono ?_; rintro e wV ⟨rfl, hxV⟩; have hbV : Below W1.heap.size W1.drew wV := hb0.trans (hxV.mono hb0.size); go_wp2_with fail) | (go_at_call 64; refine (HT.out _ hbV).mono ?_; rintro e wT ⟨rfl, hxT⟩; have hbT : Below W1.heap.size W1.drew wT := hbV.trans (hxT.mono hbV.size); go_wp2_with fail) | (go_at_call 31; refine (HX.out _ hbT).mono ?_; rintro e wX ⟨rfl, hxX⟩; have hbX : Below W1.heap.size W1.drew wX := hbT.trans (hxX.mono hbT.size); go_wp2_with fail) | (go_at_call 81; refine (HN.out _ hbX).mono ?_; rintro e wN ⟨rfl, hxN⟩; have hbN : Below W1.heap.size W1.drew wN := hbX.trans (hxN.mono hbX.size); go_wp2_with fail) | skip
  refine hK.out _ _ ?_ (fun hHeld => ?_)
  · (first | assumption | exact mk _ hbN | exact mk _ hbX | exact mk _ hbT | exact mk _ hbV | exact mk _ hb0)
  clear hK K
  try simp only [Act.put, List.setIfInBounds_toArray, List.set_cons_zero, List.set_cons_succ]
  refine wpAnyH_take (i := 39) (oi := { dst := some 50, op := _, type := _, pos := _, after := _, guard := _ }) (v := ?v39) rfl (by kernel_rfl) (by kernel_rfl) (by kernel_rfl) (fun _ _ _ h => h) (Or.inl ⟨by rfl, ?hy39⟩) (by assumption) ?rest39
  case hy39 => (intro w hSw; (try dsimp only at hSw); go_simp; try with_reducible rfl)
  try simp only [Act.put, List.setIfInBounds_toArray, List.set_cons_zero, List.set_cons_succ]
  refine wpAnyH_take (i := 40) (oi := { dst := some 2, op := _, type := _, pos := _, after := _, guard := _ }) (v := ?v40) rfl (by kernel_rfl) (by kernel_rfl) (by kernel_rfl) (fun _ _ _ h => h) (Or.inl ⟨by rfl, ?hy40⟩) (by assumption) ?rest40
  case hy40 => (intro w hSw; (try dsimp only at hSw); go_simp; try with_reducible rfl)
  try simp only [Act.put, List.setIfInBounds_toArray, List.set_cons_zero, List.set_cons_succ]
  refine wpAnyH_done (by kernel_rfl) ?_ _
  refine NoPanic.normal ?_
  clear hun
  go_wp2
  go_ret
  exact ⟨rfl, HB1.out.trans (((Below.refl _ W1).drew.trans hbN).mono HB1.out.size)⟩
end Go.Proofs.YtkgnigloboajcabGreatDoor
