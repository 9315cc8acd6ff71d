/- FormsWithin, the third of five. -/
import Derived.Test.YtkgnigloboajcaaGreatDoorHPm
namespace Go.Proofs.YtkgnigloboajcaaGreatDoor
open Go.RowKit

set_option maxRecDepth 100000 in
set_option maxHeartbeats 16000000 in
theorem within2_walk (x : Dt) (rk : Option Addr) (ck : Nat) (hw : Int) (w : World) (h0 : 0 ≤ hw) (h5 : hw % 5 = 2) (hR : RS w rk x.s) (hm : x.s.len ≤ maxLen) (ht : x.t.length ≤ 281474976710656) (hs : x.s.sl) (hE : Env w) :
    Calls Tryz.prog 8 #[datV x (.slice rk x.s.len ck), .int .u8 hw] w fun e w' => e = .returned (.bool true) ∧ Below w.heap.size w w' := by
  obtain ⟨W1, hW1⟩ : ∃ W1, w.alloc (boxD x (.slice rk x.s.len ck)) = W1 := ⟨_, rfl⟩
  have a1 := (Below.refl _ w).alloc (Nat.le_refl w.heap.size) (boxD x (.slice rk x.s.len ck))
  have q0 := World.alloc_heap_new w (boxD x (.slice rk x.s.len ck))
  rw [hW1] at a1 q0
  have HOf : Hid (Calls Tryz.prog 12 #[datV x (.slice rk x.s.len ck)] W1 fun e w' => (∃ v : Nat, e = .returned (.int .i64 v) ∧ v ≤ 5000000000000 + 281474976710657 ∧ (v ≤ 2147483647 → v = x.am)) ∧ Below W1.heap.size W1 w') := ofDatum_any x rk ck W1 (hR.below a1) hm ht hs
  have HB1 : Hid (Below w.heap.size w W1) := a1
  have HQ1 : Hid _ := q0
  have HR : Hid (RS w rk x.s) := hR
  have HE : Hid (Env w) := hE
  have HMx : Hid (x.s.len ≤ maxLen) := hm
  clear hR hm ht hs hE a1 q0
  obtain ⟨c0, c1, c2, c3, c4, _⟩ := cells5 HQ1.out
  go_enter Tryz.func8, Tryz.ntmps8
  go_upto_region 1 with fail
  clear hW1
  go_wp2_with fail
  refine HOf.out.mono ?_
  rintro e w2 ⟨⟨v, rfl, hv1, hv2⟩, hb2⟩
  have HB2 : Hid (Below w.heap.size w w2) := HB1.out.trans (hb2.mono HB1.out.size)
  have HQ2 : Hid _ := (hb2.block _ (Array.getElem?_eq_some_iff.1 HQ1.out).1).trans HQ1.out
  have HV : Hid (v ≤ 2147483647 → v = x.am) := hv2
  clear hb2 hv2 c0 c1 c2 c3 c4 HOf
  by_cases hbig : 200000 < v
  · have hbig' : (200000 : Int) < (v : Int) := by omega
    go_wp2
    go_ret
    exact ⟨rfl, HB2.out⟩
  have hbig' : ¬ (200000 : Int) < (v : Int) := by omega
  have HA : Hid (x.am ≤ 200000) := by have := HV.out (by omega); show x.am ≤ 200000; omega
  have HX : Hid (DOk x) := Dt.am_ok HA.out (by omega)
  have HXs : Hid (x.s.size ≤ 200000) := by have := HA.out; have h1 : x.am = 1 + x.t.length + x.s.am := rfl; have := Fo.am_size x.s; show x.s.size ≤ 200000; omega
  go_wp2_with fail
  refine (known_any w2 (HE.out.below HB2.out)).mono ?_
  rintro e w3 ⟨rfl, hb3⟩
  have HB3 : Hid (Below w.heap.size w w3) := HB2.out.trans (hb3.mono HB2.out.size)
  have HQ3 : Hid _ := (hb3.block _ (Array.getElem?_eq_some_iff.1 HQ2.out).1).trans HQ2.out
  clear hb3 hv1 hbig hbig'
  go_upto_region 8 with fail
  obtain ⟨W8, hW8⟩ : ∃ W, (w3.alloc (.cells #[.int .u8 1, .int .i64 1, .string ⟨#[]⟩, .slice none 0 0, .bool false] 32)).alloc Z5 = W := ⟨_, rfl⟩
  have a7 := (Below.refl _ w3).alloc (Nat.le_refl w3.heap.size) (.cells #[.int .u8 1, .int .i64 1, .string ⟨#[]⟩, .slice none 0 0, .bool false] 32)
  have q6 := World.alloc_heap_new w3 (.cells #[.int .u8 1, .int .i64 1, .string ⟨#[]⟩, .slice none 0 0, .bool false] 32)
  have q7 := World.alloc_heap_new (w3.alloc (.cells #[.int .u8 1, .int .i64 1, .string ⟨#[]⟩, .slice none 0 0, .bool false] 32)) Z5
  have q6' := al_at (x := Z5) q6
  have a8 := a7.alloc a7.size Z5
  rw [World.size_alloc] at q7
  rw [hW8] at q7 q6' a8 ⊢
  have HB8 : Hid (Below w.heap.size w W8) := HB3.out.trans (a8.mono HB3.out.size)
  obtain ⟨bq, hbq⟩ : ∃ b, w.heap.size = b := ⟨_, rfl⟩
  obtain ⟨b6, hb6⟩ : ∃ b, w3.heap.size = b := ⟨_, rfl⟩
  have hqq : W8.heap[w.heap.size]? = some (boxD x (.slice rk x.s.len ck)) := cy0 HQ3.out a8
  have hlq : w.heap.size < w3.heap.size := (Array.getElem?_eq_some_iff.1 HQ3.out).1
  rw [hbq] at hqq hlq ⊢
  rw [hb6] at q7 q6' hlq ⊢
  have HQ8 : Hid (W8.heap[bq]? = some (.cells #[.int .u8 x.k, .int .i64 x.n, S x.t, .slice rk x.s.len ck, .bool x.d] 32 (0, 0))) := hqq
  have HQ6 : Hid (W8.heap[b6]? = some (.cells #[.int .u8 1, .int .i64 1, .string ⟨#[]⟩, .slice none 0 0, .bool false] 32 (0, 0))) := q6'
  have HZ7 : Hid (W8.heap[b6 + 1]? = some Z5) := q7
  have HLq : Hid (bq < b6) := hlq
  have HBq : Hid (w.heap.size = bq) := hbq
  clear a7 q6 q7 q6' a8 hqq hbq hb6 hW8
  obtain ⟨c0, c1, c2, c3, c4, _⟩ := cells5 HQ8.out
  obtain ⟨y0, y1, y2, y3, y4, _⟩ := cells5 HQ6.out
  have l7 : b6 + 1 < W8.heap.size := cell_lt (cells5 HZ7.out).1
  have hmx : Tryz.prog.follows .mixedOrders = true := by kernel_rfl
  have hn6 : b6 ≠ b6 + 1 := by omega
  have hnq : bq ≠ b6 + 1 := by omega
  go_upto_region 15 with fail
  first
  | go_region_held3 (fun wx => (wx.cell? ⟨b6, 0, none⟩ = some (.int .u8 1) ∧ wx.cell? ⟨b6, 1, none⟩ = some (.int .i64 1) ∧ wx.cell? ⟨b6, 2, none⟩ = some (.string ⟨#[]⟩) ∧ wx.cell? ⟨b6, 3, none⟩ = some (.slice none 0 0) ∧ wx.cell? ⟨b6, 4, none⟩ = some (.bool false)) ∧ (wx.cell? ⟨bq, 0, none⟩ = some (.int .u8 x.k) ∧ wx.cell? ⟨bq, 1, none⟩ = some (.int .i64 x.n) ∧ wx.cell? ⟨bq, 2, none⟩ = some (S x.t) ∧ wx.cell? ⟨bq, 3, none⟩ = some (.slice rk x.s.len ck) ∧ wx.cell? ⟨bq, 4, none⟩ = some (.bool x.d))) (first | (with_reducible refine keepFF hn6 hnq ?_; first | assumption | (go_keep; done)) | (with_reducible refine keepDD hx5 ?_; first | assumption | (go_keep; done)) | (with_reducible refine keepDD hx4 ?_; first | assumption | (go_keep; done)) | (with_reducible refine keepDD hx3 ?_; first | assumption | (go_keep; done)) | (with_reducible refine keepDD hx2 ?_; first | assumption | (go_keep; done)) | (with_reducible refine keepDD hx1 ?_; first | assumption | (go_keep; done)) | (go_keep; done))
      (first
        | (have _t := hB4; go_at_call 40; refine (llist_any (some ⟨u4.heap.size, 0, none⟩) 3 3 _).mono ?_; rintro e u5 ⟨rfl, hx5⟩; have hz5 := cy1 hz4 hx5; have hB5 := ex1 hB4 hB4.size hx5; have q3_5 := cy1 q3_4 hx5; have q4_5 := cy1 q4_4 hx5; have q5_5 := nw1 hx5; obtain ⟨x0, x1, x2, x3, x4, xf⟩ := cells5 hz5; have k0 := xf 0; have k1 := xf 1; have k2 := xf 2; have k3 := xf 3; have k4 := xf 4; clear xf)
        | (have _t := hB3; go_at_call 40; refine (llist_any (some ⟨u3.heap.size, 0, none⟩) 1 1 _).mono ?_; rintro e u4 ⟨rfl, hx4⟩; have hz4 := cy1 hz3 hx4; have hB4 := ex1 hB3 hB3.size hx4; have q3_4 := cy1 q3_3 hx4; have q4_4 := nw1 hx4)
        | (have _t := hB2; go_at_call 40; refine (llist_any (some ⟨u2.heap.size, 0, none⟩) 2 2 _).mono ?_; rintro e u3 ⟨rfl, hx3⟩; have hz3 := cy1 hz2 hx3; have hB3 := ex1 hB2 hB2.size hx3; have q3_3 := nw1 hx3)
        | (have _t := hB1; go_at_call 41; refine (lsym_any [120] _).mono ?_; rintro e u2 ⟨rfl, hx2⟩; have hz2 := cy0 hz1 hx2; have hB2 := ex0 hB1 hB1.size hx2)
        | (go_at_call 41; refine (lsym_any [108, 101, 116] _).mono ?_; rintro e u1 ⟨rfl, hx1⟩; have hz1 : u1.heap[b6 + 1]? = some Z5 := (hx1.block (b6 + 1) l7).trans HZ7.out; have hB1 : Below W8.heap.size W8 u1 := (Below.refl W8.heap.size W8).drew.trans hx1))
  | fail
  have hC6 : w.heap.size ≤ b6 + 1 := by have := HBq.out; omega
  obtain ⟨hn5, ho5, hb5⟩ := five_all hz5 hC6 (.int .u8 5) (.int .i64 0) (.string ⟨#[]⟩) (.slice (some ⟨u4.heap.size, 0, none⟩) 3 3) (.bool false)
  have HBf : Hid (Below w.heap.size w (five (b6 + 1) u5 (.int .u8 5) (.int .i64 0) (.string ⟨#[]⟩) (.slice (some ⟨u4.heap.size, 0, none⟩) 3 3) (.bool false))) := (HB8.out.trans (hB5.mono HB8.out.size)).trans hb5
  have HQf : Hid ((five (b6 + 1) u5 (.int .u8 5) (.int .i64 0) (.string ⟨#[]⟩) (.slice (some ⟨u4.heap.size, 0, none⟩) 3 3) (.bool false)).heap[bq]? = some (.cells #[.int .u8 x.k, .int .i64 x.n, S x.t, .slice rk x.s.len ck, .bool x.d] 32 (0, 0))) := (ho5 bq hnq).trans ((hB5.block bq (by omega)).trans HQ8.out)
  have HRx : Hid (RS (five (b6 + 1) u5 (.int .u8 5) (.int .i64 0) (.string ⟨#[]⟩) (.slice (some ⟨u4.heap.size, 0, none⟩) 3 3) (.bool false)) rk x.s) := HR.out.below HBf.out
  have hq3 := (ho5 _ (ge_ne hB2 l7 rfl)).trans q3_5
  have hq4 := (ho5 _ (ge_ne hB3 l7 rfl)).trans q4_5
  have hq5 := (ho5 _ (ge_ne hB4 l7 rfl)).trans q5_5
  have HRX : Hid (RS (five (b6 + 1) u5 (.int .u8 5) (.int .i64 0) (.string ⟨#[]⟩) (.slice (some ⟨u4.heap.size, 0, none⟩) 3 3) (.bool false)) (some ⟨u4.heap.size, 0, none⟩) (wx2 x).s) := rs_w2 hq3 hq4 hq5 HRx.out HMx.out
  have HKX : Hid ((five (b6 + 1) u5 (.int .u8 5) (.int .i64 0) (.string ⟨#[]⟩) (.slice (some ⟨u4.heap.size, 0, none⟩) 3 3) (.bool false)).heap[b6 + 1]? = some (.cells #[.int .u8 (wx2 x).k, .int .i64 (wx2 x).n, S (wx2 x).t, .slice (some ⟨u4.heap.size, 0, none⟩) (wx2 x).s.len 3, .bool (wx2 x).d] 32 (0, 0))) := hn5
  unfold five at hn5 ho5 hb5 HBf HQf HRx HRX HKX
  clear hn5 ho5 hb5 hq3 hq4 hq5
  generalize (World.setCell (World.setCell (World.setCell (World.setCell (World.setCell u5 ⟨b6 + 1, 0, none⟩ (.int .u8 5)) ⟨b6 + 1, 1, none⟩ (.int .i64 0)) ⟨b6 + 1, 2, none⟩ (.string ⟨#[]⟩)) ⟨b6 + 1, 3, none⟩ (.slice (some ⟨u4.heap.size, 0, none⟩) 3 3)) ⟨b6 + 1, 4, none⟩ (.bool false)) = Wf at *
  generalize u4.heap.size = gX at *
  obtain ⟨X, hX⟩ : ∃ X, wx2 x = X := ⟨_, rfl⟩
  have HXi : Hid (wxs 2 x = X) := by show _ = _; rw [← hX]; rfl
  rw [hX] at HRX HKX
  clear hX c0 c1 c2 c3 c4 y0 y1 y2 y3 y4
  have HDX : Hid (DOk X) := by rw [← HXi.out]; exact wxs_dok HX.out HXs.out 2
  go_upto_region 23 with fail
  obtain ⟨Wg, hWg⟩ : ∃ W, Wf.alloc (.cells #[.int .i64 1, .int .i64 0, .int .i64 1] 3) = W := ⟨_, rfl⟩
  have a12 := (Below.refl _ Wf).alloc (Nat.le_refl Wf.heap.size) (.cells #[.int .i64 1, .int .i64 0, .int .i64 1] 3)
  have o12 : (Wf.alloc (.cells #[.int .i64 1, .int .i64 0, .int .i64 1] 3)).ownsRow Wf.heap.size 3 1 (.slice (some ⟨Wf.heap.size, 0, none⟩) 3 3) 3 (([1, 0, 1] : List Int).map (.int .i64 ·)) := World.ownsRow_lit Wf #[.int .i64 1, .int .i64 0, .int .i64 1] 3 (Nat.le_refl _) (by unfold maxLen; omega) rfl
  rw [hWg] at a12 o12 ⊢
  have HBg : Hid (Below w.heap.size w Wg) := HBf.out.trans (a12.mono HBf.out.size)
  have HQg : Hid _ := cy0 HQf.out a12
  have HKg : Hid _ := cy0 HKX.out a12
  have HRXg : Hid (RS Wg (some ⟨gX, 0, none⟩) X.s) := HRX.out.below a12
  obtain ⟨bm, hbm⟩ : ∃ b, Wf.heap.size = b := ⟨_, rfl⟩
  rw [hbm] at o12 ⊢
  have HBm : Hid (w.heap.size ≤ bm ∧ bq < bm) := ⟨by rw [← hbm]; exact HBf.out.size, by rw [← hbm]; exact (Array.getElem?_eq_some_iff.1 HQf.out).1⟩
  have HMo : Hid (Wg.ownsRow bm 3 1 (.slice (some ⟨bm, 0, none⟩) 3 3) 3 (([1, 0, 1] : List Int).map (.int .i64 ·))) := o12
  clear a12 o12 hWg hbm HBf HQf HKX HRX HRx
  obtain ⟨y0, y1, y2, y3, y4, _⟩ := cells5 HKg.out
  obtain ⟨w13, hw13⟩ : ∃ W, Wg.alloc (.cells #[.int .u8 X.k, .int .i64 X.n, S X.t, .slice (some ⟨gX, 0, none⟩) X.s.len 3, .bool X.d] 32) = W := ⟨_, rfl⟩
  have a13 := (Below.refl _ Wg).alloc (Nat.le_refl Wg.heap.size) (.cells #[.int .u8 X.k, .int .i64 X.n, S X.t, .slice (some ⟨gX, 0, none⟩) X.s.len 3, .bool X.d] 32)
  have HB13 : Hid (Below w.heap.size w (Wg.alloc (.cells #[.int .u8 X.k, .int .i64 X.n, S X.t, .slice (some ⟨gX, 0, none⟩) X.s.len 3, .bool X.d] 32))) := HBg.out.trans (a13.mono HBg.out.size)
  obtain ⟨tx, htx⟩ : ∃ tx, (writeOf (X.fo .nil)).1 = tx := ⟨_, rfl⟩
  obtain ⟨wi, hwi⟩ : ∃ wi, (writeOf (X.fo .nil)).2 = wi := ⟨_, rfl⟩
  have HWI : Hid (wi = 0 → canB X = true) := fun h => by unfold canB; rw [hwi, h]; rfl
  have HCW : Hid (Calls Tryz.prog 37 #[.slice (some ⟨Wg.heap.size, 0, none⟩) 1 1] (Wg.alloc (.cells #[.int .u8 X.k, .int .i64 X.n, S X.t, .slice (some ⟨gX, 0, none⟩) X.s.len 3, .bool X.d] 32)) fun e w' => e = .returned (.tuple #[.string ⟨tx.toArray⟩, .int .i64 wi]) ∧ Below (Wg.alloc (.cells #[.int .u8 X.k, .int .i64 X.n, S X.t, .slice (some ⟨gX, 0, none⟩) X.s.len 3, .bool X.d] 32)).heap.size (Wg.alloc (.cells #[.int .u8 X.k, .int .i64 X.n, S X.t, .slice (some ⟨gX, 0, none⟩) X.s.len 3, .bool X.d] 32)) w') := by
    have hE := HE.out.below HB13.out
    have h := write_fn (some ⟨Wg.heap.size, 0, none⟩) 1 (X.fo .nil) (Wg.alloc (.cells #[.int .u8 X.k, .int .i64 X.n, S X.t, .slice (some ⟨gX, 0, none⟩) X.s.len 3, .bool X.d] 32)) (by show 1 ≤ maxLen; unfold maxLen; omega) (by show X.s.size + 0 + 1 + 1 ≤ _; have := HDX.out.size; omega) ⟨HDX.out.t, HDX.out.tx, trivial⟩ (rs_new HRXg.out (by have := HDX.out.len; unfold maxLen; omega)) hE.ev hE.tb
    rw [hwi, htx] at h
    exact h
  rw [hw13] at a13 HB13 HCW
  clear htx hwi
  have HQ13 : Hid _ := cy0 HQg.out a13
  have HK13 : Hid _ := cy0 HKg.out a13
  have HRX13 : Hid (RS w13 (some ⟨gX, 0, none⟩) X.s) := HRXg.out.below a13
  have HM13 : Hid (w13.ownsRow bm 3 1 (.slice (some ⟨bm, 0, none⟩) 3 3) 3 (([1, 0, 1] : List Int).map (.int .i64 ·))) := own_same HMo.out (fun g hg => a13.block g (HMo.out.lt g hg).2)
  clear a13
  go_wp2_with fail
  refine Calls.mono HCW.out ?_
  rintro e w14 ⟨rfl, hb14⟩
  have HB14 : Hid (Below w.heap.size w w14) := HB13.out.trans (hb14.mono HB13.out.size)
  have HQ14 : Hid (w14.heap[bq]? = some (.cells #[.int .u8 x.k, .int .i64 x.n, S x.t, .slice rk x.s.len ck, .bool x.d] 32 (0, 0))) := cy0 HQ13.out hb14
  have HK14 : Hid (w14.heap[b6 + 1]? = some (.cells #[.int .u8 X.k, .int .i64 X.n, S X.t, .slice (some ⟨gX, 0, none⟩) X.s.len 3, .bool X.d] 32 (0, 0))) := cy0 HK13.out hb14
  have HRX14 : Hid (RS w14 (some ⟨gX, 0, none⟩) X.s) := HRX13.out.below hb14
  have HM14 : Hid (w14.ownsRow bm 3 1 (.slice (some ⟨bm, 0, none⟩) 3 3) 3 (([1, 0, 1] : List Int).map (.int .i64 ·))) := own_same HM13.out (fun g hg => hb14.block g (HM13.out.lt g hg).2)
  clear hb14 hw13 HCW y0 y1 y2 y3 y4
  by_cases hwi0 : wi = 0
  case neg =>
    have hwi2 : (wi != 0) = true := by simpa using hwi0
    clear hwi0
    go_wp2_with fail
    go_ret
    exact ⟨rfl, HB14.out⟩
  have hcX := HWI.out hwi0
  subst hwi0
  obtain ⟨hcd, hWi⟩ := with_all (i := 2) (d := x) (by rw [HXi.out]; exact hcX)
  rw [HXi.out] at hWi
  have HOk : Hid (okD x) := canB_ok hcd
  obtain ⟨c0, c1, c2, c3, c4, _⟩ := cells5 HQ14.out
  have HW1 : Hid (With x X [1, 0, 1]) := hWi
  clear hcX hcd hWi HWI
  go_wp2_with fail
  refine (of_any x rk ck w14 HX.out (HR.out.below HB14.out) (HE.out.below HB14.out)).mono ?_
  rintro e w15 ⟨hb15, nv, kv, dv, pv, bs, rfl, hone, hown⟩
  obtain ⟨rp, cp, rfl⟩ := own_slice hown
  obtain ⟨s1, g1, s2, g2, s3, g3, rfl, rfl, rfl, hrf, hcap⟩ := hone.rfo
  have HSzf : Hid (Szd 60000 (ofM x).1) := of_szd HX.out
  have HW2 := HW1.out
  have HPm : Hid ((ofM x).2.2.length ≤ 200000) := by
    obtain ⟨y, hy, _⟩ := of_path x
    have h1 := at_am2 hy
    have h2 := HA.out
    show _ ≤ _
    omega
  obtain ⟨E, hE⟩ : ∃ E, (ofM x).2.1 = E := ⟨_, rfl⟩
  obtain ⟨p, hp⟩ : ∃ p, (ofM x).2.2 = p := ⟨_, rfl⟩
  obtain ⟨f, hf⟩ : ∃ f, (ofM x).1 = f := ⟨_, rfl⟩
  obtain ⟨d1, d2, d3, d4⟩ := HW2
  rw [hE] at d1 d2 d3 d4 ⊢
  rw [hp] at hown d2 d3 HPm ⊢
  rw [hf] at hone hrf hcap HSzf d1 d4 ⊢
  have HB15 : Hid (Below w.heap.size w w15) := HB14.out.trans (hb15.mono HB14.out.size)
  have HQ15 : Hid _ := cy0 HQ14.out hb15
  have HK15 : Hid _ := cy0 HK14.out hb15
  have HRX15 : Hid (RS w15 (some ⟨gX, 0, none⟩) X.s) := HRX14.out.below hb15
  have HM15 : Hid (w15.ownsRow bm 3 1 (.slice (some ⟨bm, 0, none⟩) 3 3) 3 (([1, 0, 1] : List Int).map (.int .i64 ·))) := own_same HM14.out (fun g hg => hb15.block g (HM14.out.lt g hg).2)
  have HPo : Hid (w15.ownsRow w14.heap.size 3 1 (.slice rp p.length cp) p.length (p.map (.int .i64 ·))) := hown
  have HRF : Hid (RFo w15 f s1 s2 s3) := hrf
  have D1 : Hid _ := d1
  have D2 : Hid _ := d2
  have D3 : Hid _ := d3
  have D4 : Hid _ := d4
  clear hb15 c0 c1 c2 c3 c4 hE hp hf hone hown hrf hcap d1 d2 d3 d4 HW1
  go_upto_region 27 with fail
  obtain ⟨w16, hw16⟩ : ∃ W, w15.alloc (Z9 f (.slice s1 f.names.length g1) (.slice s2 f.kids.len g2) (.slice s3 f.dat.s.len g3)) = W := ⟨_, rfl⟩
  have a16 := (Below.refl _ w15).alloc (Nat.le_refl w15.heap.size) (Z9 f (.slice s1 f.names.length g1) (.slice s2 f.kids.len g2) (.slice s3 f.dat.s.len g3))
  have q16 := World.alloc_heap_new w15 (Z9 f (.slice s1 f.names.length g1) (.slice s2 f.kids.len g2) (.slice s3 f.dat.s.len g3))
  rw [hw16] at a16 q16 ⊢
  obtain ⟨b11, hb11⟩ : ∃ b, w15.heap.size = b := ⟨_, rfl⟩
  have HB16 : Hid (Below w.heap.size w w16) := HB15.out.trans (a16.mono HB15.out.size)
  have HQ16 : Hid _ := cy0 HQ15.out a16
  have HK16 : Hid _ := cy0 HK15.out a16
  have HRX16 : Hid (RS w16 (some ⟨gX, 0, none⟩) X.s) := HRX15.out.below a16
  have HM16 : Hid (w16.ownsRow bm 3 1 (.slice (some ⟨bm, 0, none⟩) 3 3) 3 (([1, 0, 1] : List Int).map (.int .i64 ·))) := own_same HM15.out (fun g hg => a16.block g (HM15.out.lt g hg).2)
  have HP16 : Hid (w16.ownsRow w14.heap.size 3 1 (.slice rp p.length cp) p.length (p.map (.int .i64 ·))) := own_same HPo.out (fun g hg => a16.block g (HPo.out.lt g hg).2)
  have HRF16 : Hid (RFo w16 f s1 s2 s3) := HRF.out.below a16
  rw [hb11] at q16 ⊢
  have HF16 : Hid _ := q16
  obtain ⟨y0, y1, y2, y3, y4, _⟩ := cells5 HK16.out
  clear a16 q16 hw16 hb11
  go_wp2_with fail
  refine (of_any X (some ⟨gX, 0, none⟩) 3 w16 HDX.out HRX16.out (HE.out.below HB16.out)).mono ?_
  rintro e w17 ⟨hb17, nv, kv, dv, pv, bs', rfl, hone, hown⟩
  obtain ⟨rq, cq, rfl⟩ := own_slice hown
  obtain ⟨t1, k1, t2, k2, t3, k3, rfl, rfl, rfl, hrf, hcap⟩ := hone.rfo
  have HSzg : Hid (Szd 60000 (ofM X).1) := of_szd HDX.out
  have d1 := D1.out
  have d2 := D2.out
  have d3 := D3.out
  have d4 := D4.out
  obtain ⟨H, hH⟩ : ∃ H, (ofM X).2.1 = H := ⟨_, rfl⟩
  obtain ⟨q, hq⟩ : ∃ q, (ofM X).2.2 = q := ⟨_, rfl⟩
  obtain ⟨g, hg⟩ : ∃ g, (ofM X).1 = g := ⟨_, rfl⟩
  rw [hH] at d1 d2 d3 d4 ⊢
  rw [hq] at hown d1 d2 d3 d4 ⊢
  rw [hg] at hone hrf hcap HSzg d4 ⊢
  have HB17 : Hid (Below w.heap.size w w17) := HB16.out.trans (hb17.mono HB16.out.size)
  have HQ17 : Hid _ := cy0 HQ16.out hb17
  have HF17 : Hid _ := cy0 HF16.out hb17
  have HM17 : Hid (w17.ownsRow bm 3 1 (.slice (some ⟨bm, 0, none⟩) 3 3) 3 (([1, 0, 1] : List Int).map (.int .i64 ·))) := own_same HM16.out (fun g hg => hb17.block g (HM16.out.lt g hg).2)
  have HP17 : Hid (w17.ownsRow w14.heap.size 3 1 (.slice rp p.length cp) p.length (p.map (.int .i64 ·))) := own_same HP16.out (fun g hg => hb17.block g (HP16.out.lt g hg).2)
  have HRF17 : Hid (RFo w17 f s1 s2 s3) := HRF16.out.below hb17
  have HRG17 : Hid (RFo w17 g t1 t2 t3) := hrf
  have HQo17 : Hid (w17.ownsRow w16.heap.size 3 1 (.slice rq q.length cq) q.length (q.map (.int .i64 ·))) := hown
  have F1 : Hid (E = 0 → f.kind = 5 → H = 70 ∧ q = [1, 0, 1]) := d1
  have F2 : Hid (E ≠ 0 → p = [] → H = 70 → q = [1, 0, 1]) := d2
  have F3 : Hid (E ≠ 0 → isDef x = true ∨ (H = E ∧ q = [1, 0, 1] ++ p)) := d3
  have F4 : Hid (E = 0 → f.kind ≠ 5 → H = 0 ∧ q = [] ∧ InF f g.kids) := d4
  obtain ⟨_, _, _, _, hql⟩ := own_cap hown
  obtain ⟨_, _, _, _, hpl⟩ := own_cap HP17.out
  have HQl : Hid (q.length ≤ maxLen) := hql
  have HPl0 : Hid (p.length ≤ maxLen) := hpl
  clear hb17 y0 y1 y2 y3 y4 hH hq hg hone hown hrf hcap d1 d2 d3 d4 D1 D2 D3 D4 hql hpl
  go_upto_region 28 with fail
  obtain ⟨w18, hw18⟩ : ∃ W, w17.alloc (Z9 g (.slice t1 g.names.length k1) (.slice t2 g.kids.len k2) (.slice t3 g.dat.s.len k3)) = W := ⟨_, rfl⟩
  have a18 := (Below.refl _ w17).alloc (Nat.le_refl w17.heap.size) (Z9 g (.slice t1 g.names.length k1) (.slice t2 g.kids.len k2) (.slice t3 g.dat.s.len k3))
  have q18 := World.alloc_heap_new w17 (Z9 g (.slice t1 g.names.length k1) (.slice t2 g.kids.len k2) (.slice t3 g.dat.s.len k3))
  rw [hw18] at a18 q18 ⊢
  obtain ⟨b14, hb14⟩ : ∃ b, w17.heap.size = b := ⟨_, rfl⟩
  have HB18 : Hid (Below w.heap.size w w18) := HB17.out.trans (a18.mono HB17.out.size)
  have HQ18 : Hid (w18.heap[bq]? = some (.cells #[.int .u8 x.k, .int .i64 x.n, S x.t, .slice rk x.s.len ck, .bool x.d] 32 (0, 0))) := cy0 HQ17.out a18
  have HF18 : Hid _ := cy0 HF17.out a18
  have HM18 : Hid (w18.ownsRow bm 3 1 (.slice (some ⟨bm, 0, none⟩) 3 3) 3 (([1, 0, 1] : List Int).map (.int .i64 ·))) := own_same HM17.out (fun g hg => a18.block g (HM17.out.lt g hg).2)
  have HP18 : Hid (w18.ownsRow w14.heap.size 3 1 (.slice rp p.length cp) p.length (p.map (.int .i64 ·))) := own_same HP17.out (fun g hg => a18.block g (HP17.out.lt g hg).2)
  have HRF18 : Hid (RFo w18 f s1 s2 s3) := HRF17.out.below a18
  have HRG18 : Hid (RFo w18 g t1 t2 t3) := HRG17.out.below a18
  have HQo : Hid (w18.ownsRow w16.heap.size 3 1 (.slice rq q.length cq) q.length (q.map (.int .i64 ·))) := own_same HQo17.out (fun g hg => a18.block g (HQo17.out.lt g hg).2)
  have HQx : Hid (RX (Value.int .i64) w18 rq q) := own_rx HQo.out rfl
  rw [hb14] at q18 ⊢
  have HG18 : Hid _ := q18
  clear a18 q18 hw18 hb14
  obtain ⟨⟨z0, z1, z2, z3, z4, z5, z6, z7, z8⟩, _⟩ := cells9 HF18.out
  obtain ⟨⟨x0, x1, x2, x3, x4, x5, x6, x7, x8⟩, _⟩ := cells9 HG18.out
  by_cases hE : E = 0
  case pos =>
    have hE2 : (E == 0) = true := by simpa using hE
    have hE3 : (E != 0) = false := by simp [hE]
    by_cases hk : f.kind = 5
    case pos =>
      obtain ⟨e1, e2⟩ := F1.out hE hk
      have hk2 : (f.kind == 5) = true := by simpa using hk
      subst e1 e2
      have HSI : Hid (Calls Tryz.prog 17 #[.slice rq 3 cq, .slice (some ⟨bm, 0, none⟩) 3 3] w18 fun e w' => e = .returned (.bool true) ∧ Below w18.heap.size w18 w') := by
        have h := sameI_any [1, 0, 1] [1, 0, 1] rq (some ⟨bm, 0, none⟩) cq 3 w18 (by show 3 ≤ maxLen; unfold maxLen; omega) (by show 3 ≤ maxLen; unfold maxLen; omega) HQx.out (own_rx HM18.out rfl)
        exact h
      clear hE hk
      go_wp2_with fail
      refine Calls.mono HSI.out ?_
      rintro e w19 ⟨rfl, hb19⟩
      have HB19 : Hid (Below w.heap.size w w19) := HB18.out.trans (hb19.mono HB18.out.size)
      clear hb19 HSI z0 z1 z2 z3 z4 z5 z6 z7 z8 x0 x1 x2 x3 x4 x5 x6 x7 x8
      go_wp2_with fail
      go_ret
      exact ⟨rfl, HB19.out⟩
    obtain ⟨e1, e2, e3⟩ := F4.out hE hk
    have hk2 : (f.kind == 5) = false := by simpa using hk
    subst e1 e2
    have HCH : Hid (Calls Tryz.prog 42 #[frmV g (.slice t1 g.names.length k1) (.slice t2 g.kids.len k2) (.slice t3 g.dat.s.len k3), frmV f (.slice s1 f.names.length g1) (.slice s2 f.kids.len g2) (.slice s3 f.dat.s.len g3)] w18 fun e w' => e = .returned (.bool true) ∧ Below w18.heap.size w18 w') := has_any g f t1 t2 t3 s1 s2 s3 k1 k2 k3 g1 g2 g3 w18 HSzg.out.ok HSzg.out.ks HSzf.out.ok HSzf.out.ks HRG18.out HRF18.out e3
    clear hE hk e3
    go_wp2_with fail
    refine Calls.mono HCH.out ?_
    rintro e w19 ⟨rfl, hb19⟩
    have HB19 : Hid (Below w.heap.size w w19) := HB18.out.trans (hb19.mono HB18.out.size)
    clear hb19 HCH z0 z1 z2 z3 z4 z5 z6 z7 z8 x0 x1 x2 x3 x4 x5 x6 x7 x8
    go_wp2_with fail
    go_ret
    exact ⟨rfl, HB19.out⟩
  have hE2 : (E == 0) = false := by simpa using hE
  have hE3 : (E != 0) = true := by simpa using hE
  obtain ⟨M, hM⟩ : ∃ M : List Int, [1, 0, 1] = M := ⟨_, rfl⟩
  have HMl : Hid (M.length = 3) := by rw [← hM]; rfl
  by_cases hp : p = []
  case pos =>
    subst hp
    by_cases hH : H = 70
    case pos =>
      have e2 := F2.out hE rfl hH
      subst hH e2
      have HSI : Hid (Calls Tryz.prog 17 #[.slice rq 3 cq, .slice (some ⟨bm, 0, none⟩) 3 3] w18 fun e w' => e = .returned (.bool true) ∧ Below w18.heap.size w18 w') := by
        have h := sameI_any [1, 0, 1] [1, 0, 1] rq (some ⟨bm, 0, none⟩) cq 3 w18 (by show 3 ≤ maxLen; unfold maxLen; omega) (by show 3 ≤ maxLen; unfold maxLen; omega) HQx.out (own_rx HM18.out rfl)
        exact h
      clear hE hM HMl
      go_wp2_with fail
      refine Calls.mono HSI.out ?_
      rintro e w19 ⟨rfl, hb19⟩
      have HB19 : Hid (Below w.heap.size w w19) := HB18.out.trans (hb19.mono HB18.out.size)
      clear hb19 HSI z0 z1 z2 z3 z4 z5 z6 z7 z8 x0 x1 x2 x3 x4 x5 x6 x7 x8
      go_wp2_with fail
      go_ret
      exact ⟨rfl, HB19.out⟩
    have hH2 : (H == 70) = false := by simpa using hH
    clear hH
    have HMx0 := HM18.out
    have F3m := F3.out
    rw [hM] at HMx0 F3m
    clear F3
    have F3 : Hid (E ≠ 0 → isDef x = true ∨ (H = E ∧ q = M ++ [])) := F3m
    have HPl : Hid ((M ++ ([] : List Int)).length ≤ maxLen) := by show _ ≤ _; rw [List.append_nil, HMl.out]; unfold maxLen; omega
    have HMr : Hid (RX (Value.int .i64) w18 (some ⟨bm, 0, none⟩) (M ++ [])) := by show RX _ _ _ _; rw [List.append_nil]; exact own_rx HMx0 HMl.out
    have HQ19 : Hid _ := HQ18.out
    clear F3m HMx0 hM F1 F2 F4
    obtain ⟨i1, hi1, hy0, hy1, hy2⟩ := info_parts infoI
    go_wp2_with (at_builtin; refine stop_of ?_)
    unfold Hid
    refine wpList_plain rfl fun _ hK => wp_append_nothing w18 _ _ _ rfl 3 i1 Tryz.underlying38 hi1 (some ⟨bm, 0, none⟩) rp 3 3 cp (Nat.le_refl _) rfl rfl (hK _ _ ?_)
    clear hi1 hy0 hy1 hy2
    have HSI : Hid (Calls Tryz.prog 17 #[.slice rq q.length cq, .slice (some ⟨bm, 0, none⟩) 3 3] w18 fun e w' => e = .returned (.bool (decide (q = M ++ ([] : List Int)))) ∧ Below w18.heap.size w18 w') := by
      have h := sameI_any q (M ++ ([] : List Int)) rq (some ⟨bm, 0, none⟩) cq 3 w18 HQl.out HPl.out HQx.out HMr.out
      rwa [show (M ++ ([] : List Int)).length = 3 by simp [HMl.out]] at h
    obtain ⟨bs, hbs⟩ : ∃ bs, decide (q = M ++ ([] : List Int)) = bs := ⟨_, rfl⟩
    have HBS : Hid (q = M ++ ([] : List Int) → bs = true) := fun e => by rw [← hbs]; exact decide_eq_true e
    rw [hbs] at HSI
    clear hbs
    go_wp2_with fail
    refine Calls.mono HSI.out ?_
    rintro e w20 ⟨rfl, hb20⟩
    have HB20 : Hid (Below w.heap.size w w20) := HB18.out.trans (hb20.mono HB18.out.size)
    obtain ⟨c0, c1, c2, c3, c4, _⟩ := cells5 (cy0 HQ19.out hb20)
    clear hb20 HSI
    by_cases hk5 : x.k = 5
    case neg =>
      have hk52 : (x.k == 5) = false := by simpa using hk5
      obtain ⟨e1, e2⟩ := (F3.out hE).resolve_left (by rw [def_no HOk.out (fun h => hk5 h.1)]; simp)
      have hbt := HBS.out e2
      subst e1 hbt
      have hee : (H == H) = true := by simp
      clear hk5 HBS
      go_wp2_with fail
      go_ret
      exact ⟨rfl, HB20.out⟩
    have hk52 : (x.k == 5) = true := by simpa using hk5
    by_cases hl0 : x.s.len = 0
    case pos =>
      obtain ⟨e1, e2⟩ := (F3.out hE).resolve_left (by rw [def_no HOk.out (fun h => by have := h.2.1; omega)]; simp)
      have hbt := HBS.out e2
      subst e1 hbt
      have hee : (H == H) = true := by simp
      have hl02 : ¬ (0 : Int) < (x.s.len : Int) := by omega
      clear HBS hl0
      go_wp2_with fail
      go_ret
      exact ⟨rfl, HB20.out⟩
    have hl02 : (0 : Int) < (x.s.len : Int) := by omega
    obtain ⟨bz, oz, hz, hrd⟩ := HR.out.below HB20.out
    have hz := hz.resolve_left hl0
    subst hz
    obtain ⟨⟨g0, g1, g2, g3, g4, g5⟩, _⟩ := Rd.nd hrd (Fo.nd_hd (s := x.s) (by omega))
    rw [Nat.zero_mul, Nat.add_zero] at g1 g2 g3 g4
    clear hrd
    by_cases hk2 : x.s.hd.k = 2
    case neg =>
      have hk22 : (x.s.hd.k == 2) = false := by simpa using hk2
      obtain ⟨e1, e2⟩ := (F3.out hE).resolve_left (by rw [def_no HOk.out (fun h => hk2 h.2.2.1)]; simp)
      have hbt := HBS.out e2
      subst e1 hbt
      have hee : (H == H) = true := by simp
      clear HBS hk2
      go_wp2_with fail
      go_ret
      exact ⟨rfl, HB20.out⟩
    have hk22 : (x.s.hd.k == 2) = true := by simpa using hk2
    by_cases ht : x.s.hd.t = [100, 101, 102, 105, 110, 101]
    case neg =>
      have ht2 : (x.s.hd.t == [100, 101, 102, 105, 110, 101]) = false := beq_eq_false_iff_ne.2 ht
      obtain ⟨e1, e2⟩ := (F3.out hE).resolve_left (by rw [def_no HOk.out (fun h => ht h.2.2.2)]; simp)
      have hbt := HBS.out e2
      subst e1 hbt
      have hee : (H == H) = true := by simp
      clear HBS ht
      go_wp2_with fail
      go_ret
      exact ⟨rfl, HB20.out⟩
    have ht2 : (x.s.hd.t == [100, 101, 102, 105, 110, 101]) = true := by simpa using ht
    clear HBS ht
    go_wp2_with fail
    go_ret
    exact ⟨rfl, HB20.out⟩
  have hpl2 : ((p.length : Int) == 0) = false := by
    have : p.length ≠ 0 := fun e => hp (List.length_eq_zero_iff.1 e)
    simp; omega
  have hplt : 0 < p.length := Nat.pos_of_ne_zero fun e => hp (List.length_eq_zero_iff.1 e)
  have HMx0 := HM18.out
  have F3m := F3.out
  rw [hM] at HMx0 F3m
  clear F3
  have F3 : Hid (E ≠ 0 → isDef x = true ∨ (H = E ∧ q = M ++ p)) := F3m
  obtain ⟨gp, hgp⟩ : ∃ gp, rp = some ⟨gp, 0, none⟩ := by
    rcases HP18.out.2 with ⟨h0, hl⟩ | ⟨gp, cap, cur, hv, _⟩
    · omega
    · cases hv; exact ⟨gp, rfl⟩
  subst hgp
  have hpm := HPm.out
  have hn : ∀ (j : Nat) (u : Value), (p.map (.int .i64 ·))[j]? = some u → w18.cell? ((⟨gp, 0, none⟩ : Addr).add j) = some u := fun j u hj => HP18.out.cells rfl j u hj
  have h1 : ∀ u ∈ p.map (Value.int .i64 ·), u.oneCell' = true := fun u hu => by obtain ⟨y, _, rfl⟩ := List.mem_map.1 hu; rfl
  have HMx : Hid (w18.ownsRow bm 3 1 (.slice (some ⟨bm, 0, none⟩) 3 3) 3 (M.map (.int .i64 ·))) := HMx0
  have HP0 : Hid _ := hp
  clear F3m HMx0 hM F1 F2 F4 hp
  obtain ⟨i1, hi1, hy0, hy1, hy2⟩ := info_parts infoI
  go_wp2_with (at_builtin; refine stop_of ?_)
  unfold Hid
  refine wpList_append_lies _ rfl _ _ 38 rfl bm 3 i1 (.int .i64 0) 1 8 Tryz.underlying38 hi1 hy0 hy1 hy2 rfl (by decide) (.slice (some ⟨bm, 0, none⟩) 3 3) 3 (M.map (.int .i64 ·)) rfl HMx.out ⟨gp, 0, none⟩ p.length cp (p.map (.int .i64 ·)) rfl (by simp) hn h1 hplt (by unfold maxLen; omega) (by omega) (by have := (HMx.out.lt bm rfl).2; omega) _ rfl ?_
  intro gn capn w19 hown hgr hat hlt19
  have hbm16 : bm < w16.heap.size := (HM16.out.lt bm rfl).2
  have HB19 : Hid (Below w.heap.size w w19) := HB18.out.trans ((Below.refl w.heap.size w18).grown hgr HB18.out.size (fun k' hk' => by cases hk'; exact HBm.out.1))
  have HQ19 : Hid (w19.heap[bq]? = some (.cells #[.int .u8 x.k, .int .i64 x.n, S x.t, .slice rk x.s.len ck, .bool x.d] 32 (0, 0))) := (hgr.block bq (Array.getElem?_eq_some_iff.1 HQ18.out).1 (fun e => by cases e; exact absurd HBm.out.2 (Nat.lt_irrefl _))).trans HQ18.out
  have HQx19 : Hid (RX (Value.int .i64) w19 rq q) := own_rx (own_same HQo.out (fun g hg => hgr.block g (HQo.out.lt g hg).2 (fun e => by have hgb : g = bm := Option.some.inj e; have := (HQo.out.lt g hg).1; omega))) rfl
  have HMr : Hid (RX (Value.int .i64) w19 (some ⟨gn, 0, none⟩) (M ++ p)) := by
    rw [← List.map_append] at hown
    exact own_rx hown (by rw [List.length_append, HMl.out])
  have HPl : Hid ((M ++ p).length ≤ maxLen) := by show _ ≤ _; rw [List.length_append, HMl.out]; unfold maxLen; omega
  clear hown hgr hat hlt19 hn h1 hi1 hy0 hy1 hy2 hplt hpm hbm16
  have HSI : Hid (Calls Tryz.prog 17 #[.slice rq q.length cq, .slice (some ⟨gn, 0, none⟩) (3 + p.length) capn] w19 fun e w' => e = .returned (.bool (decide (q = M ++ p))) ∧ Below w19.heap.size w19 w') := by
    have h := sameI_any q (M ++ p) rq (some ⟨gn, 0, none⟩) cq capn w19 HQl.out HPl.out HQx19.out HMr.out
    rwa [show (M ++ p).length = (3 + p.length) by simp [List.length_append, HMl.out]] at h
  obtain ⟨bs, hbs⟩ : ∃ bs, decide (q = M ++ p) = bs := ⟨_, rfl⟩
  have HBS : Hid (q = M ++ p → bs = true) := fun e => by rw [← hbs]; exact decide_eq_true e
  rw [hbs] at HSI
  clear hbs
  go_wp2_with fail
  refine Calls.mono HSI.out ?_
  rintro e w20 ⟨rfl, hb20⟩
  have HB20 : Hid (Below w.heap.size w w20) := HB19.out.trans (hb20.mono HB19.out.size)
  obtain ⟨c0, c1, c2, c3, c4, _⟩ := cells5 (cy0 HQ19.out hb20)
  clear hb20 HSI
  by_cases hk5 : x.k = 5
  case neg =>
    have hk52 : (x.k == 5) = false := by simpa using hk5
    obtain ⟨e1, e2⟩ := (F3.out hE).resolve_left (by rw [def_no HOk.out (fun h => hk5 h.1)]; simp)
    have hbt := HBS.out e2
    subst e1 hbt
    have hee : (H == H) = true := by simp
    clear hk5 HBS
    go_wp2_with fail
    go_ret
    exact ⟨rfl, HB20.out⟩
  have hk52 : (x.k == 5) = true := by simpa using hk5
  by_cases hl0 : x.s.len = 0
  case pos =>
    obtain ⟨e1, e2⟩ := (F3.out hE).resolve_left (by rw [def_no HOk.out (fun h => by have := h.2.1; omega)]; simp)
    have hbt := HBS.out e2
    subst e1 hbt
    have hee : (H == H) = true := by simp
    have hl02 : ¬ (0 : Int) < (x.s.len : Int) := by omega
    clear HBS hl0
    go_wp2_with fail
    go_ret
    exact ⟨rfl, HB20.out⟩
  have hl02 : (0 : Int) < (x.s.len : Int) := by omega
  obtain ⟨bz, oz, hz, hrd⟩ := HR.out.below HB20.out
  have hz := hz.resolve_left hl0
  subst hz
  obtain ⟨⟨g0, g1, g2, g3, g4, g5⟩, _⟩ := Rd.nd hrd (Fo.nd_hd (s := x.s) (by omega))
  rw [Nat.zero_mul, Nat.add_zero] at g1 g2 g3 g4
  clear hrd
  by_cases hk2 : x.s.hd.k = 2
  case neg =>
    have hk22 : (x.s.hd.k == 2) = false := by simpa using hk2
    obtain ⟨e1, e2⟩ := (F3.out hE).resolve_left (by rw [def_no HOk.out (fun h => hk2 h.2.2.1)]; simp)
    have hbt := HBS.out e2
    subst e1 hbt
    have hee : (H == H) = true := by simp
    clear HBS hk2
    go_wp2_with fail
    go_ret
    exact ⟨rfl, HB20.out⟩
  have hk22 : (x.s.hd.k == 2) = true := by simpa using hk2
  by_cases ht : x.s.hd.t = [100, 101, 102, 105, 110, 101]
  case neg =>
    have ht2 : (x.s.hd.t == [100, 101, 102, 105, 110, 101]) = false := beq_eq_false_iff_ne.2 ht
    obtain ⟨e1, e2⟩ := (F3.out hE).resolve_left (by rw [def_no HOk.out (fun h => ht h.2.2.2)]; simp)
    have hbt := HBS.out e2
    subst e1 hbt
    have hee : (H == H) = true := by simp
    clear HBS ht
    go_wp2_with fail
    go_ret
    exact ⟨rfl, HB20.out⟩
  have ht2 : (x.s.hd.t == [100, 101, 102, 105, 110, 101]) = true := by simpa using ht
  clear HBS ht
  go_wp2_with fail
  go_ret
  exact ⟨rfl, HB20.out⟩
end Go.Proofs.YtkgnigloboajcaaGreatDoor
