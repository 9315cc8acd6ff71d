/- works: the examples.; ShowOne. -/
import Derived.Test.YtejmoopgfnjaaaaDoorK26
import Derived.Test.YtejmoopgfnjaaaaDoorK28
import Derived.Test.YtejmoopgfnjaaaaDoorK29
/- works: the examples. -/
namespace Go.Proofs.YtejmoopgfnjaaaaDoor
open Go.RowKit Go.Maps Go.ChangeMaps

theorem keepQ {W W' : World} {hb : Nat} {u0 u1 u2 u3 : Value} (h : Below W.heap.size W W') (hs : (W.cell? ⟨hb, 4, none⟩ = some u0 ∧ W.cell? ⟨hb, 5, none⟩ = some u1 ∧ W.cell? ⟨hb, 6, none⟩ = some u2 ∧ W.cell? ⟨hb, 7, none⟩ = some u3) ∧ hb < W.heap.size) : (W'.cell? ⟨hb, 4, none⟩ = some u0 ∧ W'.cell? ⟨hb, 5, none⟩ = some u1 ∧ W'.cell? ⟨hb, 6, none⟩ = some u2 ∧ W'.cell? ⟨hb, 7, none⟩ = some u3) ∧ hb < W'.heap.size :=
  have e := fun q => h.cell (p := ⟨hb, q, none⟩) hs.2
  ⟨⟨(e 4).trans hs.1.1, (e 5).trans hs.1.2.1, (e 6).trans hs.1.2.2.1, (e 7).trans hs.1.2.2.2⟩, Nat.lt_of_lt_of_le hs.2 h.size⟩
set_option maxRecDepth 100000 in
set_option maxHeartbeats 16000000 in
theorem works_any (w : World) (hG : Gl w) : Calls Tryd.prog 6 #[] w fun e w' => e = .returned (.bool true) ∧ Below w.heap.size w w' := by
  have HG : Hid (Gl w) := hG
  have H10 : Hid _ := made_of 1 0 1 w (by omega) (by omega) hG.tab (by kernel_rfl) (by kernel_rfl)
  have H60 : Hid _ := made_of 6 0 6 w (by omega) (by omega) hG.tab (by kernel_rfl) (by kernel_rfl)
  have H61 : Hid _ := made_of 6 1 22 w (by omega) (by omega) hG.tab (by kernel_rfl) (by kernel_rfl)
  clear hG
  go_enter Tryd.func6, Tryd.ntmps6
  go_wp2_with fail
  refine Calls.mono H10.out ?_
  rintro e w1 ⟨rfl, hw1⟩
  rw [hw1]
  clear hw1 H10
  go_wp2_with fail
  refine Calls.mono H60.out ?_
  rintro e w1 ⟨rfl, hw1⟩
  rw [hw1]
  clear hw1 H60
  go_wp2_with fail
  refine Calls.mono H61.out ?_
  rintro e w1 ⟨rfl, hw1⟩
  rw [hw1]
  clear hw1 H61
  have a1 := (Below.refl _ w).alloc (Nat.le_refl w.heap.size) (.cells #[S [97], S [98]] 9)
  have n1 := heap_alloc_new w (.cells #[S [97], S [98]] 9)
  go_upto_region 5 with fail
  obtain ⟨w1, hw1⟩ : ∃ w1, w1 = w.alloc (.cells #[S [97], S [98]] 9) := ⟨_, rfl⟩
  rw [← hw1] at a1 n1 ⊢
  have HG1 : Hid (Gl w1) := HG.out.below a1
  have HB1 : Hid (Below w.heap.size w w1) := a1
  have HN1 : Hid (w1.heap[w.heap.size]? = some (.cells #[S [97], S [98]] 9 (0, 0))) := n1
  obtain ⟨nb, hnb⟩ : ∃ nb, nb = w.heap.size := ⟨_, rfl⟩
  rw [← hnb] at HN1 ⊢
  have HR0 : Hid _ := rf_of 0 8 w1 HG1.out.tab (by kernel_rfl)
  have HR1 : Hid _ := rf_of 1 24 w1 HG1.out.tab (by kernel_rfl)
  clear hw1 a1 n1 HG hnb
  go_wp2_with fail
  refine Calls.mono HR0.out ?_
  rintro e wx ⟨rfl, hwx⟩
  rw [hwx]
  clear hwx HR0
  go_wp2_with fail
  refine Calls.mono HR1.out ?_
  rintro e wx ⟨rfl, hwx⟩
  rw [hwx]
  clear hwx HR1
  have a2 := (Below.refl _ w1).alloc (Nat.le_refl w1.heap.size) (.cells #[.int .u8 1, .int .u8 0, .int .u64 6, .int .u64 8] 39)
  have HS1 : Hid (Calls Tryd.prog 8 #[.slice (some ⟨w1.heap.size, 0, none⟩) 1 1, .slice (some ⟨nb, 0, none⟩) 2 2, .int .u64 8] (w1.alloc (.cells #[.int .u8 1, .int .u8 0, .int .u64 6, .int .u64 8] 39)) fun e w' => e = .returned (.tuple #[S [35, 48, 61, 40, 97, 32, 46, 32, 35, 48, 35, 41], .int .i64 0]) ∧ Below w1.heap.size w1 w') := (show1 _ _ 1 2 _ (HG1.out.below a2) (hr1 (heap_alloc_new _ _)) ((tx0 HN1.out).below a2)).mono fun e w' hh => ⟨hh.1, a2.trans (hh.2.mono a2.size)⟩
  clear a2
  go_wp2_with fail
  refine Calls.mono HS1.out ?_
  rintro e w2 ⟨rfl, hb2⟩
  have HG2 : Hid (Gl w2) := HG1.out.below hb2
  have HB2 : Hid (Below w.heap.size w w2) := HB1.out.trans (hb2.mono HB1.out.size)
  have HN2 : Hid (w2.heap[nb]? = some (.cells #[S [97], S [98]] 9 (0, 0))) := (hb2.block nb (heap_lt HN1.out)).trans HN1.out
  clear hb2 HG1 HB1 HN1 HS1
  have a3 := (Below.refl _ w2).alloc (Nat.le_refl w2.heap.size) (.cells #[.int .u8 1, .int .u8 0, .int .u64 24, .int .u64 24, .int .u8 1, .int .u8 0, .int .u64 22, .int .u64 1] 39)
  have n3 := heap_alloc_new w2 (.cells #[.int .u8 1, .int .u8 0, .int .u64 24, .int .u64 24, .int .u8 1, .int .u8 0, .int .u64 22, .int .u64 1] 39)
  go_upto_region 9 with fail
  obtain ⟨w3, hw3⟩ : ∃ w3, w3 = w2.alloc (.cells #[.int .u8 1, .int .u8 0, .int .u64 24, .int .u64 24, .int .u8 1, .int .u8 0, .int .u64 22, .int .u64 1] 39) := ⟨_, rfl⟩
  rw [← hw3] at a3 n3 ⊢
  have HG3 : Hid (Gl w3) := HG2.out.below a3
  have HB3 : Hid (Below w.heap.size w w3) := HB2.out.trans (a3.mono HB2.out.size)
  have HN3 : Hid (w3.heap[nb]? = some (.cells #[S [97], S [98]] 9 (0, 0))) := (a3.block nb (heap_lt HN2.out)).trans HN2.out
  obtain ⟨hb, hhb⟩ : ∃ hb, hb = w2.heap.size := ⟨_, rfl⟩
  rw [← hhb] at n3 ⊢
  have HH3 : Hid (w3.heap[hb]? = some (.cells #[.int .u8 1, .int .u8 0, .int .u64 24, .int .u64 24, .int .u8 1, .int .u8 0, .int .u64 22, .int .u64 1] 39 (0, 0))) := n3
  clear hw3 a3 n3 hhb HG2 HB2 HN2
  have HS2 : Hid _ := show2 (some ⟨hb, 0, none⟩) (some ⟨nb, 0, none⟩) 2 2 w3 HG3.out (hr2 HH3.out) (tx0 HN3.out)
  go_wp2_with fail
  refine Calls.mono HS2.out ?_
  rintro e w4 ⟨rfl, hb4⟩
  have HG4 : Hid (Gl w4) := HG3.out.below hb4
  have HB4 : Hid (Below w.heap.size w w4) := HB3.out.trans (hb4.mono HB3.out.size)
  have HH4 : Hid (w4.heap[hb]? = some (.cells #[.int .u8 1, .int .u8 0, .int .u64 24, .int .u64 24, .int .u8 1, .int .u8 0, .int .u64 22, .int .u64 1] 39 (0, 0))) := (hb4.block hb (heap_lt HH3.out)).trans HH3.out
  clear hb4 HS2 HG3 HB3 HN3 HH3
  have q4 := heap_cell (j := 4) HH4.out rfl
  have q5 := heap_cell (j := 5) HH4.out rfl
  have q6 := heap_cell (j := 6) HH4.out rfl
  have q7 := heap_cell (j := 7) HH4.out rfl
  have lq := heap_lt HH4.out
  have HR2 : Hid (∀ W, Below w4.heap.size w4 W → Calls Tryd.prog 15 #[.int .i64 2] W fun e w' => e = .returned (.int .u64 40) ∧ w' = W) := fun W hW => rf_of 2 40 W (HG4.out.below hW).tab (by kernel_rfl)
  have hmx : Tryd.prog.follows .mixedOrders = true := by kernel_rfl
  go_upto_region 10 with fail
  go_region_held3 (fun wx => (wx.cell? ⟨hb, 4, none⟩ = some (.int .u8 1) ∧ wx.cell? ⟨hb, 5, none⟩ = some (.int .u8 0) ∧ wx.cell? ⟨hb, 6, none⟩ = some (.int .u64 22) ∧ wx.cell? ⟨hb, 7, none⟩ = some (.int .u64 1)) ∧ hb < wx.heap.size) (first | exact ⟨⟨q4, q5, q6, q7⟩, lq⟩ | exact keepQ (W := w4.drew) ((Below.refl _ _).alloc (Nat.le_refl _) _) ⟨⟨q4, q5, q6, q7⟩, lq⟩ | (go_keep; done))
    (first | (go_at_call 15; refine (HR2.out _ (Below.refl _ _).drew).mono ?_; rintro e w5 ⟨rfl, rfl⟩))
  have a5 : Below w4.heap.size w4 (w4.alloc (.cells #[.int .u8 1, .int .u8 0, .int .u64 24, .int .u64 40, .int .u8 1, .int .u8 0, .int .u64 22, .int .u64 1, .int .u8 1, .int .u8 0, .int .u64 22, .int .u64 1] 39)).drew := ((Below.refl _ w4).alloc (Nat.le_refl _) _).drew
  have n5 : (w4.alloc (.cells #[.int .u8 1, .int .u8 0, .int .u64 24, .int .u64 40, .int .u8 1, .int .u8 0, .int .u64 22, .int .u64 1, .int .u8 1, .int .u8 0, .int .u64 22, .int .u64 1] 39)).drew.heap[w4.heap.size]? = some (.cells #[.int .u8 1, .int .u8 0, .int .u64 24, .int .u64 40, .int .u8 1, .int .u8 0, .int .u64 22, .int .u64 1, .int .u8 1, .int .u8 0, .int .u64 22, .int .u64 1] 39 (0, 0)) := heap_alloc_new w4 _
  obtain ⟨w5, hw5⟩ : ∃ w5, w5 = (w4.alloc (.cells #[.int .u8 1, .int .u8 0, .int .u64 24, .int .u64 40, .int .u8 1, .int .u8 0, .int .u64 22, .int .u64 1, .int .u8 1, .int .u8 0, .int .u64 22, .int .u64 1] 39)).drew := ⟨_, rfl⟩
  rw [← hw5] at a5 n5 ⊢
  have HG5 : Hid (Gl w5) := HG4.out.below a5
  have HB5 : Hid (Below w.heap.size w w5) := HB4.out.trans (a5.mono HB4.out.size)
  have HH5 : Hid (HR w5 (some ⟨hb, 0, none⟩) h2) := (hr2 HH4.out).below a5
  have HK5 : Hid (HR w5 (some ⟨w4.heap.size, 0, none⟩) h3) := hr3 n5
  obtain ⟨gb, hgb⟩ : ∃ gb, gb = w4.heap.size := ⟨_, rfl⟩
  rw [← hgb] at HK5 ⊢
  clear hw5 a5 n5 hgb HG4 HB4 HH4 q4 q5 q6 q7 lq HR2
  have HA : Hid _ := alike0 (some ⟨hb, 0, none⟩) (some ⟨gb, 0, none⟩) 2 3 w5 HG5.out HH5.out HK5.out
  go_wp2_with fail
  refine Calls.mono HA.out ?_
  rintro e w6 ⟨rfl, hb6⟩
  have HB6 : Hid (Below w.heap.size w w6) := HB5.out.trans (hb6.mono HB5.out.size)
  have HZ : Hid (Calls Tryd.prog 8 #[.slice none 0 0, .slice none 0 0, .int .u64 8] w6 fun e w' => e = .returned (.tuple #[S [], .int .i64 110]) ∧ Below w6.heap.size w6 w') := show_bad [] [] 8 none none 0 0 w6 (by decide) ⟨0, 0, .inl rfl, fun j x hx => by simp at hx⟩ (rng_of (by omega) (by omega)) (HG5.out.below hb6).tab fit0
  clear hb6 HA HG5 HB5 HH5 HK5
  go_wp2_with fail
  refine Calls.mono HZ.out ?_
  rintro e w7 ⟨rfl, hb7⟩
  have HB7 : Hid (Below w.heap.size w w7) := HB6.out.trans (hb7.mono HB6.out.size)
  clear hb7 HZ HB6
  have z1 : ((⟨#[35, 48, 61, 40, 97, 32, 46, 32, 35, 48, 35, 41]⟩ : ByteArray) == ⟨#[35, 48, 61, 40, 97, 32, 46, 32, 35, 48, 35, 41]⟩) = true := by decide
  have z2 : ((⟨#[40, 35, 48, 61, 40, 98, 41, 32, 46, 32, 35, 48, 35, 41]⟩ : ByteArray) == ⟨#[40, 35, 48, 61, 40, 98, 41, 32, 46, 32, 35, 48, 35, 41]⟩) = true := by decide
  go_wp2
  go_ret
  exact ⟨rfl, HB7.out⟩
end Go.Proofs.YtejmoopgfnjaaaaDoor

/- ShowOne. -/
namespace Go.Proofs.YtejmoopgfnjaaaaDoor
open Go.RowKit Go.Maps Go.ChangeMaps

theorem tx_nil (w : World) : TX w none [] := ⟨0, 0, .inl rfl, fun j x hx => by simp at hx⟩
set_option maxRecDepth 100000 in
set_option maxHeartbeats 16000000 in
theorem showOne_walk (h g : List Cl) (N : List (List UInt8)) (x y : Int) (ra rn rb : Option Addr) (ca cn cb : Nat) (w : World) (hh : h.length ≤ 281474976710656) (hg : g.length ≤ 281474976710656) (hNl : N.length ≤ 281474976710656) (hH : HR w ra h) (hK : HR w rb g) (hN : TX w rn N) (hx : Rng x) (hy : Rng y) (hG : Gl w) :
    Calls Tryd.prog 3 #[.slice ra h.length ca, .slice rn N.length cn, .int .u64 x, .slice rb g.length cb, .int .u64 y] w fun e w' => e = .returned (.bool true) ∧ Below w.heap.size w w' := by
  have HWk : Hid _ := works_any w hG
  have HA : Hid (∀ w', Below w.heap.size w w' → HR w' ra h ∧ HR w' rb g ∧ TX w' rn N ∧ Gl w') := fun w' hb => ⟨hH.below hb, hK.below hb, hN.below hb, hG.below hb⟩
  have HXY : Hid (Rng x ∧ Rng y ∧ (∀ z ∈ h, OkK z) ∧ ∀ z ∈ g, OkK z) := ⟨hx, hy, hr_ok hH, hr_ok hK⟩
  clear hH hK hN hG hx hy
  go_enter Tryd.func3, Tryd.ntmps3
  go_wp2_with fail
  refine Calls.mono HWk.out ?_
  rintro e w1 ⟨rfl, hb1⟩
  have HB1 : Hid (Below w.heap.size w w1) := hb1
  have HV1 : Hid _ := heavy_any h.length N ra rn ca cn w1 hh (HA.out w1 hb1).2.2.1 hNl
  clear hb1 HWk
  go_wp2_with fail
  refine Calls.mono HV1.out ?_
  rintro e w2 ⟨⟨b1, rfl, hv1⟩, hb2⟩
  have HB2 : Hid (Below w.heap.size w w2) := HB1.out.trans (hb2.mono HB1.out.size)
  have HV2 : Hid _ := heavy_any g.length [] rb none cb 0 w2 hg (tx_nil w2) (by simp)
  clear hb2 HV1
  cases b1 with
  | true =>
    clear hv1 HV2
    go_wp2
    go_ret
    exact ⟨rfl, HB2.out⟩
  | false =>
    obtain ⟨l1, l2, l3⟩ := hv1 rfl
    clear hv1
    go_wp2_with fail
    refine Calls.mono HV2.out ?_
    rintro e w3 ⟨⟨b2, rfl, hv2⟩, hb3⟩
    have HB3 : Hid (Below w.heap.size w w3) := HB2.out.trans (hb3.mono HB2.out.size)
    clear hb3 HV2
    cases b2 with
    | true =>
      clear hv2
      go_wp2
      go_ret
      exact ⟨rfl, HB3.out⟩
    | false =>
      obtain ⟨m1, _, _⟩ := hv2 rfl
      have A3 := HA.out w3 HB3.out
      have HS1 : Hid _ := show_any h N x ra rn ca cn w3 (by omega) A3.1 HXY.out.1 A3.2.2.2.tab (by omega) A3.2.2.1 A3.2.2.2.ev A3.2.2.2.tb
      clear A3 hv2
      go_wp2_with fail
      refine Calls.mono HS1.out ?_
      rintro e w4 ⟨hr1, hb4⟩
      have HB4 : Hid (Below w.heap.size w w4) := HB3.out.trans (hb4.mono HB3.out.size)
      have A4 := HA.out w4 HB4.out
      have HS2 : Hid _ := show_any g N y rb rn cb cn w4 (by omega) A4.2.1 HXY.out.2.1 A4.2.2.2.tab (by omega) A4.2.2.1 A4.2.2.2.ev A4.2.2.2.tb
      clear A4 hb4 HS1
      rcases hr1 with ⟨hk1, rfl⟩ | ⟨hk1, rfl⟩
      · clear hk1
        go_wp2_with fail
        refine Calls.mono HS2.out ?_
        rintro e w5 ⟨hr2, hb5⟩
        have HB5 : Hid (Below w.heap.size w w5) := HB4.out.trans (hb5.mono HB4.out.size)
        clear hb5 HS2
        rcases hr2 with ⟨hk2, rfl⟩ | ⟨hk2, rfl⟩
        · clear hk2
          go_wp2
          go_ret
          exact ⟨rfl, HB5.out⟩
        · clear hk2
          go_wp2
          go_ret
          exact ⟨rfl, HB5.out⟩
      · have HK1 : Hid (okS h N x = true) := hk1
        have HT : Hid (∀ T, showT h N x = T → showT h N x = T) := fun _ e => e
        obtain ⟨T1, hT1⟩ : ∃ T, T = showT h N x := ⟨_, rfl⟩
        rw [← hT1]
        have HT1 : Hid (T1 = showT h N x) := hT1
        clear hk1 HT hT1
        go_wp2_with fail
        refine Calls.mono HS2.out ?_
        rintro e w5 ⟨hr2, hb5⟩
        have HB5 : Hid (Below w.heap.size w w5) := HB4.out.trans (hb5.mono HB4.out.size)
        clear hb5 HS2
        rcases hr2 with ⟨hk2, rfl⟩ | ⟨hk2, rfl⟩
        · clear hk2
          go_wp2
          go_ret
          exact ⟨rfl, HB5.out⟩
        · have HK2 : Hid (okS g N y = true) := hk2
          obtain ⟨T2, hT2⟩ : ∃ T, T = showT g N y := ⟨_, rfl⟩
          rw [← hT2]
          have HT2 : Hid (T2 = showT g N y) := hT2
          have fx : fitsB h x = true := by have := HK1.out; unfold okS at this; rw [Bool.and_eq_true] at this; exact this.1
          have fy : fitsB g y = true := by have := hk2; unfold okS at this; rw [Bool.and_eq_true] at this; exact this.1
          have HFF : Hid (fitsB h x = true ∧ fitsB g y = true) := ⟨fx, fy⟩
          have A5 := HA.out w5 HB5.out
          have HL1 : Hid _ := alike_any h g x y ra rb ca cb w5 (by omega) (by omega) A5.1 A5.2.1 HXY.out.1 HXY.out.2.1 A5.2.2.2.tab
          have HE1 : Hid (alikeB h x g y = decide (T1 = T2)) := by
            show _ = _
            rw [HT1.out, HT2.out]
            exact one_text (by omega) (by omega) HXY.out.2.2.1 HXY.out.2.2.2 HXY.out.1 HXY.out.2.1 HK1.out HK2.out
          clear hk2 hT2 fx fy A5
          go_wp2_with fail
          refine Calls.mono HL1.out ?_
          rintro e w6 ⟨hr3, hb6⟩
          have HB6 : Hid (Below w.heap.size w w6) := HB5.out.trans (hb6.mono HB5.out.size)
          have A6 := HA.out w6 HB6.out
          have HL2 : Hid _ := alike_any g h y x rb ra cb ca w6 (by omega) (by omega) A6.2.1 A6.1 HXY.out.2.1 HXY.out.1 A6.2.2.2.tab
          rcases hr3 with ⟨h3, _⟩ | ⟨_, rfl⟩
          · rw [HFF.out.1, HFF.out.2] at h3; cases h3
          rw [HE1.out]
          clear A6 hb6 HL1
          go_wp2_with fail
          refine Calls.mono HL2.out ?_
          rintro e w7 ⟨hr4, hb7⟩
          have HB7 : Hid (Below w.heap.size w w7) := HB6.out.trans (hb7.mono HB6.out.size)
          have A7 := HA.out w7 HB7.out
          have HL3 : Hid _ := alike_any h h x x ra ra ca ca w7 (by omega) (by omega) A7.1 A7.1 HXY.out.1 HXY.out.1 A7.2.2.2.tab
          rcases hr4 with ⟨h4, _⟩ | ⟨_, rfl⟩
          · rw [HFF.out.1, HFF.out.2] at h4; cases h4
          rw [alike_comm, HE1.out]
          clear A7 hb7 HL2
          go_wp2_with fail
          refine Calls.mono HL3.out ?_
          rintro e w8 ⟨hr5, hb8⟩
          have HB8 : Hid (Below w.heap.size w w8) := HB7.out.trans (hb8.mono HB7.out.size)
          rcases hr5 with ⟨h5, _⟩ | ⟨_, rfl⟩
          · rw [HFF.out.1] at h5; cases h5
          rw [alike_self]
          clear hb8 HL3
          by_cases hTT : T1 = T2
          · have d1 : decide (T1 = T2) = true := decide_eq_true hTT
            have hq : (T1 == T2) = true := by rw [hTT]; simp
            rw [d1]
            clear hTT d1
            go_wp2
            go_ret
            exact ⟨rfl, HB8.out⟩
          · have d1 : decide (T1 = T2) = false := decide_eq_false hTT
            have hq : (T1 == T2) = false := by rw [beq_eq_false_iff_ne]; exact hTT
            rw [d1]
            clear d1 hTT
            go_wp2
            go_ret
            exact ⟨rfl, HB8.out⟩
end Go.Proofs.YtejmoopgfnjaaaaDoor
