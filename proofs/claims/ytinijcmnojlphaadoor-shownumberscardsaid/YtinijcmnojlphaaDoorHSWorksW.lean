/- works; ShowNumbers. -/
import Derived.Test.YtinijcmnojlphaaDoorHSWorks
namespace Go.Proofs.YtinijcmnojlphaaDoor
open Go.RowKit Go.Maps Go.ChangeMaps

theorem keepQ {W W' : World} {hb : Nat} {u0 u1 u2 u3 : Value} (h : Below W.heap.size W W') (hs : (W.cell? ⟨hb, 4, none⟩ = some u0 ∧ W.cell? ⟨hb, 5, none⟩ = some u1 ∧ W.cell? ⟨hb, 6, none⟩ = some u2 ∧ W.cell? ⟨hb, 7, none⟩ = some u3) ∧ hb < W.heap.size) : (W'.cell? ⟨hb, 4, none⟩ = some u0 ∧ W'.cell? ⟨hb, 5, none⟩ = some u1 ∧ W'.cell? ⟨hb, 6, none⟩ = some u2 ∧ W'.cell? ⟨hb, 7, none⟩ = some u3) ∧ hb < W'.heap.size :=
  have e := fun q => h.cell (p := ⟨hb, q, none⟩) hs.2
  ⟨⟨(e 4).trans hs.1.1, (e 5).trans hs.1.2.1, (e 6).trans hs.1.2.2.1, (e 7).trans hs.1.2.2.2⟩, Nat.lt_of_lt_of_le hs.2 h.size⟩
set_option maxRecDepth 100000 in
set_option maxHeartbeats 16000000 in
theorem works_any (w : World) (hG : Gl w) : Calls Tryd.prog 4 #[] w fun e w' => e = .returned (.bool true) ∧ Below w.heap.size w w' := by
  have HG : Hid (Gl w) := hG
  have H10 : Hid _ := made_of 1 0 1 w (by omega) (by omega) hG.tab (by kernel_rfl) (by kernel_rfl)
  have H60 : Hid _ := made_of 6 0 6 w (by omega) (by omega) hG.tab (by kernel_rfl) (by kernel_rfl)
  have H61 : Hid _ := made_of 6 1 22 w (by omega) (by omega) hG.tab (by kernel_rfl) (by kernel_rfl)
  clear hG
  go_enter Tryd.func4, Tryd.ntmps4
  go_wp2_with fail
  refine Calls.mono H10.out ?_
  rintro e w1 ⟨rfl, hw1⟩
  rw [hw1]
  clear hw1 H10
  go_wp2_with fail
  refine Calls.mono H60.out ?_
  rintro e w1 ⟨rfl, hw1⟩
  rw [hw1]
  clear hw1 H60
  go_wp2_with fail
  refine Calls.mono H61.out ?_
  rintro e w1 ⟨rfl, hw1⟩
  rw [hw1]
  clear hw1 H61
  have a1 := (Below.refl _ w).alloc (Nat.le_refl w.heap.size) (.cells #[S [97], S [98]] 9)
  have n1 := heap_alloc_new w (.cells #[S [97], S [98]] 9)
  go_upto_region 5 with fail
  obtain ⟨w1, hw1⟩ : ∃ w1, w1 = w.alloc (.cells #[S [97], S [98]] 9) := ⟨_, rfl⟩
  rw [← hw1] at a1 n1 ⊢
  have HG1 : Hid (Gl w1) := HG.out.below a1
  have HB1 : Hid (Below w.heap.size w w1) := a1
  have HN1 : Hid (w1.heap[w.heap.size]? = some (.cells #[S [97], S [98]] 9 (0, 0))) := n1
  obtain ⟨nb, hnb⟩ : ∃ nb, nb = w.heap.size := ⟨_, rfl⟩
  rw [← hnb] at HN1 ⊢
  have HR0 : Hid _ := rf_of 0 8 w1 HG1.out.tab (by kernel_rfl)
  have HR1 : Hid _ := rf_of 1 24 w1 HG1.out.tab (by kernel_rfl)
  clear hw1 a1 n1 HG hnb
  go_wp2_with fail
  refine Calls.mono HR0.out ?_
  rintro e wx ⟨rfl, hwx⟩
  rw [hwx]
  clear hwx HR0
  go_wp2_with fail
  refine Calls.mono HR1.out ?_
  rintro e wx ⟨rfl, hwx⟩
  rw [hwx]
  clear hwx HR1
  have a2 := (Below.refl _ w1).alloc (Nat.le_refl w1.heap.size) (.cells #[.int .u8 1, .int .u8 0, .int .u64 6, .int .u64 8] 36)
  have HS1 : Hid (Calls Tryd.prog 7 #[.slice (some ⟨w1.heap.size, 0, none⟩) 1 1, .slice (some ⟨nb, 0, none⟩) 2 2, .int .u64 8] (w1.alloc (.cells #[.int .u8 1, .int .u8 0, .int .u64 6, .int .u64 8] 36)) fun e w' => e = .returned (.tuple #[S [35, 48, 61, 40, 97, 32, 46, 32, 35, 48, 35, 41], .int .i64 0]) ∧ Below w1.heap.size w1 w') := (show1 _ _ 1 2 _ (HG1.out.below a2) (hr1 (heap_alloc_new _ _)) ((tx0 HN1.out).below a2)).mono fun e w' hh => ⟨hh.1, a2.trans (hh.2.mono a2.size)⟩
  clear a2
  go_wp2_with fail
  refine Calls.mono HS1.out ?_
  rintro e w2 ⟨rfl, hb2⟩
  have HG2 : Hid (Gl w2) := HG1.out.below hb2
  have HB2 : Hid (Below w.heap.size w w2) := HB1.out.trans (hb2.mono HB1.out.size)
  have HN2 : Hid (w2.heap[nb]? = some (.cells #[S [97], S [98]] 9 (0, 0))) := (hb2.block nb (heap_lt HN1.out)).trans HN1.out
  clear hb2 HG1 HB1 HN1 HS1
  have a3 := (Below.refl _ w2).alloc (Nat.le_refl w2.heap.size) (.cells #[.int .u8 1, .int .u8 0, .int .u64 24, .int .u64 24, .int .u8 1, .int .u8 0, .int .u64 22, .int .u64 1] 36)
  have n3 := heap_alloc_new w2 (.cells #[.int .u8 1, .int .u8 0, .int .u64 24, .int .u64 24, .int .u8 1, .int .u8 0, .int .u64 22, .int .u64 1] 36)
  go_upto_region 9 with fail
  obtain ⟨w3, hw3⟩ : ∃ w3, w3 = w2.alloc (.cells #[.int .u8 1, .int .u8 0, .int .u64 24, .int .u64 24, .int .u8 1, .int .u8 0, .int .u64 22, .int .u64 1] 36) := ⟨_, rfl⟩
  rw [← hw3] at a3 n3 ⊢
  have HG3 : Hid (Gl w3) := HG2.out.below a3
  have HB3 : Hid (Below w.heap.size w w3) := HB2.out.trans (a3.mono HB2.out.size)
  have HN3 : Hid (w3.heap[nb]? = some (.cells #[S [97], S [98]] 9 (0, 0))) := (a3.block nb (heap_lt HN2.out)).trans HN2.out
  obtain ⟨hb, hhb⟩ : ∃ hb, hb = w2.heap.size := ⟨_, rfl⟩
  rw [← hhb] at n3 ⊢
  have HH3 : Hid (w3.heap[hb]? = some (.cells #[.int .u8 1, .int .u8 0, .int .u64 24, .int .u64 24, .int .u8 1, .int .u8 0, .int .u64 22, .int .u64 1] 36 (0, 0))) := n3
  clear hw3 a3 n3 hhb HG2 HB2 HN2
  have HS2 : Hid _ := show2 (some ⟨hb, 0, none⟩) (some ⟨nb, 0, none⟩) 2 2 w3 HG3.out (hr2 HH3.out) (tx0 HN3.out)
  go_wp2_with fail
  refine Calls.mono HS2.out ?_
  rintro e w4 ⟨rfl, hb4⟩
  have HG4 : Hid (Gl w4) := HG3.out.below hb4
  have HB4 : Hid (Below w.heap.size w w4) := HB3.out.trans (hb4.mono HB3.out.size)
  have HH4 : Hid (w4.heap[hb]? = some (.cells #[.int .u8 1, .int .u8 0, .int .u64 24, .int .u64 24, .int .u8 1, .int .u8 0, .int .u64 22, .int .u64 1] 36 (0, 0))) := (hb4.block hb (heap_lt HH3.out)).trans HH3.out
  clear hb4 HS2 HG3 HB3 HN3 HH3
  have q4 := heap_cell (j := 4) HH4.out rfl
  have q5 := heap_cell (j := 5) HH4.out rfl
  have q6 := heap_cell (j := 6) HH4.out rfl
  have q7 := heap_cell (j := 7) HH4.out rfl
  have lq := heap_lt HH4.out
  have HR2 : Hid (∀ W, Below w4.heap.size w4 W → Calls Tryd.prog 6 #[.int .i64 2] W fun e w' => e = .returned (.int .u64 40) ∧ w' = W) := fun W hW => rf_of 2 40 W (HG4.out.below hW).tab (by kernel_rfl)
  have hmx : Tryd.prog.follows .mixedOrders = true := by kernel_rfl
  go_upto_region 10 with fail
  go_region_held3 (fun wx => (wx.cell? ⟨hb, 4, none⟩ = some (.int .u8 1) ∧ wx.cell? ⟨hb, 5, none⟩ = some (.int .u8 0) ∧ wx.cell? ⟨hb, 6, none⟩ = some (.int .u64 22) ∧ wx.cell? ⟨hb, 7, none⟩ = some (.int .u64 1)) ∧ hb < wx.heap.size) (first | exact ⟨⟨q4, q5, q6, q7⟩, lq⟩ | exact keepQ (W := w4.drew) ((Below.refl _ _).alloc (Nat.le_refl _) _) ⟨⟨q4, q5, q6, q7⟩, lq⟩ | (go_keep; done))
    (first | (go_at_call 6; refine (HR2.out _ (Below.refl _ _).drew).mono ?_; rintro e w5 ⟨rfl, rfl⟩))
  have a5 : Below w4.heap.size w4 (w4.alloc (.cells #[.int .u8 1, .int .u8 0, .int .u64 24, .int .u64 40, .int .u8 1, .int .u8 0, .int .u64 22, .int .u64 1, .int .u8 1, .int .u8 0, .int .u64 22, .int .u64 1] 36)).drew := ((Below.refl _ w4).alloc (Nat.le_refl _) _).drew
  have n5 : (w4.alloc (.cells #[.int .u8 1, .int .u8 0, .int .u64 24, .int .u64 40, .int .u8 1, .int .u8 0, .int .u64 22, .int .u64 1, .int .u8 1, .int .u8 0, .int .u64 22, .int .u64 1] 36)).drew.heap[w4.heap.size]? = some (.cells #[.int .u8 1, .int .u8 0, .int .u64 24, .int .u64 40, .int .u8 1, .int .u8 0, .int .u64 22, .int .u64 1, .int .u8 1, .int .u8 0, .int .u64 22, .int .u64 1] 36 (0, 0)) := heap_alloc_new w4 _
  obtain ⟨w5, hw5⟩ : ∃ w5, w5 = (w4.alloc (.cells #[.int .u8 1, .int .u8 0, .int .u64 24, .int .u64 40, .int .u8 1, .int .u8 0, .int .u64 22, .int .u64 1, .int .u8 1, .int .u8 0, .int .u64 22, .int .u64 1] 36)).drew := ⟨_, rfl⟩
  rw [← hw5] at a5 n5 ⊢
  have HG5 : Hid (Gl w5) := HG4.out.below a5
  have HB5 : Hid (Below w.heap.size w w5) := HB4.out.trans (a5.mono HB4.out.size)
  have HH5 : Hid (HR w5 (some ⟨hb, 0, none⟩) h2) := (hr2 HH4.out).below a5
  have HK5 : Hid (HR w5 (some ⟨w4.heap.size, 0, none⟩) h3) := hr3 n5
  obtain ⟨gb, hgb⟩ : ∃ gb, gb = w4.heap.size := ⟨_, rfl⟩
  rw [← hgb] at HK5 ⊢
  clear hw5 a5 n5 hgb HG4 HB4 HH4 q4 q5 q6 q7 lq HR2
  have HA : Hid _ := alike0 (some ⟨hb, 0, none⟩) (some ⟨gb, 0, none⟩) 2 3 w5 HG5.out HH5.out HK5.out
  go_wp2_with fail
  refine Calls.mono HA.out ?_
  rintro e w6 ⟨rfl, hb6⟩
  have HB6 : Hid (Below w.heap.size w w6) := HB5.out.trans (hb6.mono HB5.out.size)
  have HZ : Hid (Calls Tryd.prog 7 #[.slice none 0 0, .slice none 0 0, .int .u64 8] w6 fun e w' => e = .returned (.tuple #[S [], .int .i64 110]) ∧ Below w6.heap.size w6 w') := show_bad [] [] 8 none none 0 0 w6 (by decide) ⟨0, 0, .inl rfl, fun j x hx => by simp at hx⟩ (rng_of (by omega) (by omega)) (HG5.out.below hb6).tab fit0
  clear hb6 HA HG5 HB5 HH5 HK5
  go_wp2_with fail
  refine Calls.mono HZ.out ?_
  rintro e w7 ⟨rfl, hb7⟩
  have HB7 : Hid (Below w.heap.size w w7) := HB6.out.trans (hb7.mono HB6.out.size)
  clear hb7 HZ HB6
  have z1 : ((⟨#[35, 48, 61, 40, 97, 32, 46, 32, 35, 48, 35, 41]⟩ : ByteArray) == ⟨#[35, 48, 61, 40, 97, 32, 46, 32, 35, 48, 35, 41]⟩) = true := by decide
  have z2 : ((⟨#[40, 35, 48, 61, 40, 98, 41, 32, 46, 32, 35, 48, 35, 41]⟩ : ByteArray) == ⟨#[40, 35, 48, 61, 40, 98, 41, 32, 46, 32, 35, 48, 35, 41]⟩) = true := by decide
  go_wp2
  go_ret
  exact ⟨rfl, HB7.out⟩
set_option maxRecDepth 100000 in
theorem showNumbers_walk (w : World) (hG : Gl w) : Calls Tryd.prog 3 #[] w fun e w' => e = .returned (.bool true) ∧ Below w.heap.size w w' := by
  have HW : Hid _ := works_any w hG
  clear hG
  go_enter Tryd.func3, Tryd.ntmps3
  go_wp2_with fail
  refine Calls.mono HW.out ?_
  rintro e w1 ⟨rfl, hb⟩
  have HB : Hid (Below w.heap.size w w1) := hb
  clear hb HW
  go_wp2
  go_ret
  exact ⟨rfl, HB.out⟩
end Go.Proofs.YtinijcmnojlphaaDoor
