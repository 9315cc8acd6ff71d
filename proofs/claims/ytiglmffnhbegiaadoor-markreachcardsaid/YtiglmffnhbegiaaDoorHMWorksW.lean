/- The first example, walked; MarkNumbers. -/
import Derived.Test.YtiglmffnhbegiaaDoorHMWorks
namespace Go.Proofs.YtiglmffnhbegiaaDoor
open Go.RowKit

theorem wr5 {w : World} : WR (w.alloc (.cells #[.int .u64 (mkW 8 0), .int .u64 (mkW 5 5), .int .u64 (mkW 8 0), .int .u64 (mkW 8 4), .int .u64 (mkW 8 9)] 29)) (some ⟨w.heap.size, 0, none⟩) ws5 := by
  refine ⟨w.heap.size, 0, .inr rfl, fun j x hx => ⟨by rw [World.size_alloc]; omega, ?_, ?_⟩⟩
  · rw [Nat.zero_add]
    refine new_cell _ _ _ j _ ?_
    have : (ws5.map (Value.int .u64))[j]? = some (.int .u64 x) := by rw [List.getElem?_map, hx]; rfl
    exact this
  · have := List.mem_of_getElem? hx
    unfold ws5 at this
    simp at this
    rcases this with h | h | h | h | h <;> (rw [h]; exact mkW_rng _ _)
theorem rx_new {w : World} (l : List Int) : RX (Value.int .i64) (w.alloc (.cells (iL l).toArray 3)) (some ⟨w.heap.size, 0, none⟩) l := by
  refine ⟨w.heap.size, 0, .inr rfl, fun j x hx => ⟨by rw [World.size_alloc]; omega, ?_⟩⟩
  rw [Nat.zero_add]
  refine new_cell _ _ _ j _ ?_
  show (iL l)[j]? = _
  rw [List.getElem?_map, hx]; rfl
theorem rx_below {w w' : World} {ra : Option Addr} {l : List Int} (h : RX (Value.int .i64) w ra l) (hb : Below w.heap.size w w') : RX (Value.int .i64) w' ra l := h.below hb
set_option maxRecDepth 100000 in
set_option maxHeartbeats 16000000 in
theorem works_any (w : World) (hT : Tab w) : Calls Tryd.prog 6 #[] w fun e w' => e = .returned (.bool true) ∧ Below w.heap.size w w' := by
  have HT : Hid (Tab w) := hT
  clear hT
  have qP : ∀ (g : Nat) (W : World), (binOp .eql 32 (.pointer (some ⟨g, 0, none⟩)) (.pointer none)).run Tryd.prog W = .ok (.bool false) W := fun g W => by simp [go_sem]
  have qM : ∀ (g : Nat) (W : World), (binOp .eql 36 (.pointer (some ⟨g, 0, none⟩)) (.pointer none)).run Tryd.prog W = .ok (.bool false) W := fun g W => by simp [go_sem]
  go_enter Tryd.func6, Tryd.ntmps6
  go_wp2_with fail
  refine Calls.mono (new_any 5 w (by decide) (by decide)) ?_
  rintro e w1 ⟨hb, ab, rfl, c1, b1, l1, l2, _⟩
  have HN1 : Hid (CN w w1 hb ab (List.replicate 5 c0)) := ⟨c1, b1, l1, l2⟩
  have HT1 : Hid (Tab w1) := HT.out.below b1
  clear c1 b1 l1 l2
  go_wp2_with fail
  refine Calls.mono (int_any 5 w1 HT1.out) ?_
  rintro e w' ⟨rfl, hw'⟩
  rw [hw']
  clear hw'
  go_wp2_with fail
  refine Calls.mono (make_any 1 0 w1 (by decide) (by decide) HT1.out) ?_
  rintro e w' ⟨rfl, hw'⟩
  rw [hw']
  clear hw'
  go_wp2_with fail
  refine Calls.mono (ref_any 1 w1 HT1.out) ?_
  rintro e w' ⟨rfl, hw'⟩
  rw [hw']
  clear hw'
  go_wp2_with fail
  refine Calls.mono (ref_any 2 w1 HT1.out) ?_
  rintro e w' ⟨rfl, hw'⟩
  rw [hw']
  clear hw'
  go_wp2_with fail
  refine Calls.mono (hmake_any 0 y0 HN1.out.c y0_ok) ?_
  rintro e w2 ⟨rfl, hx⟩
  have HN2 : Hid (CN w w2 hb ab (makeH (List.replicate 5 c0) 0 y0)) := HN1.out.ex hx
  clear hx HN1 HT1
  go_wp2_with fail
  refine Calls.mono (hmake_any 1 y1 HN2.out.c y1_ok) ?_
  rintro e w3 ⟨rfl, hx⟩
  have HN3 : Hid (CN w w3 hb ab (makeH (makeH (List.replicate 5 c0) 0 y0) 1 y1)) := HN2.out.ex hx
  have HT3 : Hid (Tab w3) := HT.out.below HN3.out.b
  clear hx HN2
  go_wp2_with fail
  refine Calls.mono (ref_any 0 w3 HT3.out) ?_
  rintro e w' ⟨rfl, hw'⟩
  rw [hw']
  clear hw'
  go_wp2_with fail
  refine Calls.mono (ref_any 2 w3 HT3.out) ?_
  rintro e w' ⟨rfl, hw'⟩
  rw [hw']
  clear hw'
  go_wp2_with fail
  refine Calls.mono (hmake_any 2 y2 HN3.out.c y2_ok) ?_
  rintro e w4 ⟨rfl, hx⟩
  have N4 := HN3.out.ex hx
  rw [ex_make] at N4
  have HN4 : Hid (CN w w4 hb ab h0) := N4
  clear hx HN3 HT3 N4
  go_wp2_with fail
  refine Calls.mono (markNew_any hb w4) ?_
  rintro e w5 ⟨rfl, hw5⟩
  have N5 := MN.new HN4.out
  rw [← hw5] at N5
  generalize w4.heap.size = mb at N5 ⊢
  have HN5 : Hid (MN w w5 mb hb ab (.slice none 0 0) [] h0) := N5
  have HT5 : Hid (Tab w5) := HT.out.below N5.b
  clear hw5 N5 HN4
  go_wp2_with fail
  refine Calls.mono (ref_any 0 w5 HT5.out) ?_
  rintro e w' ⟨rfl, hw'⟩
  rw [hw']
  clear hw'
  go_wp2_with fail
  refine Calls.mono (ref_any 0 w5 HT5.out) ?_
  rintro e w' ⟨rfl, hw'⟩
  rw [hw']
  clear hw'
  go_wp2_with fail
  refine Calls.mono (ref_any 4 w5 HT5.out) ?_
  rintro e w' ⟨rfl, hw'⟩
  rw [hw']
  clear hw'
  go_wp2_with fail
  refine Calls.mono (ref_any 9 w5 HT5.out) ?_
  rintro e w' ⟨rfl, hw'⟩
  rw [hw']
  clear hw'
  have ba : Below w5.heap.size w5 (w5.alloc (.cells #[.int .u64 (mkW 8 0), .int .u64 (mkW 5 5), .int .u64 (mkW 8 0), .int .u64 (mkW 8 4), .int .u64 (mkW 8 9)] 29)) := (Below.refl _ _).alloc (Nat.le_refl _) _
  have HN6 : Hid _ := HN5.out.below ba
  have HC : Hid _ := shadeM_any ws5 (some ⟨w5.heap.size, 0, none⟩) 5 _ HN6.out.m wr5 (by decide) (by decide) (HT5.out.below ba)
  clear ba
  go_wp2_with fail
  refine Calls.mono HC.out ?_
  rintro e w7 ⟨r7, c7, rv7, rfl, o7, s7, d7⟩
  have N7 := HN6.out.step s7
  rw [ex_1] at o7 N7 d7 ⊢
  have HN7 : Hid (MN w w7 mb hb ab rv7 [0] h1) := N7
  have HO7 : Hid _ := o7
  have HD7 : Hid _ := d7
  have HT7 : Hid (Tab w7) := HT.out.below N7.b
  clear o7 s7 N7 d7 HN6 HN5 HT5 HC
  go_wp2_with fail
  refine Calls.mono (scan_any w7 HN7.out.m (by decide) HT7.out) ?_
  rintro e w8 ⟨r8, c8, rv8, rfl, o8, s8, d8⟩
  have N8 := HN7.out.step s8
  obtain ⟨o7, d7⟩ := s8.own HN7.out.m HO7.out HD7.out
  rw [ex_2] at o8 N8 d8 ⊢
  have HN8 : Hid (MN w w8 mb hb ab rv8 [1, 2] h2) := N8
  have HO7' : Hid _ := o7
  have HD7' : Hid _ := d7
  have HO8 : Hid _ := o8
  have HD8 : Hid _ := d8
  have HT8 : Hid (Tab w8) := HT.out.below N8.b
  clear o7 d7 o8 s8 N8 d8 HN7 HO7 HD7 HT7
  go_wp2_with fail
  refine Calls.mono (scan_any w8 HN8.out.m (by decide) HT8.out) ?_
  rintro e w9 ⟨r9, c9, rv9, rfl, o9, s9, d9⟩
  have N9 := HN8.out.step s9
  obtain ⟨o7, _⟩ := s9.own HN8.out.m HO7'.out HD7'.out
  obtain ⟨o8, _⟩ := s9.own HN8.out.m HO8.out HD8.out
  rw [ex_3] at N9 ⊢
  have HN9 : Hid (MN w w9 mb hb ab rv9 ([2] ++ []) h3) := N9
  have HX7 : Hid (RX (Value.int .i64) w9 r7 [0]) := own_rx o7 rfl
  have HX8 : Hid (RX (Value.int .i64) w9 r8 [1, 2]) := own_rx o8 rfl
  clear o7 o8 o9 s9 d9 N9 HN8 HO7' HD7' HO8 HD8 HT8
  have ba : Below w9.heap.size w9 (w9.alloc (.cells #[.int .i64 0] 3)) := (Below.refl _ _).alloc (Nat.le_refl _) _
  have HBa : Hid (Below w9.heap.size w9 (w9.alloc (.cells #[.int .i64 0] 3))) := ba
  have HC1 : Hid _ := sameI_any [0] [0] r7 (some ⟨w9.heap.size, 0, none⟩) c7 1 _ (by decide) (by decide) (HX7.out.below ba) (rx_new (w := w9) [0])
  clear ba
  go_wp2_with fail
  refine Calls.mono HC1.out ?_
  rintro e w10 ⟨rfl, b10⟩
  have B10 : Below w9.heap.size w9 w10 := HBa.out.trans (b10.mono HBa.out.size)
  have HN10 : Hid (MN w w10 mb hb ab rv9 ([2] ++ []) h3) := HN9.out.below B10
  have ba : Below w10.heap.size w10 (w10.alloc (.cells #[.int .i64 1, .int .i64 2] 3)) := (Below.refl _ _).alloc (Nat.le_refl _) _
  have HBa2 : Hid (Below w10.heap.size w10 (w10.alloc (.cells #[.int .i64 1, .int .i64 2] 3))) := ba
  have HC2 : Hid _ := sameI_any [1, 2] [1, 2] r8 (some ⟨w10.heap.size, 0, none⟩) c8 2 _ (by decide) (by decide) ((HX8.out.below B10).below ba) (rx_new (w := w10) [1, 2])
  clear ba b10 B10 HN9 HC1
  go_wp2_with fail
  refine Calls.mono HC2.out ?_
  rintro e w11 ⟨rfl, b11⟩
  have B11 : Below w10.heap.size w10 w11 := HBa2.out.trans (b11.mono HBa2.out.size)
  have HN11 : Hid (MN w w11 mb hb ab rv9 ([2] ++ []) h3) := HN10.out.below B11
  clear b11 B11 HN10 HC2
  go_wp2_with fail
  refine Calls.mono (head_any 0 HN11.out.m.c) ?_
  rintro e w12 ⟨rfl, b12⟩
  rw [ex_4]
  have HB : Hid (Below w.heap.size w w12) := HN11.out.b.trans (b12.mono HN11.out.b.size)
  clear b12
  go_wp2_with fail
  go_ret
  exact ⟨rfl, HB.out⟩
end Go.Proofs.YtiglmffnhbegiaaDoor
