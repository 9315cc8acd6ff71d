/- known, walked. -/
import Derived.Test.YtdcmkifljcdmmaaGreatDoorGJ
namespace Go.Proofs.YtdcmkifljcdmmaaGreatDoor
open Go.RowKit

theorem rx_new {α : Type} (enc : α → Value) (w : World) (l : List α) (t : TypeId) : RX enc (w.alloc (.cells (l.map enc).toArray t)) (some ⟨w.heap.size, 0, none⟩) l :=
  ⟨w.heap.size, 0, .inr rfl, fun j x hx => ⟨by simp, by rw [Nat.zero_add]; exact new_cell _ _ _ j _ (by simp [hx])⟩⟩
theorem same_b {w : World} {gr : Nat} (h : RX Value.bool w (some ⟨gr, 0, none⟩) [true, false, true, true]) : Calls Tryz.prog 25 #[.slice (some ⟨gr, 0, none⟩) 4 4, .slice (some ⟨w.heap.size, 0, none⟩) 4 4] (w.alloc (.cells #[.bool true, .bool false, .bool true, .bool true] 4)) fun e w' => e = .returned (.bool true) ∧ Below w.heap.size w w' := by
  refine (sameB_any [true, false, true, true] [true, false, true, true] _ _ 4 4 _ (by decide) (by decide) (h.below (al_below w _)) (rx_new Value.bool w [true, false, true, true] 4)).mono ?_
  rintro e w' ⟨he, hb⟩
  exact ⟨he, (al_below w _).trans (hb.mono (al_below w _).size)⟩
theorem same_i {w : World} {rv : Option Addr} {cv : Nat} (h : RX (Value.int .i64) w rv [0, 2, 3]) : Calls Tryz.prog 18 #[.slice rv 3 cv, .slice (some ⟨w.heap.size, 0, none⟩) 3 3] (w.alloc (.cells #[.int .i64 0, .int .i64 2, .int .i64 3] 3)) fun e w' => e = .returned (.bool true) ∧ Below w.heap.size w w' := by
  refine (sameI_any [0, 2, 3] [0, 2, 3] _ _ cv 3 _ (by decide) (by decide) (h.below (al_below w _)) (rx_new (Value.int .i64) w [0, 2, 3] 3)).mono ?_
  rintro e w' ⟨he, hb⟩
  exact ⟨he, (al_below w _).trans (hb.mono (al_below w _).size)⟩
set_option maxRecDepth 100000 in
set_option maxHeartbeats 16000000 in
theorem known_any (w : World) (hT : Tab w) :
    Calls Tryz.prog 5 #[] w fun e w' => e = .returned (.bool true) ∧ Below w.heap.size w w' := by
  have HT : Hid (Tab w) := hT
  clear hT
  go_enter Tryz.func5, Tryz.ntmps5
  go_wp2_with fail
  refine Calls.mono (example_any w) ?_
  rintro e w1 ⟨⟨g, hg, rfl, hw1⟩, hb1⟩
  have HX1 : Hid (ExW w1 g) := ⟨hw1, HT.out.below hb1⟩
  have HB1 : Hid (Below w.heap.size w w1) := hb1
  clear hw1 hb1 HT
  go_wp2_with fail
  refine Calls.mono (refRef_any 0 w1) ?_
  rintro e w9 ⟨rfl, hw9⟩
  rw [hw9, show mkW 8 0 = 8 from by kernel_rfl]
  clear hw9
  go_wp2_with fail
  refine Calls.mono (known_reach HX1.out) ?_
  rintro e w2 ⟨⟨gr, rfl, hr⟩, hb⟩
  have HX2 : Hid (ExW w2 g) := HX1.out.below hb
  have HR2 : Hid (RX Value.bool w2 (some ⟨gr, 0, none⟩) [true, false, true, true]) := hr
  have HB2 : Hid (Below w.heap.size w w2) := HB1.out.trans (hb.mono HB1.out.size)
  clear hr hb HX1 HB1
  go_wp2_with fail
  refine Calls.mono (known_order HX2.out) ?_
  rintro e w3 ⟨⟨ro, co, rfl, hr⟩, hb⟩
  have HX3 : Hid (ExW w3 g) := HX2.out.below hb
  have HR3 : Hid (RX Value.bool w3 (some ⟨gr, 0, none⟩) [true, false, true, true] ∧ RX (Value.int .i64) w3 ro [0, 2, 3]) := ⟨HR2.out.below hb, hr⟩
  have HB3 : Hid (Below w.heap.size w w3) := HB2.out.trans (hb.mono HB2.out.size)
  clear hr hb HX2 HB2 HR2
  go_wp2_with fail
  refine Calls.mono (known_form HX3.out) ?_
  rintro e w4 ⟨⟨g1, g2, rfl, hx, hr⟩, hb⟩
  have HX4 : Hid (ExW w4 g) := HX3.out.below hb
  have HR4 : Hid ((RX Value.bool w4 (some ⟨gr, 0, none⟩) [true, false, true, true] ∧ RX (Value.int .i64) w4 ro [0, 2, 3]) ∧ HX w4 (some ⟨g1, 0, none⟩) [⟨1, 0, 24, 1⟩, ⟨1, 0, 8, 40⟩, ⟨1, 0, 21, 1⟩] ∧ RX (Value.int .u64) w4 (some ⟨g2, 0, none⟩) [8]) := ⟨⟨HR3.out.1.below hb, HR3.out.2.below hb⟩, hx, hr⟩
  have HB4 : Hid (Below w.heap.size w w4) := HB3.out.trans (hb.mono HB3.out.size)
  clear hr hx hb HX3 HB3 HR3
  go_wp2_with fail
  refine Calls.mono (known_path HX4.out) ?_
  rintro e w5 ⟨⟨gp, cp, rfl, hr⟩, hb⟩
  have HX5 : Hid (ExW w5 g) := HX4.out.below hb
  have HR5 : Hid (((RX Value.bool w5 (some ⟨gr, 0, none⟩) [true, false, true, true] ∧ RX (Value.int .i64) w5 ro [0, 2, 3]) ∧ HX w5 (some ⟨g1, 0, none⟩) [⟨1, 0, 24, 1⟩, ⟨1, 0, 8, 40⟩, ⟨1, 0, 21, 1⟩] ∧ RX (Value.int .u64) w5 (some ⟨g2, 0, none⟩) [8]) ∧ RX (Value.int .i64) w5 (some ⟨gp, 0, none⟩) [0, 2, 3]) := ⟨⟨⟨HR4.out.1.1.below hb, HR4.out.1.2.below hb⟩, HR4.out.2.1.below hb, HR4.out.2.2.below hb⟩, hr⟩
  have HB5 : Hid (Below w.heap.size w w5) := HB4.out.trans (hb.mono HB4.out.size)
  clear hr hb HX4 HB4 HR4
  go_wp2_with fail
  refine Calls.mono (known_none HX5.out) ?_
  rintro e w6 ⟨rfl, hb⟩
  have HX6 : Hid (ExW w6 g) := HX5.out.below hb
  have HR6 : Hid (((RX Value.bool w6 (some ⟨gr, 0, none⟩) [true, false, true, true] ∧ RX (Value.int .i64) w6 ro [0, 2, 3]) ∧ HX w6 (some ⟨g1, 0, none⟩) [⟨1, 0, 24, 1⟩, ⟨1, 0, 8, 40⟩, ⟨1, 0, 21, 1⟩] ∧ RX (Value.int .u64) w6 (some ⟨g2, 0, none⟩) [8]) ∧ RX (Value.int .i64) w6 (some ⟨gp, 0, none⟩) [0, 2, 3]) := ⟨⟨⟨HR5.out.1.1.1.below hb, HR5.out.1.1.2.below hb⟩, HR5.out.1.2.1.below hb, HR5.out.1.2.2.below hb⟩, HR5.out.2.below hb⟩
  have HB6 : Hid (Below w.heap.size w w6) := HB5.out.trans (hb.mono HB5.out.size)
  clear hb HX5 HB5 HR5
  go_wp2_with fail
  refine Calls.mono (known_check HX6.out) ?_
  rintro e w7 ⟨rfl, hb⟩
  have HR7 : Hid (((RX Value.bool w7 (some ⟨gr, 0, none⟩) [true, false, true, true] ∧ RX (Value.int .i64) w7 ro [0, 2, 3]) ∧ HX w7 (some ⟨g1, 0, none⟩) [⟨1, 0, 24, 1⟩, ⟨1, 0, 8, 40⟩, ⟨1, 0, 21, 1⟩] ∧ RX (Value.int .u64) w7 (some ⟨g2, 0, none⟩) [8]) ∧ RX (Value.int .i64) w7 (some ⟨gp, 0, none⟩) [0, 2, 3]) := ⟨⟨⟨HR6.out.1.1.1.below hb, HR6.out.1.1.2.below hb⟩, HR6.out.1.2.1.below hb, HR6.out.1.2.2.below hb⟩, HR6.out.2.below hb⟩
  have HB7 : Hid (Below w.heap.size w w7) := HB6.out.trans (hb.mono HB6.out.size)
  clear hb HX6 HB6 HR6
  go_wp2_with fail
  refine Calls.mono (same_b HR7.out.1.1.1) ?_
  rintro e w8 ⟨rfl, hb⟩
  have HR8 : Hid ((RX (Value.int .i64) w8 ro [0, 2, 3] ∧ HX w8 (some ⟨g1, 0, none⟩) [⟨1, 0, 24, 1⟩, ⟨1, 0, 8, 40⟩, ⟨1, 0, 21, 1⟩] ∧ RX (Value.int .u64) w8 (some ⟨g2, 0, none⟩) [8]) ∧ RX (Value.int .i64) w8 (some ⟨gp, 0, none⟩) [0, 2, 3]) := ⟨⟨HR7.out.1.1.2.below hb, HR7.out.1.2.1.below hb, HR7.out.1.2.2.below hb⟩, HR7.out.2.below hb⟩
  have HB8 : Hid (Below w.heap.size w w8) := HB7.out.trans (hb.mono HB7.out.size)
  clear hb HB7 HR7
  go_wp2_with fail
  refine Calls.mono (same_i HR8.out.1.1) ?_
  rintro e w10 ⟨rfl, hb⟩
  have HR10 : Hid ((HX w10 (some ⟨g1, 0, none⟩) [⟨1, 0, 24, 1⟩, ⟨1, 0, 8, 40⟩, ⟨1, 0, 21, 1⟩] ∧ RX (Value.int .u64) w10 (some ⟨g2, 0, none⟩) [8]) ∧ RX (Value.int .i64) w10 (some ⟨gp, 0, none⟩) [0, 2, 3]) := ⟨⟨HR8.out.1.2.1.below hb, HR8.out.1.2.2.below hb⟩, HR8.out.2.below hb⟩
  have HB10 : Hid (Below w.heap.size w w10) := HB8.out.trans (hb.mono HB8.out.size)
  clear hb HB8 HR8
  go_wp2_with fail
  refine Calls.mono (same_i HR10.out.2) ?_
  rintro e w11 ⟨rfl, hb⟩
  have hx := HR10.out.1.1.below hb
  have hr := HR10.out.1.2.below hb
  have HB11 : Hid (Below w.heap.size w w11) := HB10.out.trans (hb.mono HB10.out.size)
  clear hb HB10 HR10
  obtain ⟨b, o, h1, h2⟩ := hx
  have e1 : (some ⟨g1, 0, none⟩ : Option Addr) = some ⟨b, o, none⟩ := h1.resolve_left (by decide)
  cases e1
  have l0 := (h2 0 _ rfl).1
  have a02 := (h2 0 _ rfl).2.2.2.1
  have a13 := (h2 1 _ rfl).2.2.2.2
  obtain ⟨b', o', h1', h2'⟩ := hr
  have e1 : (some ⟨g2, 0, none⟩ : Option Addr) = some ⟨b', o', none⟩ := h1'.resolve_left (by decide)
  cases e1
  obtain ⟨l2, r0⟩ := h2' 0 _ rfl
  have c02 : w11.cell? ⟨g1, 2, none⟩ = some (.int .u64 24) := a02
  have c13 : w11.cell? ⟨g1, 7, none⟩ = some (.int .u64 40) := a13
  have c20 : w11.cell? ⟨g2, 0, none⟩ = some (.int .u64 8) := r0
  have H1 : Hid (∀ w, Calls Tryz.prog 20 #[.int .i64 1] w fun e w' => e = .returned (.int .u64 24) ∧ w' = w) := fun w => refRef_any 1 w
  have H2 : Hid (∀ w, Calls Tryz.prog 20 #[.int .i64 2] w fun e w' => e = .returned (.int .u64 40) ∧ w' = w) := fun w => refRef_any 2 w
  clear h1 h2 h1' h2' a02 a13 r0
  go_wp2_with fail
  go_quiet (first | (go_at_call_of 20 (Value.int IntKind.i64 1); exact Calls.quiet_of_same (H1.out _)) | (go_at_call_of 20 (Value.int IntKind.i64 2); exact Calls.quiet_of_same (H2.out _)))
  go_wp2
  go_ret
  exact ⟨rfl, below_drewM HB11.out _⟩
end Go.Proofs.YtdcmkifljcdmmaaGreatDoor
