/- The chapter's first and third examples. -/
import Derived.Test.YtdlnkdcgipaoeaaDoorHLCalls
namespace Go.Proofs.YtdlnkdcgipaoeaaDoor
open Go.RowKit

def kB0 : Bk := ⟨[], [⟨[], 0⟩, ⟨[], 0⟩], [4]⟩
def kB1 : Bk := ⟨[⟨[], false, 0, 0⟩], [⟨[], 0⟩, ⟨[], 0⟩], [4]⟩
def kB2 : Bk := ⟨[⟨[], false, 0, 0⟩, ⟨[], false, 0, 0⟩], [⟨[], 0⟩, ⟨[], 0⟩], [4]⟩
def kB3 : Bk := ⟨[⟨[], false, 0, 0⟩, ⟨[], false, 0, 0⟩, ⟨[], false, 0, 0⟩], [⟨[], 0⟩, ⟨[], 0⟩], [4]⟩
def kB4 : Bk := ⟨[⟨[], false, 0, 0⟩, ⟨[], false, 0, 0⟩, ⟨[], false, 0, 0⟩], [⟨[], 1⟩, ⟨[], 0⟩], [4]⟩
def kB5 : Bk := ⟨[⟨[], false, 0, 0⟩, ⟨[], false, 0, 0⟩, ⟨[], false, 0, 0⟩], [⟨[2], 1⟩, ⟨[], 0⟩], [4]⟩
def kB6 : Bk := ⟨[⟨[], false, 0, 0⟩, ⟨[], false, 0, 0⟩, ⟨[], false, 0, 0⟩], [⟨[2, 3], 1⟩, ⟨[], 0⟩], [4]⟩
def kB7 : Bk := ⟨[⟨[], false, 0, 0⟩, ⟨[], false, 0, 0⟩, ⟨[], false, 0, 0⟩], [⟨[3], 2⟩, ⟨[], 0⟩], [4]⟩
def kB8 : Bk := ⟨[⟨[], false, 0, 0⟩, ⟨[], true, 85, 0⟩, ⟨[], false, 0, 0⟩], [⟨[], 3⟩, ⟨[], 0⟩], [4]⟩
def kB9 : Bk := ⟨[⟨[], false, 0, 0⟩, ⟨[], true, 85, 0⟩, ⟨[], false, 0, 0⟩], [⟨[], 3⟩, ⟨[], 1⟩], [4]⟩
def kB10 : Bk := ⟨[⟨[], false, 0, 0⟩, ⟨[], true, 85, 0⟩, ⟨[], false, 0, 0⟩], [⟨[], 3⟩, ⟨[3], 1⟩], [4]⟩
def kB11 : Bk := ⟨[⟨[], false, 0, 0⟩, ⟨[], true, 85, 0⟩, ⟨[], false, 0, 0⟩], [⟨[1], 3⟩, ⟨[3], 1⟩], [4]⟩
def shB (B : Bk) : Bool := B.t.all (fun x => decide (x.row.length ≤ 100) && x.row.all (fun y => decide (y ≠ 0))) && B.l.all (fun x => decide (x.row.length ≤ 100) && x.row.all (fun y => decide (y ≠ 0)))
theorem sh_of {B : Bk} (h : shB B = true) : Sh B := by
  unfold shB at h
  rw [Bool.and_eq_true, List.all_eq_true, List.all_eq_true] at h
  refine ⟨fun x hx => ?_, fun x hx => ?_⟩
  · have := h.1 x hx
    rw [Bool.and_eq_true, List.all_eq_true] at this
    exact ⟨of_decide_eq_true this.1, fun y hy => of_decide_eq_true (this.2 y hy)⟩
  · have := h.2 x hx
    rw [Bool.and_eq_true, List.all_eq_true] at this
    exact ⟨of_decide_eq_true this.1, fun y hy => of_decide_eq_true (this.2 y hy)⟩
theorem new_0 : newB 2 1 = kB0 := by kernel_rfl
theorem end_8 : endM kB7 2 85 0 = (([3], 0), kB8) := by
  have h : endM kB7 2 85 0 = ((srt [3], 0), kB8) := by kernel_rfl
  rw [h, srt, List.mergeSort_singleton]
theorem kn_0 (w : World) (b : Nat) (F : Nat → Prop) (h : BB w b kB0 F) : Calls Tryd.prog 13 #[.pointer (some ⟨b, 0, none⟩)] w fun e w' => e = .returned (.tuple #[.int .i64 1, .int .i64 0]) ∧ BR b kB1 F w w' := by
  have := start_any h
  rw [show startM kB0 = ((1, 0), kB1) from by kernel_rfl] at this
  exact this
theorem kn_1 (w : World) (b : Nat) (F : Nat → Prop) (h : BB w b kB1 F) : Calls Tryd.prog 13 #[.pointer (some ⟨b, 0, none⟩)] w fun e w' => e = .returned (.tuple #[.int .i64 2, .int .i64 0]) ∧ BR b kB2 F w w' := by
  have := start_any h
  rw [show startM kB1 = ((2, 0), kB2) from by kernel_rfl] at this
  exact this
theorem kn_2 (w : World) (b : Nat) (F : Nat → Prop) (h : BB w b kB2 F) : Calls Tryd.prog 13 #[.pointer (some ⟨b, 0, none⟩)] w fun e w' => e = .returned (.tuple #[.int .i64 3, .int .i64 0]) ∧ BR b kB3 F w w' := by
  have := start_any h
  rw [show startM kB2 = ((3, 0), kB3) from by kernel_rfl] at this
  exact this
theorem kl_3_1_0 (w : World) (b : Nat) (F : Nat → Prop) (h : BB w b kB3 F) : Calls Tryd.prog 17 #[.pointer (some ⟨b, 0, none⟩), .int .i64 1, .int .i64 0] w fun e w' => e = .returned (.tuple #[.bool true, .int .i64 0]) ∧ BR b kB4 F w w' := by
  have := lock_any h (sh_of (B := kB3) (by kernel_rfl)) 1 0
  rw [show lockM kB3 1 0 = ((true, 0), kB4) from by kernel_rfl] at this
  exact this
theorem kl_4_2_0 (w : World) (b : Nat) (F : Nat → Prop) (h : BB w b kB4 F) : Calls Tryd.prog 17 #[.pointer (some ⟨b, 0, none⟩), .int .i64 2, .int .i64 0] w fun e w' => e = .returned (.tuple #[.bool false, .int .i64 0]) ∧ BR b kB5 F w w' := by
  have := lock_any h (sh_of (B := kB4) (by kernel_rfl)) 2 0
  rw [show lockM kB4 2 0 = ((false, 0), kB5) from by kernel_rfl] at this
  exact this
theorem kl_5_3_0 (w : World) (b : Nat) (F : Nat → Prop) (h : BB w b kB5 F) : Calls Tryd.prog 17 #[.pointer (some ⟨b, 0, none⟩), .int .i64 3, .int .i64 0] w fun e w' => e = .returned (.tuple #[.bool false, .int .i64 0]) ∧ BR b kB6 F w w' := by
  have := lock_any h (sh_of (B := kB5) (by kernel_rfl)) 3 0
  rw [show lockM kB5 3 0 = ((false, 0), kB6) from by kernel_rfl] at this
  exact this
theorem ku_6 (w : World) (b : Nat) (F : Nat → Prop) (h : BB w b kB6 F) : Calls Tryd.prog 25 #[.pointer (some ⟨b, 0, none⟩), .int .i64 1, .int .i64 0] w fun e w' => e = .returned (.tuple #[.int .i64 2, .int .i64 0]) ∧ BR b kB7 F w w' := by
  have := unlock_any h (sh_of (B := kB6) (by kernel_rfl)) 1 0
  rw [show unlockM kB6 1 0 = ((2, 0), kB7) from by kernel_rfl] at this
  exact this
theorem kl_8_3_0 (w : World) (b : Nat) (F : Nat → Prop) (h : BB w b kB8 F) : Calls Tryd.prog 17 #[.pointer (some ⟨b, 0, none⟩), .int .i64 3, .int .i64 0] w fun e w' => e = .returned (.tuple #[.bool false, .int .i64 191]) ∧ BR b kB8 F w w' := by
  have := lock_any h (sh_of (B := kB8) (by kernel_rfl)) 3 0
  rw [show lockM kB8 3 0 = ((false, 191), kB8) from by kernel_rfl] at this
  exact this
theorem kl_8_1_1 (w : World) (b : Nat) (F : Nat → Prop) (h : BB w b kB8 F) : Calls Tryd.prog 17 #[.pointer (some ⟨b, 0, none⟩), .int .i64 1, .int .i64 1] w fun e w' => e = .returned (.tuple #[.bool true, .int .i64 0]) ∧ BR b kB9 F w w' := by
  have := lock_any h (sh_of (B := kB8) (by kernel_rfl)) 1 1
  rw [show lockM kB8 1 1 = ((true, 0), kB9) from by kernel_rfl] at this
  exact this
theorem kl_9_3_1 (w : World) (b : Nat) (F : Nat → Prop) (h : BB w b kB9 F) : Calls Tryd.prog 17 #[.pointer (some ⟨b, 0, none⟩), .int .i64 3, .int .i64 1] w fun e w' => e = .returned (.tuple #[.bool false, .int .i64 0]) ∧ BR b kB10 F w w' := by
  have := lock_any h (sh_of (B := kB9) (by kernel_rfl)) 3 1
  rw [show lockM kB9 3 1 = ((false, 0), kB10) from by kernel_rfl] at this
  exact this
theorem kl_10_1_0 (w : World) (b : Nat) (F : Nat → Prop) (h : BB w b kB10 F) : Calls Tryd.prog 17 #[.pointer (some ⟨b, 0, none⟩), .int .i64 1, .int .i64 0] w fun e w' => e = .returned (.tuple #[.bool false, .int .i64 0]) ∧ BR b kB11 F w w' := by
  have := lock_any h (sh_of (B := kB10) (by kernel_rfl)) 1 0
  rw [show lockM kB10 1 0 = ((false, 0), kB11) from by kernel_rfl] at this
  exact this
theorem kstep {w w1 w2 : World} {b : Nat} {B B2 : Bk} {F F2 : Nat → Prop} (h : BB w1 b B F ∧ (∀ g, F g → w.heap.size ≤ g) ∧ Below w.heap.size w w1) (hB : BB w2 b B2 F2) (hC : Chg F F2 w1 w2) : BB w2 b B2 F2 ∧ (∀ g, F2 g → w.heap.size ≤ g) ∧ Below w.heap.size w w2 := by
  have hs := h.2.2.size
  have hs2 := hC.2.1.size
  refine ⟨hB, fun g hg => ?_, ⟨hC.2.1.os.trans h.2.2.os, hC.2.1.tape.trans h.2.2.tape, hC.2.1.output.trans h.2.2.output, by omega, fun k hk => ?_⟩⟩
  · rcases hC.2.2 g hg with h' | h'
    · exact h.2.1 g h'
    · omega
  · rw [hC.1 k (by omega) (fun hf => by have := h.2.1 k hf; omega)]
    exact h.2.2.block k hk
theorem krow {w w1 w2 : World} {s : Sl} {l : List Int} {F F2 : Nat → Prop} (h : RI w1 s l ∧ ∀ g, s.blk = some g → w.heap.size ≤ g ∧ ¬ F g) (hC : Chg F F2 w1 w2) : RI w2 s l ∧ ∀ g, s.blk = some g → w.heap.size ≤ g ∧ ¬ F2 g :=
  ⟨h.1.kept (fun g hg => hC.1 g (h.1.lt hg) (h.2 g hg).2), fun g hg => ⟨(h.2 g hg).1, fun hf => by
    rcases hC.2.2 g hf with h' | h'
    · exact (h.2 g hg).2 h'
    · have := h.1.lt hg
      omega⟩⟩
theorem stuck_11 : stB kB11 kB11.t.length = [1, 3] := by kernel_rfl
set_option maxRecDepth 100000 in
set_option maxHeartbeats 8000000 in
theorem known_any (w : World) (hT : Tab w) :
    Calls Tryd.prog 7 #[] w fun e w' => e = .returned (.bool true) ∧ Below w.heap.size w w' := by
  have HN : Hid _ := new_any 2 1 (by omega) (by omega) w hT
  clear hT
  go_enter Tryd.func7, Tryd.ntmps7
  go_wp2_with fail
  refine Calls.mono HN.out ?_
  rintro e w0 ⟨b, F0, rfl, hB0, hF0, hb0⟩
  rw [new_0] at hB0
  have HB0 : Hid (BB w0 b kB0 F0 ∧ (∀ g, F0 g → w.heap.size ≤ g) ∧ Below w.heap.size w w0) := ⟨hB0, hF0, hb0⟩
  clear hB0 hF0 hb0 HN
  go_wp2_with fail
  refine Calls.mono (kn_0 w0 b F0 HB0.out.1) ?_
  rintro e w1 ⟨rfl, F1, hB, hC⟩
  have HB1 : Hid (BB w1 b kB1 F1 ∧ (∀ g, F1 g → w.heap.size ≤ g) ∧ Below w.heap.size w w1) := kstep HB0.out hB hC
  clear hB hC HB0
  go_wp2_with fail
  refine Calls.mono (kn_1 w1 b F1 HB1.out.1) ?_
  rintro e w2 ⟨rfl, F2, hB, hC⟩
  have HB2 : Hid (BB w2 b kB2 F2 ∧ (∀ g, F2 g → w.heap.size ≤ g) ∧ Below w.heap.size w w2) := kstep HB1.out hB hC
  clear hB hC HB1
  go_wp2_with fail
  refine Calls.mono (kn_2 w2 b F2 HB2.out.1) ?_
  rintro e w3 ⟨rfl, F3, hB, hC⟩
  have HB3 : Hid (BB w3 b kB3 F3 ∧ (∀ g, F3 g → w.heap.size ≤ g) ∧ Below w.heap.size w w3) := kstep HB2.out hB hC
  clear hB hC HB2
  go_wp2_with fail
  refine Calls.mono (kl_3_1_0 w3 b F3 HB3.out.1) ?_
  rintro e w4 ⟨rfl, F4, hB, hC⟩
  have HB4 : Hid (BB w4 b kB4 F4 ∧ (∀ g, F4 g → w.heap.size ≤ g) ∧ Below w.heap.size w w4) := kstep HB3.out hB hC
  clear hB hC HB3
  go_wp2_with fail
  refine Calls.mono (kl_4_2_0 w4 b F4 HB4.out.1) ?_
  rintro e w5 ⟨rfl, F5, hB, hC⟩
  have HB5 : Hid (BB w5 b kB5 F5 ∧ (∀ g, F5 g → w.heap.size ≤ g) ∧ Below w.heap.size w w5) := kstep HB4.out hB hC
  clear hB hC HB4
  go_wp2_with fail
  refine Calls.mono (kl_5_3_0 w5 b F5 HB5.out.1) ?_
  rintro e w6 ⟨rfl, F6, hB, hC⟩
  have HB6 : Hid (BB w6 b kB6 F6 ∧ (∀ g, F6 g → w.heap.size ≤ g) ∧ Below w.heap.size w w6) := kstep HB5.out hB hC
  clear hB hC HB5
  go_wp2_with fail
  refine Calls.mono (ku_6 w6 b F6 HB6.out.1) ?_
  rintro e w7 ⟨rfl, F7, hB, hC⟩
  have HB7 : Hid (BB w7 b kB7 F7 ∧ (∀ g, F7 g → w.heap.size ≤ g) ∧ Below w.heap.size w w7) := kstep HB6.out hB hC
  clear hB hC HB6
  have HW2 : Hid (Calls Tryd.prog 16 #[.pointer (some ⟨b, 0, none⟩), .int .i64 2] w7 fun e w' => e = .returned (.bool false) ∧ w' = w7) := waits_B HB7.out.1 (sh_of (by kernel_rfl)) 2
  have HW3 : Hid (Calls Tryd.prog 16 #[.pointer (some ⟨b, 0, none⟩), .int .i64 3] w7 fun e w' => e = .returned (.bool true) ∧ w' = w7) := waits_B HB7.out.1 (sh_of (by kernel_rfl)) 3
  go_wp2_with fail
  refine Calls.mono HW2.out ?_
  rintro e w2 ⟨rfl, hw2⟩
  rw [hw2]
  clear hw2
  go_wp2_with fail
  refine Calls.mono HW3.out ?_
  rintro e w2 ⟨rfl, hw2⟩
  rw [hw2]
  clear hw2
  clear HW2 HW3
  have HE : Hid (Calls Tryd.prog 26 #[.pointer (some ⟨b, 0, none⟩), .int .i64 2, .int .u64 85, .int .i64 0] w7 fun e w' => ER b kB8 F7 [3] 0 w7 e w') := by
    have := end_any HB7.out.1 (sh_of (B := kB7) (by kernel_rfl)) 2 85 0
    rw [end_8] at this
    exact this
  go_wp2_with fail
  refine Calls.mono HE.out ?_
  rintro e w8 ⟨s, F8, rfl, hr, hf, hB, hC⟩
  have hs7 := HB7.out.2.2.size
  have HB8 : Hid (BB w8 b kB8 F8 ∧ (∀ g, F8 g → w.heap.size ≤ g) ∧ Below w.heap.size w w8) := kstep HB7.out hB hC
  have HR8 : Hid (RI w8 s [3] ∧ ∀ g, s.blk = some g → w.heap.size ≤ g ∧ ¬ F8 g) := ⟨hr.ri, fun g hg => ⟨Nat.le_trans hs7 (hf g hg).1, (hf g hg).2⟩⟩
  obtain ⟨ra, ca⟩ := s
  clear hr hf hB hC HB7 HE hs7
  go_wp2_with fail
  refine Calls.mono (kl_8_3_0 w8 b F8 HB8.out.1) ?_
  rintro e w9 ⟨rfl, F9, hB, hC⟩
  have HB9 : Hid (BB w9 b kB8 F9 ∧ (∀ g, F9 g → w.heap.size ≤ g) ∧ Below w.heap.size w w9) := kstep HB8.out hB hC
  have HR9 : Hid (RI w9 ⟨ra, ca⟩ [3] ∧ ∀ g, Sl.blk ⟨ra, ca⟩ = some g → w.heap.size ≤ g ∧ ¬ F9 g) := krow HR8.out hC
  clear hB hC HB8 HR8
  go_wp2_with fail
  refine Calls.mono (kl_8_1_1 w9 b F9 HB9.out.1) ?_
  rintro e w10 ⟨rfl, F10, hB, hC⟩
  have HB10 : Hid (BB w10 b kB9 F10 ∧ (∀ g, F10 g → w.heap.size ≤ g) ∧ Below w.heap.size w w10) := kstep HB9.out hB hC
  have HR10 : Hid (RI w10 ⟨ra, ca⟩ [3] ∧ ∀ g, Sl.blk ⟨ra, ca⟩ = some g → w.heap.size ≤ g ∧ ¬ F10 g) := krow HR9.out hC
  clear hB hC HB9 HR9
  go_wp2_with fail
  refine Calls.mono (kl_9_3_1 w10 b F10 HB10.out.1) ?_
  rintro e w11 ⟨rfl, F11, hB, hC⟩
  have HB11 : Hid (BB w11 b kB10 F11 ∧ (∀ g, F11 g → w.heap.size ≤ g) ∧ Below w.heap.size w w11) := kstep HB10.out hB hC
  have HR11 : Hid (RI w11 ⟨ra, ca⟩ [3] ∧ ∀ g, Sl.blk ⟨ra, ca⟩ = some g → w.heap.size ≤ g ∧ ¬ F11 g) := krow HR10.out hC
  clear hB hC HB10 HR10
  go_wp2_with fail
  refine Calls.mono (kl_10_1_0 w11 b F11 HB11.out.1) ?_
  rintro e w12 ⟨rfl, F12, hB, hC⟩
  have HB12 : Hid (BB w12 b kB11 F12 ∧ (∀ g, F12 g → w.heap.size ≤ g) ∧ Below w.heap.size w w12) := kstep HB11.out hB hC
  have HR12 : Hid (RI w12 ⟨ra, ca⟩ [3] ∧ ∀ g, Sl.blk ⟨ra, ca⟩ = some g → w.heap.size ≤ g ∧ ¬ F12 g) := krow HR11.out hC
  clear hB hC HB11 HR11
  have HSt : Hid (Calls Tryd.prog 24 #[.pointer (some ⟨b, 0, none⟩)] w12 fun e w' => OutR w12 [1, 3] e w') := by
    have := stuck_B HB12.out.1 (sh_of (B := kB11) (by kernel_rfl))
    rw [stuck_11] at this
    exact this
  go_wp2_with fail
  refine Calls.mono HSt.out ?_
  rintro e w13 ⟨s2, rfl, hr2, hf2, hb2⟩
  have HB13 : Hid (BB w13 b kB11 F12 ∧ Below w.heap.size w w13) := ⟨HB12.out.1.below hb2, HB12.out.2.2.trans (hb2.mono HB12.out.2.2.size)⟩
  have HR13 : Hid (RI w13 ⟨ra, ca⟩ [3]) := HR12.out.1.kept (fun g hg => hb2.block g (HR12.out.1.lt hg))
  have HR14 : Hid (RI w13 s2 [1, 3]) := hr2.ri
  obtain ⟨ra2, ca2⟩ := s2
  clear hr2 hf2 hb2 HB12 HR12 HSt
  have HGl : Hid (Calls Tryd.prog 27 #[.pointer (some ⟨b, 0, none⟩), .int .i64 0] w13 fun e w' => e = .returned (.tuple #[.int .u64 4, .int .i64 0]) ∧ w' = w13) := global_B HB13.out.1 0
  go_wp2_with fail
  refine Calls.mono HGl.out ?_
  rintro e w2 ⟨rfl, hw2⟩
  rw [hw2]
  clear hw2
  clear HGl
  have hk1 : (w13.alloc (.cells #[.int .i64 3] 3)).heap.size = w13.heap.size + 1 := World.size_alloc ..
  have HS1 : Hid (Calls Tryd.prog 28 #[.slice ra 1 ca, .slice (some ⟨w13.heap.size, 0, none⟩) 1 1] (w13.alloc (.cells #[.int .i64 3] 3)) fun e w' => e = .returned (.bool true) ∧ Below (w13.alloc (.cells #[.int .i64 3] 3)).heap.size (w13.alloc (.cells #[.int .i64 3] 3)) w') := by
    have h1 := (RI.rx HR13.out).below ((Below.refl _ w13).alloc (Nat.le_refl _) (.cells #[.int .i64 3] 3))
    have h2 : RX (Value.int .i64) (w13.alloc (.cells #[.int .i64 3] 3)) (some ⟨w13.heap.size, 0, none⟩) [3] := ⟨w13.heap.size, 0, .inr rfl, fun j x hx => by
      refine ⟨by omega, new_cell w13 _ _ (0 + j) _ ?_⟩
      cases j with
      | zero => simp at hx ⊢; rw [hx]
      | succ j => simp at hx⟩
    have := sameI_any [3] [3] ra (some ⟨w13.heap.size, 0, none⟩) ca 1 _ (by unfold maxLen; simp) (by unfold maxLen; simp) h1 h2
    rw [show decide (([3] : List Int) = [3]) = true by decide] at this
    exact this
  go_wp2_with fail
  refine Calls.mono HS1.out ?_
  rintro e w14 ⟨rfl, hb14⟩
  have hb14' := ((Below.refl _ w13).alloc (Nat.le_refl _) (.cells #[.int .i64 3] 3)).trans (hb14.mono (by omega))
  have HB14 : Hid (BB w14 b kB11 F12 ∧ Below w.heap.size w w14) := ⟨HB13.out.1.below hb14', HB13.out.2.trans (hb14'.mono HB13.out.2.size)⟩
  have HR15 : Hid (RX (Value.int .i64) w14 ra2 [1, 3]) := (RI.rx HR14.out).below hb14'
  clear hb14 hb14' HB13 HR13 HR14 HS1 hk1
  have HHo : Hid (Calls Tryd.prog 22 #[.pointer (some ⟨b, 0, none⟩), .int .i64 0] w14 fun e w' => e = .returned (.int .i64 3) ∧ w' = w14) := holder_B HB14.out.1 0
  go_wp2_with fail
  refine Calls.mono HHo.out ?_
  rintro e w2 ⟨rfl, hw2⟩
  rw [hw2]
  clear hw2
  clear HHo
  have hk2 : (w14.alloc (.cells #[.int .i64 1, .int .i64 3] 3)).heap.size = w14.heap.size + 1 := World.size_alloc ..
  have HS2 : Hid (Calls Tryd.prog 28 #[.slice ra2 2 ca2, .slice (some ⟨w14.heap.size, 0, none⟩) 2 2] (w14.alloc (.cells #[.int .i64 1, .int .i64 3] 3)) fun e w' => e = .returned (.bool true) ∧ Below (w14.alloc (.cells #[.int .i64 1, .int .i64 3] 3)).heap.size (w14.alloc (.cells #[.int .i64 1, .int .i64 3] 3)) w') := by
    have h1 := HR15.out.below ((Below.refl _ w14).alloc (Nat.le_refl _) (.cells #[.int .i64 1, .int .i64 3] 3))
    have h2 : RX (Value.int .i64) (w14.alloc (.cells #[.int .i64 1, .int .i64 3] 3)) (some ⟨w14.heap.size, 0, none⟩) [1, 3] := ⟨w14.heap.size, 0, .inr rfl, fun j x hx => by
      refine ⟨by omega, new_cell w14 _ _ (0 + j) _ ?_⟩
      rcases j with _ | _ | j
      · simp at hx ⊢; rw [hx]
      · simp at hx ⊢; rw [hx]
      · simp at hx⟩
    have := sameI_any [1, 3] [1, 3] ra2 (some ⟨w14.heap.size, 0, none⟩) ca2 2 _ (by unfold maxLen; simp) (by unfold maxLen; simp) h1 h2
    rw [show decide (([1, 3] : List Int) = [1, 3]) = true by decide] at this
    exact this
  go_wp2_with fail
  refine Calls.mono HS2.out ?_
  rintro e w15 ⟨rfl, hb15⟩
  have HB15 : Hid (Below w.heap.size w w15) := by
    have hs := HB14.out.2.size
    exact (HB14.out.2.alloc hs _).trans (hb15.mono (by omega))
  clear hb15 HB14 HR15 HS2 hk2
  go_wp2
  go_ret
  exact ⟨rfl, HB15.out⟩
end Go.Proofs.YtdlnkdcgipaoeaaDoor
