/- The chapter's examples; CycleNumbers. -/
import Derived.Test.YtnohcmfhhoiihaaHCBegin
import Derived.Test.YtnohcmfhhoiihaaHCStep
import Derived.Test.YtnohcmfhhoiihaaHCMost
namespace Go.Proofs.Ytnohcmfhhoiihaa
open Go.RowKit

theorem keepB {V w' : World} {g : Nat} {o : Obj} (hb : Below V.heap.size V w') (h : V.heap[g]? = some o) : w'.heap[g]? = some o := (hb.block _ (heap_lt h)).trans h
theorem below_drewN {n : Nat} {w0 w : World} (h : Below n w0 w) (k : Nat) : Below n w0 (w.drewN k) := by
  induction k generalizing w with
  | zero => exact h
  | succ k ih => exact (ih h).drew
theorem keepA {V : World} {g : Nat} {o : Obj} (h : V.heap[g]? = some o) (o' : Obj) : (V.alloc o').heap[g]? = some o := (((Below.refl _ V).alloc (Nat.le_refl _) o').block _ (heap_lt h)).trans h
set_option maxRecDepth 100000 in
set_option maxHeartbeats 16000000 in
theorem works_any (w : World) : Calls Try.prog 6 #[] w fun e w' => e = .returned (.bool true) ∧ Below w.heap.size w w' := by
  have HB : Hid (Below w.heap.size w w) := Below.refl _ _
  have HE : Hid True := trivial
  go_enter Try.func6, Try.ntmps6
  go_wp2_with fail
  refine Calls.mono (begin_any 0 0 0 0 0 false _ (by decide)) ?_
  rintro e w1 ⟨rfl, hb⟩
  have e1 : begM 0 0 0 0 0 false = (⟨0, 0, 0, 0, 0, true⟩, 0) := by kernel_rfl
  rw [e1]
  dsimp only
  clear e1
  replace HB : Hid (Below w.heap.size w w1) := HB.out.trans (hb.mono HB.out.size)
  clear hb
  go_upto_region 2 with fail
  have G0 : Hid ((w1.alloc (.cells #[.int .u8 0, .int .i64 0, .int .i64 0, .int .i64 0, .int .i64 0, .bool true] 27)).heap[w1.heap.size]? = some (.cells #[.int .u8 0, .int .i64 0, .int .i64 0, .int .i64 0, .int .i64 0, .bool true] 27 (0, 0))) := heap_alloc_new _ _
  replace HB : Hid (Below w.heap.size w (w1.alloc (.cells #[.int .u8 0, .int .i64 0, .int .i64 0, .int .i64 0, .int .i64 0, .bool true] 27))) := HB.out.alloc HB.out.size _
  generalize w1.alloc (.cells #[.int .u8 0, .int .i64 0, .int .i64 0, .int .i64 0, .int .i64 0, .bool true] 27) = W1 at HB G0 ⊢
  generalize w1.heap.size = g0 at G0 ⊢
  have c0_0 := heap_cell (j := 0) G0.out rfl
  have c0_1 := heap_cell (j := 1) G0.out rfl
  have c0_2 := heap_cell (j := 2) G0.out rfl
  have c0_3 := heap_cell (j := 3) G0.out rfl
  have c0_4 := heap_cell (j := 4) G0.out rfl
  have c0_5 := heap_cell (j := 5) G0.out rfl
  have l0 := heap_lt G0.out
  go_wp2_with fail
  refine Calls.mono (begin_any 0 0 0 0 0 true _ (by decide)) ?_
  rintro e w2 ⟨rfl, hb⟩
  have e1 : begM 0 0 0 0 0 true = (⟨0, 0, 0, 0, 0, false⟩, 170) := by kernel_rfl
  rw [e1]
  dsimp only
  clear e1
  clear c0_0 c0_1 c0_2 c0_3 c0_4 c0_5 l0
  replace G0 : Hid (w2.heap[g0]? = some (.cells #[.int .u8 0, .int .i64 0, .int .i64 0, .int .i64 0, .int .i64 0, .bool true] 27 (0, 0))) := keepB hb G0.out
  replace HB : Hid (Below w.heap.size w w2) := HB.out.trans (hb.mono HB.out.size)
  clear hb
  go_upto_region 3 with fail
  replace G0 : Hid ((w2.alloc (.cells #[.int .u8 0, .int .i64 0, .int .i64 0, .int .i64 0, .int .i64 0, .bool false] 27)).heap[g0]? = some (.cells #[.int .u8 0, .int .i64 0, .int .i64 0, .int .i64 0, .int .i64 0, .bool true] 27 (0, 0))) := keepA G0.out _
  have G1 : Hid ((w2.alloc (.cells #[.int .u8 0, .int .i64 0, .int .i64 0, .int .i64 0, .int .i64 0, .bool false] 27)).heap[w2.heap.size]? = some (.cells #[.int .u8 0, .int .i64 0, .int .i64 0, .int .i64 0, .int .i64 0, .bool false] 27 (0, 0))) := heap_alloc_new _ _
  replace HB : Hid (Below w.heap.size w (w2.alloc (.cells #[.int .u8 0, .int .i64 0, .int .i64 0, .int .i64 0, .int .i64 0, .bool false] 27))) := HB.out.alloc HB.out.size _
  generalize w2.alloc (.cells #[.int .u8 0, .int .i64 0, .int .i64 0, .int .i64 0, .int .i64 0, .bool false] 27) = W2 at HB G0 G1 ⊢
  generalize w2.heap.size = g1 at G1 ⊢
  have c0_0 := heap_cell (j := 0) G0.out rfl
  have c0_1 := heap_cell (j := 1) G0.out rfl
  have c0_2 := heap_cell (j := 2) G0.out rfl
  have c0_3 := heap_cell (j := 3) G0.out rfl
  have c0_4 := heap_cell (j := 4) G0.out rfl
  have c0_5 := heap_cell (j := 5) G0.out rfl
  have l0 := heap_lt G0.out
  have c1_0 := heap_cell (j := 0) G1.out rfl
  have c1_1 := heap_cell (j := 1) G1.out rfl
  have c1_2 := heap_cell (j := 2) G1.out rfl
  have c1_3 := heap_cell (j := 3) G1.out rfl
  have c1_4 := heap_cell (j := 4) G1.out rfl
  have c1_5 := heap_cell (j := 5) G1.out rfl
  have l1 := heap_lt G1.out
  go_wp2_with fail
  refine Calls.mono (next_any 0 0 0 0 0 true 0 0 0 false false false _ (by decide)) ?_
  rintro e w3 ⟨rfl, hb⟩
  have e1 : nextM 0 0 0 0 0 true 0 0 0 false false false = ⟨18, 0, 0, 0⟩ := by kernel_rfl
  rw [e1]
  dsimp only
  clear e1
  clear c0_0 c0_1 c0_2 c0_3 c0_4 c0_5 l0 c1_0 c1_1 c1_2 c1_3 c1_4 c1_5 l1
  replace G0 : Hid (w3.heap[g0]? = some (.cells #[.int .u8 0, .int .i64 0, .int .i64 0, .int .i64 0, .int .i64 0, .bool true] 27 (0, 0))) := keepB hb G0.out
  replace G1 : Hid (w3.heap[g1]? = some (.cells #[.int .u8 0, .int .i64 0, .int .i64 0, .int .i64 0, .int .i64 0, .bool false] 27 (0, 0))) := keepB hb G1.out
  replace HB : Hid (Below w.heap.size w w3) := HB.out.trans (hb.mono HB.out.size)
  clear hb
  go_upto_region 4 with fail
  replace G0 : Hid ((w3.alloc (.cells #[.int .u8 18, .int .i64 0, .int .i64 0, .int .i64 0] 34)).heap[g0]? = some (.cells #[.int .u8 0, .int .i64 0, .int .i64 0, .int .i64 0, .int .i64 0, .bool true] 27 (0, 0))) := keepA G0.out _
  replace G1 : Hid ((w3.alloc (.cells #[.int .u8 18, .int .i64 0, .int .i64 0, .int .i64 0] 34)).heap[g1]? = some (.cells #[.int .u8 0, .int .i64 0, .int .i64 0, .int .i64 0, .int .i64 0, .bool false] 27 (0, 0))) := keepA G1.out _
  have G2 : Hid ((w3.alloc (.cells #[.int .u8 18, .int .i64 0, .int .i64 0, .int .i64 0] 34)).heap[w3.heap.size]? = some (.cells #[.int .u8 18, .int .i64 0, .int .i64 0, .int .i64 0] 34 (0, 0))) := heap_alloc_new _ _
  replace HB : Hid (Below w.heap.size w (w3.alloc (.cells #[.int .u8 18, .int .i64 0, .int .i64 0, .int .i64 0] 34))) := HB.out.alloc HB.out.size _
  generalize w3.alloc (.cells #[.int .u8 18, .int .i64 0, .int .i64 0, .int .i64 0] 34) = W3 at HB G0 G1 G2 ⊢
  generalize w3.heap.size = g2 at G2 ⊢
  have c0_0 := heap_cell (j := 0) G0.out rfl
  have c0_1 := heap_cell (j := 1) G0.out rfl
  have c0_2 := heap_cell (j := 2) G0.out rfl
  have c0_3 := heap_cell (j := 3) G0.out rfl
  have c0_4 := heap_cell (j := 4) G0.out rfl
  have c0_5 := heap_cell (j := 5) G0.out rfl
  have l0 := heap_lt G0.out
  have c1_0 := heap_cell (j := 0) G1.out rfl
  have c1_1 := heap_cell (j := 1) G1.out rfl
  have c1_2 := heap_cell (j := 2) G1.out rfl
  have c1_3 := heap_cell (j := 3) G1.out rfl
  have c1_4 := heap_cell (j := 4) G1.out rfl
  have c1_5 := heap_cell (j := 5) G1.out rfl
  have l1 := heap_lt G1.out
  have c2_0 := heap_cell (j := 0) G2.out rfl
  have c2_1 := heap_cell (j := 1) G2.out rfl
  have c2_2 := heap_cell (j := 2) G2.out rfl
  have c2_3 := heap_cell (j := 3) G2.out rfl
  have l2 := heap_lt G2.out
  go_wp2_with fail
  refine Calls.mono (step_any 0 0 0 0 0 true 0 0 0 false false false false _ (by decide) (by decide) (by decide) (by decide)) ?_
  rintro e w4 ⟨rfl, hb⟩
  have e1 : stepM 0 0 0 0 0 true 0 0 0 false false false false = (⟨1, 0, 0, 0, 1, false⟩, 0) := by kernel_rfl
  rw [e1]
  dsimp only
  clear e1
  clear c0_0 c0_1 c0_2 c0_3 c0_4 c0_5 l0 c1_0 c1_1 c1_2 c1_3 c1_4 c1_5 l1 c2_0 c2_1 c2_2 c2_3 l2
  replace G0 : Hid (w4.heap[g0]? = some (.cells #[.int .u8 0, .int .i64 0, .int .i64 0, .int .i64 0, .int .i64 0, .bool true] 27 (0, 0))) := keepB hb G0.out
  replace G1 : Hid (w4.heap[g1]? = some (.cells #[.int .u8 0, .int .i64 0, .int .i64 0, .int .i64 0, .int .i64 0, .bool false] 27 (0, 0))) := keepB hb G1.out
  replace G2 : Hid (w4.heap[g2]? = some (.cells #[.int .u8 18, .int .i64 0, .int .i64 0, .int .i64 0] 34 (0, 0))) := keepB hb G2.out
  replace HB : Hid (Below w.heap.size w w4) := HB.out.trans (hb.mono HB.out.size)
  clear hb
  go_upto_region 5 with fail
  replace G0 : Hid ((w4.alloc (.cells #[.int .u8 1, .int .i64 0, .int .i64 0, .int .i64 0, .int .i64 1, .bool false] 27)).heap[g0]? = some (.cells #[.int .u8 0, .int .i64 0, .int .i64 0, .int .i64 0, .int .i64 0, .bool true] 27 (0, 0))) := keepA G0.out _
  replace G1 : Hid ((w4.alloc (.cells #[.int .u8 1, .int .i64 0, .int .i64 0, .int .i64 0, .int .i64 1, .bool false] 27)).heap[g1]? = some (.cells #[.int .u8 0, .int .i64 0, .int .i64 0, .int .i64 0, .int .i64 0, .bool false] 27 (0, 0))) := keepA G1.out _
  replace G2 : Hid ((w4.alloc (.cells #[.int .u8 1, .int .i64 0, .int .i64 0, .int .i64 0, .int .i64 1, .bool false] 27)).heap[g2]? = some (.cells #[.int .u8 18, .int .i64 0, .int .i64 0, .int .i64 0] 34 (0, 0))) := keepA G2.out _
  have G3 : Hid ((w4.alloc (.cells #[.int .u8 1, .int .i64 0, .int .i64 0, .int .i64 0, .int .i64 1, .bool false] 27)).heap[w4.heap.size]? = some (.cells #[.int .u8 1, .int .i64 0, .int .i64 0, .int .i64 0, .int .i64 1, .bool false] 27 (0, 0))) := heap_alloc_new _ _
  replace HB : Hid (Below w.heap.size w (w4.alloc (.cells #[.int .u8 1, .int .i64 0, .int .i64 0, .int .i64 0, .int .i64 1, .bool false] 27))) := HB.out.alloc HB.out.size _
  generalize w4.alloc (.cells #[.int .u8 1, .int .i64 0, .int .i64 0, .int .i64 0, .int .i64 1, .bool false] 27) = W4 at HB G0 G1 G2 G3 ⊢
  generalize w4.heap.size = g3 at G3 ⊢
  have c0_0 := heap_cell (j := 0) G0.out rfl
  have c0_1 := heap_cell (j := 1) G0.out rfl
  have c0_2 := heap_cell (j := 2) G0.out rfl
  have c0_3 := heap_cell (j := 3) G0.out rfl
  have c0_4 := heap_cell (j := 4) G0.out rfl
  have c0_5 := heap_cell (j := 5) G0.out rfl
  have l0 := heap_lt G0.out
  have c1_0 := heap_cell (j := 0) G1.out rfl
  have c1_1 := heap_cell (j := 1) G1.out rfl
  have c1_2 := heap_cell (j := 2) G1.out rfl
  have c1_3 := heap_cell (j := 3) G1.out rfl
  have c1_4 := heap_cell (j := 4) G1.out rfl
  have c1_5 := heap_cell (j := 5) G1.out rfl
  have l1 := heap_lt G1.out
  have c2_0 := heap_cell (j := 0) G2.out rfl
  have c2_1 := heap_cell (j := 1) G2.out rfl
  have c2_2 := heap_cell (j := 2) G2.out rfl
  have c2_3 := heap_cell (j := 3) G2.out rfl
  have l2 := heap_lt G2.out
  have c3_0 := heap_cell (j := 0) G3.out rfl
  have c3_1 := heap_cell (j := 1) G3.out rfl
  have c3_2 := heap_cell (j := 2) G3.out rfl
  have c3_3 := heap_cell (j := 3) G3.out rfl
  have c3_4 := heap_cell (j := 4) G3.out rfl
  have c3_5 := heap_cell (j := 5) G3.out rfl
  have l3 := heap_lt G3.out
  go_wp2_with fail
  refine Calls.mono (next_any 0 0 0 0 0 false 0 0 0 false false false _ (by decide)) ?_
  rintro e w5 ⟨rfl, hb⟩
  have e1 : nextM 0 0 0 0 0 false 0 0 0 false false false = ⟨0, 0, 0, 0⟩ := by kernel_rfl
  rw [e1]
  dsimp only
  clear e1
  clear c0_0 c0_1 c0_2 c0_3 c0_4 c0_5 l0 c1_0 c1_1 c1_2 c1_3 c1_4 c1_5 l1 c2_0 c2_1 c2_2 c2_3 l2 c3_0 c3_1 c3_2 c3_3 c3_4 c3_5 l3
  replace G0 : Hid (w5.heap[g0]? = some (.cells #[.int .u8 0, .int .i64 0, .int .i64 0, .int .i64 0, .int .i64 0, .bool true] 27 (0, 0))) := keepB hb G0.out
  replace G1 : Hid (w5.heap[g1]? = some (.cells #[.int .u8 0, .int .i64 0, .int .i64 0, .int .i64 0, .int .i64 0, .bool false] 27 (0, 0))) := keepB hb G1.out
  replace G2 : Hid (w5.heap[g2]? = some (.cells #[.int .u8 18, .int .i64 0, .int .i64 0, .int .i64 0] 34 (0, 0))) := keepB hb G2.out
  replace G3 : Hid (w5.heap[g3]? = some (.cells #[.int .u8 1, .int .i64 0, .int .i64 0, .int .i64 0, .int .i64 1, .bool false] 27 (0, 0))) := keepB hb G3.out
  replace HB : Hid (Below w.heap.size w w5) := HB.out.trans (hb.mono HB.out.size)
  clear hb
  go_upto_region 6 with fail
  replace G0 : Hid ((w5.alloc (.cells #[.int .u8 0, .int .i64 0, .int .i64 0, .int .i64 0] 34)).heap[g0]? = some (.cells #[.int .u8 0, .int .i64 0, .int .i64 0, .int .i64 0, .int .i64 0, .bool true] 27 (0, 0))) := keepA G0.out _
  replace G1 : Hid ((w5.alloc (.cells #[.int .u8 0, .int .i64 0, .int .i64 0, .int .i64 0] 34)).heap[g1]? = some (.cells #[.int .u8 0, .int .i64 0, .int .i64 0, .int .i64 0, .int .i64 0, .bool false] 27 (0, 0))) := keepA G1.out _
  replace G2 : Hid ((w5.alloc (.cells #[.int .u8 0, .int .i64 0, .int .i64 0, .int .i64 0] 34)).heap[g2]? = some (.cells #[.int .u8 18, .int .i64 0, .int .i64 0, .int .i64 0] 34 (0, 0))) := keepA G2.out _
  replace G3 : Hid ((w5.alloc (.cells #[.int .u8 0, .int .i64 0, .int .i64 0, .int .i64 0] 34)).heap[g3]? = some (.cells #[.int .u8 1, .int .i64 0, .int .i64 0, .int .i64 0, .int .i64 1, .bool false] 27 (0, 0))) := keepA G3.out _
  have G4 : Hid ((w5.alloc (.cells #[.int .u8 0, .int .i64 0, .int .i64 0, .int .i64 0] 34)).heap[w5.heap.size]? = some (.cells #[.int .u8 0, .int .i64 0, .int .i64 0, .int .i64 0] 34 (0, 0))) := heap_alloc_new _ _
  replace HB : Hid (Below w.heap.size w (w5.alloc (.cells #[.int .u8 0, .int .i64 0, .int .i64 0, .int .i64 0] 34))) := HB.out.alloc HB.out.size _
  generalize w5.alloc (.cells #[.int .u8 0, .int .i64 0, .int .i64 0, .int .i64 0] 34) = W5 at HB G0 G1 G2 G3 G4 ⊢
  generalize w5.heap.size = g4 at G4 ⊢
  have c0_0 := heap_cell (j := 0) G0.out rfl
  have c0_1 := heap_cell (j := 1) G0.out rfl
  have c0_2 := heap_cell (j := 2) G0.out rfl
  have c0_3 := heap_cell (j := 3) G0.out rfl
  have c0_4 := heap_cell (j := 4) G0.out rfl
  have c0_5 := heap_cell (j := 5) G0.out rfl
  have l0 := heap_lt G0.out
  have c1_0 := heap_cell (j := 0) G1.out rfl
  have c1_1 := heap_cell (j := 1) G1.out rfl
  have c1_2 := heap_cell (j := 2) G1.out rfl
  have c1_3 := heap_cell (j := 3) G1.out rfl
  have c1_4 := heap_cell (j := 4) G1.out rfl
  have c1_5 := heap_cell (j := 5) G1.out rfl
  have l1 := heap_lt G1.out
  have c2_0 := heap_cell (j := 0) G2.out rfl
  have c2_1 := heap_cell (j := 1) G2.out rfl
  have c2_2 := heap_cell (j := 2) G2.out rfl
  have c2_3 := heap_cell (j := 3) G2.out rfl
  have l2 := heap_lt G2.out
  have c3_0 := heap_cell (j := 0) G3.out rfl
  have c3_1 := heap_cell (j := 1) G3.out rfl
  have c3_2 := heap_cell (j := 2) G3.out rfl
  have c3_3 := heap_cell (j := 3) G3.out rfl
  have c3_4 := heap_cell (j := 4) G3.out rfl
  have c3_5 := heap_cell (j := 5) G3.out rfl
  have l3 := heap_lt G3.out
  have c4_0 := heap_cell (j := 0) G4.out rfl
  have c4_1 := heap_cell (j := 1) G4.out rfl
  have c4_2 := heap_cell (j := 2) G4.out rfl
  have c4_3 := heap_cell (j := 3) G4.out rfl
  have l4 := heap_lt G4.out
  go_wp2_with fail
  refine Calls.mono (step_any 0 0 0 0 0 false 0 0 0 false false false false _ (by decide) (by decide) (by decide) (by decide)) ?_
  rintro e w6 ⟨rfl, hb⟩
  have e1 : stepM 0 0 0 0 0 false 0 0 0 false false false false = (⟨0, 0, 0, 0, 0, false⟩, 170) := by kernel_rfl
  rw [e1]
  dsimp only
  clear e1
  clear c0_0 c0_1 c0_2 c0_3 c0_4 c0_5 l0 c1_0 c1_1 c1_2 c1_3 c1_4 c1_5 l1 c2_0 c2_1 c2_2 c2_3 l2 c3_0 c3_1 c3_2 c3_3 c3_4 c3_5 l3 c4_0 c4_1 c4_2 c4_3 l4
  replace G0 : Hid (w6.heap[g0]? = some (.cells #[.int .u8 0, .int .i64 0, .int .i64 0, .int .i64 0, .int .i64 0, .bool true] 27 (0, 0))) := keepB hb G0.out
  replace G1 : Hid (w6.heap[g1]? = some (.cells #[.int .u8 0, .int .i64 0, .int .i64 0, .int .i64 0, .int .i64 0, .bool false] 27 (0, 0))) := keepB hb G1.out
  replace G2 : Hid (w6.heap[g2]? = some (.cells #[.int .u8 18, .int .i64 0, .int .i64 0, .int .i64 0] 34 (0, 0))) := keepB hb G2.out
  replace G3 : Hid (w6.heap[g3]? = some (.cells #[.int .u8 1, .int .i64 0, .int .i64 0, .int .i64 0, .int .i64 1, .bool false] 27 (0, 0))) := keepB hb G3.out
  replace G4 : Hid (w6.heap[g4]? = some (.cells #[.int .u8 0, .int .i64 0, .int .i64 0, .int .i64 0] 34 (0, 0))) := keepB hb G4.out
  replace HB : Hid (Below w.heap.size w w6) := HB.out.trans (hb.mono HB.out.size)
  clear hb
  go_upto_region 7 with fail
  replace G0 : Hid ((w6.alloc (.cells #[.int .u8 0, .int .i64 0, .int .i64 0, .int .i64 0, .int .i64 0, .bool false] 27)).heap[g0]? = some (.cells #[.int .u8 0, .int .i64 0, .int .i64 0, .int .i64 0, .int .i64 0, .bool true] 27 (0, 0))) := keepA G0.out _
  replace G1 : Hid ((w6.alloc (.cells #[.int .u8 0, .int .i64 0, .int .i64 0, .int .i64 0, .int .i64 0, .bool false] 27)).heap[g1]? = some (.cells #[.int .u8 0, .int .i64 0, .int .i64 0, .int .i64 0, .int .i64 0, .bool false] 27 (0, 0))) := keepA G1.out _
  replace G2 : Hid ((w6.alloc (.cells #[.int .u8 0, .int .i64 0, .int .i64 0, .int .i64 0, .int .i64 0, .bool false] 27)).heap[g2]? = some (.cells #[.int .u8 18, .int .i64 0, .int .i64 0, .int .i64 0] 34 (0, 0))) := keepA G2.out _
  replace G3 : Hid ((w6.alloc (.cells #[.int .u8 0, .int .i64 0, .int .i64 0, .int .i64 0, .int .i64 0, .bool false] 27)).heap[g3]? = some (.cells #[.int .u8 1, .int .i64 0, .int .i64 0, .int .i64 0, .int .i64 1, .bool false] 27 (0, 0))) := keepA G3.out _
  replace G4 : Hid ((w6.alloc (.cells #[.int .u8 0, .int .i64 0, .int .i64 0, .int .i64 0, .int .i64 0, .bool false] 27)).heap[g4]? = some (.cells #[.int .u8 0, .int .i64 0, .int .i64 0, .int .i64 0] 34 (0, 0))) := keepA G4.out _
  have G5 : Hid ((w6.alloc (.cells #[.int .u8 0, .int .i64 0, .int .i64 0, .int .i64 0, .int .i64 0, .bool false] 27)).heap[w6.heap.size]? = some (.cells #[.int .u8 0, .int .i64 0, .int .i64 0, .int .i64 0, .int .i64 0, .bool false] 27 (0, 0))) := heap_alloc_new _ _
  replace HB : Hid (Below w.heap.size w (w6.alloc (.cells #[.int .u8 0, .int .i64 0, .int .i64 0, .int .i64 0, .int .i64 0, .bool false] 27))) := HB.out.alloc HB.out.size _
  generalize w6.alloc (.cells #[.int .u8 0, .int .i64 0, .int .i64 0, .int .i64 0, .int .i64 0, .bool false] 27) = W6 at HB G0 G1 G2 G3 G4 G5 ⊢
  generalize w6.heap.size = g5 at G5 ⊢
  have c0_0 := heap_cell (j := 0) G0.out rfl
  have c0_1 := heap_cell (j := 1) G0.out rfl
  have c0_2 := heap_cell (j := 2) G0.out rfl
  have c0_3 := heap_cell (j := 3) G0.out rfl
  have c0_4 := heap_cell (j := 4) G0.out rfl
  have c0_5 := heap_cell (j := 5) G0.out rfl
  have l0 := heap_lt G0.out
  have c1_0 := heap_cell (j := 0) G1.out rfl
  have c1_1 := heap_cell (j := 1) G1.out rfl
  have c1_2 := heap_cell (j := 2) G1.out rfl
  have c1_3 := heap_cell (j := 3) G1.out rfl
  have c1_4 := heap_cell (j := 4) G1.out rfl
  have c1_5 := heap_cell (j := 5) G1.out rfl
  have l1 := heap_lt G1.out
  have c2_0 := heap_cell (j := 0) G2.out rfl
  have c2_1 := heap_cell (j := 1) G2.out rfl
  have c2_2 := heap_cell (j := 2) G2.out rfl
  have c2_3 := heap_cell (j := 3) G2.out rfl
  have l2 := heap_lt G2.out
  have c3_0 := heap_cell (j := 0) G3.out rfl
  have c3_1 := heap_cell (j := 1) G3.out rfl
  have c3_2 := heap_cell (j := 2) G3.out rfl
  have c3_3 := heap_cell (j := 3) G3.out rfl
  have c3_4 := heap_cell (j := 4) G3.out rfl
  have c3_5 := heap_cell (j := 5) G3.out rfl
  have l3 := heap_lt G3.out
  have c4_0 := heap_cell (j := 0) G4.out rfl
  have c4_1 := heap_cell (j := 1) G4.out rfl
  have c4_2 := heap_cell (j := 2) G4.out rfl
  have c4_3 := heap_cell (j := 3) G4.out rfl
  have l4 := heap_lt G4.out
  have c5_0 := heap_cell (j := 0) G5.out rfl
  have c5_1 := heap_cell (j := 1) G5.out rfl
  have c5_2 := heap_cell (j := 2) G5.out rfl
  have c5_3 := heap_cell (j := 3) G5.out rfl
  have c5_4 := heap_cell (j := 4) G5.out rfl
  have c5_5 := heap_cell (j := 5) G5.out rfl
  have l5 := heap_lt G5.out
  go_wp2_with fail
  refine Calls.mono (step_any 3 0 1 1 0 false 2 0 0 false false false true _ (by decide) (by decide) (by decide) (by decide)) ?_
  rintro e w7 ⟨rfl, hb⟩
  have e1 : stepM 3 0 1 1 0 false 2 0 0 false false false true = (⟨3, 0, 2, 2, 0, false⟩, 0) := by kernel_rfl
  rw [e1]
  dsimp only
  clear e1
  clear c0_0 c0_1 c0_2 c0_3 c0_4 c0_5 l0 c1_0 c1_1 c1_2 c1_3 c1_4 c1_5 l1 c2_0 c2_1 c2_2 c2_3 l2 c3_0 c3_1 c3_2 c3_3 c3_4 c3_5 l3 c4_0 c4_1 c4_2 c4_3 l4 c5_0 c5_1 c5_2 c5_3 c5_4 c5_5 l5
  replace G0 : Hid (w7.heap[g0]? = some (.cells #[.int .u8 0, .int .i64 0, .int .i64 0, .int .i64 0, .int .i64 0, .bool true] 27 (0, 0))) := keepB hb G0.out
  replace G1 : Hid (w7.heap[g1]? = some (.cells #[.int .u8 0, .int .i64 0, .int .i64 0, .int .i64 0, .int .i64 0, .bool false] 27 (0, 0))) := keepB hb G1.out
  replace G2 : Hid (w7.heap[g2]? = some (.cells #[.int .u8 18, .int .i64 0, .int .i64 0, .int .i64 0] 34 (0, 0))) := keepB hb G2.out
  replace G3 : Hid (w7.heap[g3]? = some (.cells #[.int .u8 1, .int .i64 0, .int .i64 0, .int .i64 0, .int .i64 1, .bool false] 27 (0, 0))) := keepB hb G3.out
  replace G4 : Hid (w7.heap[g4]? = some (.cells #[.int .u8 0, .int .i64 0, .int .i64 0, .int .i64 0] 34 (0, 0))) := keepB hb G4.out
  replace G5 : Hid (w7.heap[g5]? = some (.cells #[.int .u8 0, .int .i64 0, .int .i64 0, .int .i64 0, .int .i64 0, .bool false] 27 (0, 0))) := keepB hb G5.out
  replace HB : Hid (Below w.heap.size w w7) := HB.out.trans (hb.mono HB.out.size)
  clear hb
  go_upto_region 8 with fail
  replace G0 : Hid ((w7.alloc (.cells #[.int .u8 3, .int .i64 0, .int .i64 2, .int .i64 2, .int .i64 0, .bool false] 27)).heap[g0]? = some (.cells #[.int .u8 0, .int .i64 0, .int .i64 0, .int .i64 0, .int .i64 0, .bool true] 27 (0, 0))) := keepA G0.out _
  replace G1 : Hid ((w7.alloc (.cells #[.int .u8 3, .int .i64 0, .int .i64 2, .int .i64 2, .int .i64 0, .bool false] 27)).heap[g1]? = some (.cells #[.int .u8 0, .int .i64 0, .int .i64 0, .int .i64 0, .int .i64 0, .bool false] 27 (0, 0))) := keepA G1.out _
  replace G2 : Hid ((w7.alloc (.cells #[.int .u8 3, .int .i64 0, .int .i64 2, .int .i64 2, .int .i64 0, .bool false] 27)).heap[g2]? = some (.cells #[.int .u8 18, .int .i64 0, .int .i64 0, .int .i64 0] 34 (0, 0))) := keepA G2.out _
  replace G3 : Hid ((w7.alloc (.cells #[.int .u8 3, .int .i64 0, .int .i64 2, .int .i64 2, .int .i64 0, .bool false] 27)).heap[g3]? = some (.cells #[.int .u8 1, .int .i64 0, .int .i64 0, .int .i64 0, .int .i64 1, .bool false] 27 (0, 0))) := keepA G3.out _
  replace G4 : Hid ((w7.alloc (.cells #[.int .u8 3, .int .i64 0, .int .i64 2, .int .i64 2, .int .i64 0, .bool false] 27)).heap[g4]? = some (.cells #[.int .u8 0, .int .i64 0, .int .i64 0, .int .i64 0] 34 (0, 0))) := keepA G4.out _
  replace G5 : Hid ((w7.alloc (.cells #[.int .u8 3, .int .i64 0, .int .i64 2, .int .i64 2, .int .i64 0, .bool false] 27)).heap[g5]? = some (.cells #[.int .u8 0, .int .i64 0, .int .i64 0, .int .i64 0, .int .i64 0, .bool false] 27 (0, 0))) := keepA G5.out _
  have G6 : Hid ((w7.alloc (.cells #[.int .u8 3, .int .i64 0, .int .i64 2, .int .i64 2, .int .i64 0, .bool false] 27)).heap[w7.heap.size]? = some (.cells #[.int .u8 3, .int .i64 0, .int .i64 2, .int .i64 2, .int .i64 0, .bool false] 27 (0, 0))) := heap_alloc_new _ _
  replace HB : Hid (Below w.heap.size w (w7.alloc (.cells #[.int .u8 3, .int .i64 0, .int .i64 2, .int .i64 2, .int .i64 0, .bool false] 27))) := HB.out.alloc HB.out.size _
  generalize w7.alloc (.cells #[.int .u8 3, .int .i64 0, .int .i64 2, .int .i64 2, .int .i64 0, .bool false] 27) = W7 at HB G0 G1 G2 G3 G4 G5 G6 ⊢
  generalize w7.heap.size = g6 at G6 ⊢
  have c0_0 := heap_cell (j := 0) G0.out rfl
  have c0_1 := heap_cell (j := 1) G0.out rfl
  have c0_2 := heap_cell (j := 2) G0.out rfl
  have c0_3 := heap_cell (j := 3) G0.out rfl
  have c0_4 := heap_cell (j := 4) G0.out rfl
  have c0_5 := heap_cell (j := 5) G0.out rfl
  have l0 := heap_lt G0.out
  have c1_0 := heap_cell (j := 0) G1.out rfl
  have c1_1 := heap_cell (j := 1) G1.out rfl
  have c1_2 := heap_cell (j := 2) G1.out rfl
  have c1_3 := heap_cell (j := 3) G1.out rfl
  have c1_4 := heap_cell (j := 4) G1.out rfl
  have c1_5 := heap_cell (j := 5) G1.out rfl
  have l1 := heap_lt G1.out
  have c2_0 := heap_cell (j := 0) G2.out rfl
  have c2_1 := heap_cell (j := 1) G2.out rfl
  have c2_2 := heap_cell (j := 2) G2.out rfl
  have c2_3 := heap_cell (j := 3) G2.out rfl
  have l2 := heap_lt G2.out
  have c3_0 := heap_cell (j := 0) G3.out rfl
  have c3_1 := heap_cell (j := 1) G3.out rfl
  have c3_2 := heap_cell (j := 2) G3.out rfl
  have c3_3 := heap_cell (j := 3) G3.out rfl
  have c3_4 := heap_cell (j := 4) G3.out rfl
  have c3_5 := heap_cell (j := 5) G3.out rfl
  have l3 := heap_lt G3.out
  have c4_0 := heap_cell (j := 0) G4.out rfl
  have c4_1 := heap_cell (j := 1) G4.out rfl
  have c4_2 := heap_cell (j := 2) G4.out rfl
  have c4_3 := heap_cell (j := 3) G4.out rfl
  have l4 := heap_lt G4.out
  have c5_0 := heap_cell (j := 0) G5.out rfl
  have c5_1 := heap_cell (j := 1) G5.out rfl
  have c5_2 := heap_cell (j := 2) G5.out rfl
  have c5_3 := heap_cell (j := 3) G5.out rfl
  have c5_4 := heap_cell (j := 4) G5.out rfl
  have c5_5 := heap_cell (j := 5) G5.out rfl
  have l5 := heap_lt G5.out
  have c6_0 := heap_cell (j := 0) G6.out rfl
  have c6_1 := heap_cell (j := 1) G6.out rfl
  have c6_2 := heap_cell (j := 2) G6.out rfl
  have c6_3 := heap_cell (j := 3) G6.out rfl
  have c6_4 := heap_cell (j := 4) G6.out rfl
  have c6_5 := heap_cell (j := 5) G6.out rfl
  have l6 := heap_lt G6.out
  go_wp2_with fail
  refine Calls.mono (most_any 4 1 2 _) ?_
  rintro e w8 ⟨rfl, rfl⟩
  have e1 : mostM 4 1 2 = 14 := by kernel_rfl
  rw [e1]
  clear e1
  go_wp2
  go_ret
  exact ⟨rfl, HB.out⟩
set_option maxRecDepth 100000 in
set_option maxHeartbeats 16000000 in
theorem cycleNumbers_walk (w : World) : Calls Try.prog 3 #[] w fun e w' => e = .returned (.bool true) ∧ Below w.heap.size w w' := by
  go_enter Try.func3, Try.ntmps3
  go_wp2_with fail
  refine Calls.mono (works_any w) ?_
  rintro e w1 ⟨rfl, hb⟩
  have HB : Hid (Below w.heap.size w (w1.alloc (.cells #[.int .u8 18, .int .u8 19, .int .u8 20, .int .u8 21, .int .u8 22, .int .u8 23, .int .u8 24, .int .u8 25] 23))) := hb.alloc hb.size _
  have h1 := heap_alloc_new w1 (.cells #[.int .u8 18, .int .u8 19, .int .u8 20, .int .u8 21, .int .u8 22, .int .u8 23, .int .u8 24, .int .u8 25] 23)
  clear hb
  go_upto_region 3 with fail
  generalize w1.alloc (.cells #[.int .u8 18, .int .u8 19, .int .u8 20, .int .u8 21, .int .u8 22, .int .u8 23, .int .u8 24, .int .u8 25] 23) = W at HB h1 ⊢
  generalize w1.heap.size = g at h1 ⊢
  have c0 := heap_cell (j := 0) h1 rfl
  have c1 := heap_cell (j := 1) h1 rfl
  have c2 := heap_cell (j := 2) h1 rfl
  have c3 := heap_cell (j := 3) h1 rfl
  have c4 := heap_cell (j := 4) h1 rfl
  have c5 := heap_cell (j := 5) h1 rfl
  have c6 := heap_cell (j := 6) h1 rfl
  have c7 := heap_cell (j := 7) h1 rfl
  have lg := heap_lt h1
  clear h1
  go_wp2_with fail
  refine wp_loop_rounds 8 ?_
  rw [rounds_succ]
  go_wp2_with fail
  go_quiet (fail)
  go_wp2_with fail
  rw [rounds_succ]
  go_wp2_with fail
  go_quiet (fail)
  go_wp2_with fail
  rw [rounds_succ]
  go_wp2_with fail
  go_quiet (fail)
  go_wp2_with fail
  rw [rounds_succ]
  go_wp2_with fail
  go_quiet (fail)
  go_wp2_with fail
  rw [rounds_succ]
  go_wp2_with fail
  go_quiet (fail)
  go_wp2_with fail
  rw [rounds_succ]
  go_wp2_with fail
  go_quiet (fail)
  go_wp2_with fail
  rw [rounds_succ]
  go_wp2_with fail
  go_quiet (fail)
  go_wp2_with fail
  rw [rounds_succ]
  go_wp2
  go_ret
  exact ⟨rfl, below_drewN HB.out _⟩
end Go.Proofs.Ytnohcmfhhoiihaa
