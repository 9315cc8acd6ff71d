/- CycleTells. -/
import Derived.Test.YtnohcmfhhoiihaaHCWorks
import Derived.Test.YtnohcmfhhoiihaaHCNextR
import Derived.Test.YtnohcmfhhoiihaaHCStepR
namespace Go.Proofs.Ytnohcmfhhoiihaa
open Go.RowKit

set_option maxRecDepth 100000 in
set_option maxHeartbeats 16000000 in
theorem cycleTells_walk (ph gl sw fr bg : Int) (ak : Bool) (ce ag th : Int) (st tl gr back : Bool) (n : Int) (w : World) (hp : 0 ≤ ph) (hb0 : bg ≤ 9223372036854775807) (hg0 : ag ≤ 9223372036854775807) (hc0 : ce ≤ 9223372036854775807) :
    Calls Try.prog 4 #[.agg #[.int .u8 ph, .int .i64 gl, .int .i64 sw, .int .i64 fr, .int .i64 bg, .bool ak], .agg #[.int .i64 ce, .int .i64 ag, .int .i64 th, .bool st, .bool tl, .bool gr], .bool back, .int .i64 n] w fun e w' => e = .returned (.bool true) ∧ Below w.heap.size w w' := by
  obtain ⟨B, hB⟩ : ∃ B, B = begM ph gl sw fr bg ak := ⟨_, rfl⟩
  obtain ⟨D, hD⟩ : ∃ D, D = nextM ph gl sw fr bg ak ce ag th st tl gr := ⟨_, rfl⟩
  obtain ⟨S, hS⟩ : ∃ S, S = stepM ph gl sw fr bg ak ce ag th st tl gr back := ⟨_, rfl⟩
  obtain ⟨N, hN⟩ : ∃ N, N = mostM ce ag n := ⟨_, rfl⟩
  have HB1 : Hid (∀ w : World, Calls Try.prog 7 #[.agg #[.int .u8 ph, .int .i64 gl, .int .i64 sw, .int .i64 fr, .int .i64 bg, .bool ak]] w fun e w' => e = .returned (.tuple #[.agg #[.int .u8 B.1.ph, .int .i64 B.1.gl, .int .i64 B.1.sw, .int .i64 B.1.fr, .int .i64 B.1.bg, .bool B.1.ak], .int .i64 B.2]) ∧ Below w.heap.size w w') := fun w => by rw [hB]; exact begin_any ph gl sw fr bg ak w hp
  have HB2 : Hid (∀ w : World, Calls Try.prog 8 #[.agg #[.int .u8 ph, .int .i64 gl, .int .i64 sw, .int .i64 fr, .int .i64 bg, .bool ak]] w fun e w' => e = .returned (.tuple #[.agg #[.int .u8 B.1.ph, .int .i64 B.1.gl, .int .i64 B.1.sw, .int .i64 B.1.fr, .int .i64 B.1.bg, .bool B.1.ak], .int .i64 B.2]) ∧ Below w.heap.size w w') := fun w => by rw [hB]; exact refBegin_any ph gl sw fr bg ak w hp
  have HN1 : Hid (∀ w : World, Calls Try.prog 9 #[.agg #[.int .u8 ph, .int .i64 gl, .int .i64 sw, .int .i64 fr, .int .i64 bg, .bool ak], .agg #[.int .i64 ce, .int .i64 ag, .int .i64 th, .bool st, .bool tl, .bool gr]] w fun e w' => e = .returned (.agg #[.int .u8 D.wh, .int .i64 D.gl, .int .i64 D.th, .int .i64 D.ce]) ∧ Below w.heap.size w w') := fun w => by rw [hD]; exact next_any ph gl sw fr bg ak ce ag th st tl gr w hp
  have HN2 : Hid (∀ w : World, Calls Try.prog 13 #[.agg #[.int .u8 ph, .int .i64 gl, .int .i64 sw, .int .i64 fr, .int .i64 bg, .bool ak], .agg #[.int .i64 ce, .int .i64 ag, .int .i64 th, .bool st, .bool tl, .bool gr]] w fun e w' => e = .returned (.agg #[.int .u8 D.wh, .int .i64 D.gl, .int .i64 D.th, .int .i64 D.ce]) ∧ Below w.heap.size w w') := fun w => by rw [hD]; exact refNext_any ph gl sw fr bg ak ce ag th st tl gr w hp
  have HS1 : Hid (∀ w : World, Calls Try.prog 10 #[.agg #[.int .u8 ph, .int .i64 gl, .int .i64 sw, .int .i64 fr, .int .i64 bg, .bool ak], .agg #[.int .i64 ce, .int .i64 ag, .int .i64 th, .bool st, .bool tl, .bool gr], .bool back] w fun e w' => e = .returned (.tuple #[.agg #[.int .u8 S.1.ph, .int .i64 S.1.gl, .int .i64 S.1.sw, .int .i64 S.1.fr, .int .i64 S.1.bg, .bool S.1.ak], .int .i64 S.2]) ∧ Below w.heap.size w w') := fun w => by rw [hS]; exact step_any ph gl sw fr bg ak ce ag th st tl gr back w hp hb0 hg0 hc0
  have HS2 : Hid (∀ w : World, Calls Try.prog 11 #[.agg #[.int .u8 ph, .int .i64 gl, .int .i64 sw, .int .i64 fr, .int .i64 bg, .bool ak], .agg #[.int .i64 ce, .int .i64 ag, .int .i64 th, .bool st, .bool tl, .bool gr], .bool back] w fun e w' => e = .returned (.tuple #[.agg #[.int .u8 S.1.ph, .int .i64 S.1.gl, .int .i64 S.1.sw, .int .i64 S.1.fr, .int .i64 S.1.bg, .bool S.1.ak], .int .i64 S.2]) ∧ Below w.heap.size w w') := fun w => by rw [hS]; exact refStep_any ph gl sw fr bg ak ce ag th st tl gr back w hp hb0 hg0 hc0
  have HM1 : Hid (∀ w : World, Calls Try.prog 12 #[.int .i64 ce, .int .i64 ag, .int .i64 n] w fun e w' => e = .returned (.int .i64 N) ∧ w' = w) := fun w => by rw [hN]; exact most_any ce ag n w
  have HM2 : Hid (∀ w : World, Calls Try.prog 14 #[.int .i64 ce, .int .i64 ag, .int .i64 n] w fun e w' => e = .returned (.int .i64 N) ∧ w' = w) := fun w => by rw [hN]; exact refMost_any ce ag n w
  clear hB hD hS hN hp hb0 hg0 hc0
  obtain ⟨⟨b0, b1, b2, b3, b4, b5⟩, be⟩ := B
  obtain ⟨d0, d1, d2, d3⟩ := D
  obtain ⟨⟨s0, s1, s2, s3, s4, s5⟩, se⟩ := S
  dsimp only at HB1 HB2 HN1 HN2 HS1 HS2
  have hn := heap_alloc_new (w.alloc (.cells #[.int .u8 ph, .int .i64 gl, .int .i64 sw, .int .i64 fr, .int .i64 bg, .bool ak] 27)) (.cells #[.int .i64 ce, .int .i64 ag, .int .i64 th, .bool st, .bool tl, .bool gr] 29)
  rw [World.size_alloc] at hn
  have G0 : Hid (((w.alloc (.cells #[.int .u8 ph, .int .i64 gl, .int .i64 sw, .int .i64 fr, .int .i64 bg, .bool ak] 27)).alloc (.cells #[.int .i64 ce, .int .i64 ag, .int .i64 th, .bool st, .bool tl, .bool gr] 29)).heap[w.heap.size]? = some (.cells #[.int .u8 ph, .int .i64 gl, .int .i64 sw, .int .i64 fr, .int .i64 bg, .bool ak] 27 (0, 0))) := keepA (heap_alloc_new w _) _
  have G1 : Hid (((w.alloc (.cells #[.int .u8 ph, .int .i64 gl, .int .i64 sw, .int .i64 fr, .int .i64 bg, .bool ak] 27)).alloc (.cells #[.int .i64 ce, .int .i64 ag, .int .i64 th, .bool st, .bool tl, .bool gr] 29)).heap[w.heap.size + 1]? = some (.cells #[.int .i64 ce, .int .i64 ag, .int .i64 th, .bool st, .bool tl, .bool gr] 29 (0, 0))) := hn
  have HB : Hid (Below w.heap.size w ((w.alloc (.cells #[.int .u8 ph, .int .i64 gl, .int .i64 sw, .int .i64 fr, .int .i64 bg, .bool ak] 27)).alloc (.cells #[.int .i64 ce, .int .i64 ag, .int .i64 th, .bool st, .bool tl, .bool gr] 29))) := ((Below.refl _ w).alloc (Nat.le_refl _) _).alloc (by simp) _
  clear hn
  go_enter Try.func4, Try.ntmps4
  go_upto_region 1 with fail
  generalize (w.alloc (.cells #[.int .u8 ph, .int .i64 gl, .int .i64 sw, .int .i64 fr, .int .i64 bg, .bool ak] 27)).alloc (.cells #[.int .i64 ce, .int .i64 ag, .int .i64 th, .bool st, .bool tl, .bool gr] 29) = W at G0 G1 HB ⊢
  have hgl : w.heap.size ≤ w.heap.size + 1 := by omega
  generalize w.heap.size + 1 = g1 at G1 ⊢
  clear hgl
  have c0_0 := heap_cell (j := 0) G0.out rfl
  have c0_1 := heap_cell (j := 1) G0.out rfl
  have c0_2 := heap_cell (j := 2) G0.out rfl
  have c0_3 := heap_cell (j := 3) G0.out rfl
  have c0_4 := heap_cell (j := 4) G0.out rfl
  have c0_5 := heap_cell (j := 5) G0.out rfl
  have l0 := heap_lt G0.out
  have c1_0 := heap_cell (j := 0) G1.out rfl
  have c1_1 := heap_cell (j := 1) G1.out rfl
  have c1_2 := heap_cell (j := 2) G1.out rfl
  have c1_3 := heap_cell (j := 3) G1.out rfl
  have c1_4 := heap_cell (j := 4) G1.out rfl
  have c1_5 := heap_cell (j := 5) G1.out rfl
  have l1 := heap_lt G1.out
  go_wp2_with fail
  refine Calls.mono (works_any _) ?_
  rintro e w1 ⟨rfl, hb⟩
  clear c0_0 c0_1 c0_2 c0_3 c0_4 c0_5 l0 c1_0 c1_1 c1_2 c1_3 c1_4 c1_5 l1
  replace G0 : Hid (w1.heap[w.heap.size]? = some (.cells #[.int .u8 ph, .int .i64 gl, .int .i64 sw, .int .i64 fr, .int .i64 bg, .bool ak] 27 (0, 0))) := keepB hb G0.out
  replace G1 : Hid (w1.heap[g1]? = some (.cells #[.int .i64 ce, .int .i64 ag, .int .i64 th, .bool st, .bool tl, .bool gr] 29 (0, 0))) := keepB hb G1.out
  replace HB : Hid (Below w.heap.size w w1) := HB.out.trans (hb.mono HB.out.size)
  clear hb
  have c0_0 := heap_cell (j := 0) G0.out rfl
  have c0_1 := heap_cell (j := 1) G0.out rfl
  have c0_2 := heap_cell (j := 2) G0.out rfl
  have c0_3 := heap_cell (j := 3) G0.out rfl
  have c0_4 := heap_cell (j := 4) G0.out rfl
  have c0_5 := heap_cell (j := 5) G0.out rfl
  have l0 := heap_lt G0.out
  have c1_0 := heap_cell (j := 0) G1.out rfl
  have c1_1 := heap_cell (j := 1) G1.out rfl
  have c1_2 := heap_cell (j := 2) G1.out rfl
  have c1_3 := heap_cell (j := 3) G1.out rfl
  have c1_4 := heap_cell (j := 4) G1.out rfl
  have c1_5 := heap_cell (j := 5) G1.out rfl
  have l1 := heap_lt G1.out
  go_wp2_with fail
  refine Calls.mono (HB1.out _) ?_
  rintro e w2 ⟨rfl, hb⟩
  clear c0_0 c0_1 c0_2 c0_3 c0_4 c0_5 l0 c1_0 c1_1 c1_2 c1_3 c1_4 c1_5 l1
  replace G0 : Hid (w2.heap[w.heap.size]? = some (.cells #[.int .u8 ph, .int .i64 gl, .int .i64 sw, .int .i64 fr, .int .i64 bg, .bool ak] 27 (0, 0))) := keepB hb G0.out
  replace G1 : Hid (w2.heap[g1]? = some (.cells #[.int .i64 ce, .int .i64 ag, .int .i64 th, .bool st, .bool tl, .bool gr] 29 (0, 0))) := keepB hb G1.out
  replace HB : Hid (Below w.heap.size w w2) := HB.out.trans (hb.mono HB.out.size)
  clear hb
  go_upto_region 3 with fail
  replace G0 : Hid ((w2.alloc (.cells #[.int .u8 b0, .int .i64 b1, .int .i64 b2, .int .i64 b3, .int .i64 b4, .bool b5] 27)).heap[w.heap.size]? = some (.cells #[.int .u8 ph, .int .i64 gl, .int .i64 sw, .int .i64 fr, .int .i64 bg, .bool ak] 27 (0, 0))) := keepA G0.out _
  replace G1 : Hid ((w2.alloc (.cells #[.int .u8 b0, .int .i64 b1, .int .i64 b2, .int .i64 b3, .int .i64 b4, .bool b5] 27)).heap[g1]? = some (.cells #[.int .i64 ce, .int .i64 ag, .int .i64 th, .bool st, .bool tl, .bool gr] 29 (0, 0))) := keepA G1.out _
  have G2 : Hid ((w2.alloc (.cells #[.int .u8 b0, .int .i64 b1, .int .i64 b2, .int .i64 b3, .int .i64 b4, .bool b5] 27)).heap[w2.heap.size]? = some (.cells #[.int .u8 b0, .int .i64 b1, .int .i64 b2, .int .i64 b3, .int .i64 b4, .bool b5] 27 (0, 0))) := heap_alloc_new _ _
  replace HB : Hid (Below w.heap.size w (w2.alloc (.cells #[.int .u8 b0, .int .i64 b1, .int .i64 b2, .int .i64 b3, .int .i64 b4, .bool b5] 27))) := HB.out.alloc HB.out.size _
  generalize w2.alloc (.cells #[.int .u8 b0, .int .i64 b1, .int .i64 b2, .int .i64 b3, .int .i64 b4, .bool b5] 27) = W2 at HB G0 G1 G2 ⊢
  generalize w2.heap.size = g2 at G2 ⊢
  have c0_0 := heap_cell (j := 0) G0.out rfl
  have c0_1 := heap_cell (j := 1) G0.out rfl
  have c0_2 := heap_cell (j := 2) G0.out rfl
  have c0_3 := heap_cell (j := 3) G0.out rfl
  have c0_4 := heap_cell (j := 4) G0.out rfl
  have c0_5 := heap_cell (j := 5) G0.out rfl
  have l0 := heap_lt G0.out
  have c1_0 := heap_cell (j := 0) G1.out rfl
  have c1_1 := heap_cell (j := 1) G1.out rfl
  have c1_2 := heap_cell (j := 2) G1.out rfl
  have c1_3 := heap_cell (j := 3) G1.out rfl
  have c1_4 := heap_cell (j := 4) G1.out rfl
  have c1_5 := heap_cell (j := 5) G1.out rfl
  have l1 := heap_lt G1.out
  have c2_0 := heap_cell (j := 0) G2.out rfl
  have c2_1 := heap_cell (j := 1) G2.out rfl
  have c2_2 := heap_cell (j := 2) G2.out rfl
  have c2_3 := heap_cell (j := 3) G2.out rfl
  have c2_4 := heap_cell (j := 4) G2.out rfl
  have c2_5 := heap_cell (j := 5) G2.out rfl
  have l2 := heap_lt G2.out
  go_wp2_with fail
  refine Calls.mono (HB2.out _) ?_
  rintro e w3 ⟨rfl, hb⟩
  clear c0_0 c0_1 c0_2 c0_3 c0_4 c0_5 l0 c1_0 c1_1 c1_2 c1_3 c1_4 c1_5 l1 c2_0 c2_1 c2_2 c2_3 c2_4 c2_5 l2
  replace G0 : Hid (w3.heap[w.heap.size]? = some (.cells #[.int .u8 ph, .int .i64 gl, .int .i64 sw, .int .i64 fr, .int .i64 bg, .bool ak] 27 (0, 0))) := keepB hb G0.out
  replace G1 : Hid (w3.heap[g1]? = some (.cells #[.int .i64 ce, .int .i64 ag, .int .i64 th, .bool st, .bool tl, .bool gr] 29 (0, 0))) := keepB hb G1.out
  replace G2 : Hid (w3.heap[g2]? = some (.cells #[.int .u8 b0, .int .i64 b1, .int .i64 b2, .int .i64 b3, .int .i64 b4, .bool b5] 27 (0, 0))) := keepB hb G2.out
  replace HB : Hid (Below w.heap.size w w3) := HB.out.trans (hb.mono HB.out.size)
  clear hb
  go_upto_region 4 with fail
  replace G0 : Hid ((w3.alloc (.cells #[.int .u8 b0, .int .i64 b1, .int .i64 b2, .int .i64 b3, .int .i64 b4, .bool b5] 27)).heap[w.heap.size]? = some (.cells #[.int .u8 ph, .int .i64 gl, .int .i64 sw, .int .i64 fr, .int .i64 bg, .bool ak] 27 (0, 0))) := keepA G0.out _
  replace G1 : Hid ((w3.alloc (.cells #[.int .u8 b0, .int .i64 b1, .int .i64 b2, .int .i64 b3, .int .i64 b4, .bool b5] 27)).heap[g1]? = some (.cells #[.int .i64 ce, .int .i64 ag, .int .i64 th, .bool st, .bool tl, .bool gr] 29 (0, 0))) := keepA G1.out _
  replace G2 : Hid ((w3.alloc (.cells #[.int .u8 b0, .int .i64 b1, .int .i64 b2, .int .i64 b3, .int .i64 b4, .bool b5] 27)).heap[g2]? = some (.cells #[.int .u8 b0, .int .i64 b1, .int .i64 b2, .int .i64 b3, .int .i64 b4, .bool b5] 27 (0, 0))) := keepA G2.out _
  have G3 : Hid ((w3.alloc (.cells #[.int .u8 b0, .int .i64 b1, .int .i64 b2, .int .i64 b3, .int .i64 b4, .bool b5] 27)).heap[w3.heap.size]? = some (.cells #[.int .u8 b0, .int .i64 b1, .int .i64 b2, .int .i64 b3, .int .i64 b4, .bool b5] 27 (0, 0))) := heap_alloc_new _ _
  replace HB : Hid (Below w.heap.size w (w3.alloc (.cells #[.int .u8 b0, .int .i64 b1, .int .i64 b2, .int .i64 b3, .int .i64 b4, .bool b5] 27))) := HB.out.alloc HB.out.size _
  generalize w3.alloc (.cells #[.int .u8 b0, .int .i64 b1, .int .i64 b2, .int .i64 b3, .int .i64 b4, .bool b5] 27) = W3 at HB G0 G1 G2 G3 ⊢
  generalize w3.heap.size = g3 at G3 ⊢
  have c0_0 := heap_cell (j := 0) G0.out rfl
  have c0_1 := heap_cell (j := 1) G0.out rfl
  have c0_2 := heap_cell (j := 2) G0.out rfl
  have c0_3 := heap_cell (j := 3) G0.out rfl
  have c0_4 := heap_cell (j := 4) G0.out rfl
  have c0_5 := heap_cell (j := 5) G0.out rfl
  have l0 := heap_lt G0.out
  have c1_0 := heap_cell (j := 0) G1.out rfl
  have c1_1 := heap_cell (j := 1) G1.out rfl
  have c1_2 := heap_cell (j := 2) G1.out rfl
  have c1_3 := heap_cell (j := 3) G1.out rfl
  have c1_4 := heap_cell (j := 4) G1.out rfl
  have c1_5 := heap_cell (j := 5) G1.out rfl
  have l1 := heap_lt G1.out
  have c2_0 := heap_cell (j := 0) G2.out rfl
  have c2_1 := heap_cell (j := 1) G2.out rfl
  have c2_2 := heap_cell (j := 2) G2.out rfl
  have c2_3 := heap_cell (j := 3) G2.out rfl
  have c2_4 := heap_cell (j := 4) G2.out rfl
  have c2_5 := heap_cell (j := 5) G2.out rfl
  have l2 := heap_lt G2.out
  have c3_0 := heap_cell (j := 0) G3.out rfl
  have c3_1 := heap_cell (j := 1) G3.out rfl
  have c3_2 := heap_cell (j := 2) G3.out rfl
  have c3_3 := heap_cell (j := 3) G3.out rfl
  have c3_4 := heap_cell (j := 4) G3.out rfl
  have c3_5 := heap_cell (j := 5) G3.out rfl
  have l3 := heap_lt G3.out
  go_wp2_with fail
  refine Calls.mono (HN1.out _) ?_
  rintro e w4 ⟨rfl, hb⟩
  clear c0_0 c0_1 c0_2 c0_3 c0_4 c0_5 l0 c1_0 c1_1 c1_2 c1_3 c1_4 c1_5 l1 c2_0 c2_1 c2_2 c2_3 c2_4 c2_5 l2 c3_0 c3_1 c3_2 c3_3 c3_4 c3_5 l3
  replace G0 : Hid (w4.heap[w.heap.size]? = some (.cells #[.int .u8 ph, .int .i64 gl, .int .i64 sw, .int .i64 fr, .int .i64 bg, .bool ak] 27 (0, 0))) := keepB hb G0.out
  replace G1 : Hid (w4.heap[g1]? = some (.cells #[.int .i64 ce, .int .i64 ag, .int .i64 th, .bool st, .bool tl, .bool gr] 29 (0, 0))) := keepB hb G1.out
  replace G2 : Hid (w4.heap[g2]? = some (.cells #[.int .u8 b0, .int .i64 b1, .int .i64 b2, .int .i64 b3, .int .i64 b4, .bool b5] 27 (0, 0))) := keepB hb G2.out
  replace G3 : Hid (w4.heap[g3]? = some (.cells #[.int .u8 b0, .int .i64 b1, .int .i64 b2, .int .i64 b3, .int .i64 b4, .bool b5] 27 (0, 0))) := keepB hb G3.out
  replace HB : Hid (Below w.heap.size w w4) := HB.out.trans (hb.mono HB.out.size)
  clear hb
  go_upto_region 5 with fail
  replace G0 : Hid ((w4.alloc (.cells #[.int .u8 d0, .int .i64 d1, .int .i64 d2, .int .i64 d3] 34)).heap[w.heap.size]? = some (.cells #[.int .u8 ph, .int .i64 gl, .int .i64 sw, .int .i64 fr, .int .i64 bg, .bool ak] 27 (0, 0))) := keepA G0.out _
  replace G1 : Hid ((w4.alloc (.cells #[.int .u8 d0, .int .i64 d1, .int .i64 d2, .int .i64 d3] 34)).heap[g1]? = some (.cells #[.int .i64 ce, .int .i64 ag, .int .i64 th, .bool st, .bool tl, .bool gr] 29 (0, 0))) := keepA G1.out _
  replace G2 : Hid ((w4.alloc (.cells #[.int .u8 d0, .int .i64 d1, .int .i64 d2, .int .i64 d3] 34)).heap[g2]? = some (.cells #[.int .u8 b0, .int .i64 b1, .int .i64 b2, .int .i64 b3, .int .i64 b4, .bool b5] 27 (0, 0))) := keepA G2.out _
  replace G3 : Hid ((w4.alloc (.cells #[.int .u8 d0, .int .i64 d1, .int .i64 d2, .int .i64 d3] 34)).heap[g3]? = some (.cells #[.int .u8 b0, .int .i64 b1, .int .i64 b2, .int .i64 b3, .int .i64 b4, .bool b5] 27 (0, 0))) := keepA G3.out _
  have G4 : Hid ((w4.alloc (.cells #[.int .u8 d0, .int .i64 d1, .int .i64 d2, .int .i64 d3] 34)).heap[w4.heap.size]? = some (.cells #[.int .u8 d0, .int .i64 d1, .int .i64 d2, .int .i64 d3] 34 (0, 0))) := heap_alloc_new _ _
  replace HB : Hid (Below w.heap.size w (w4.alloc (.cells #[.int .u8 d0, .int .i64 d1, .int .i64 d2, .int .i64 d3] 34))) := HB.out.alloc HB.out.size _
  generalize w4.alloc (.cells #[.int .u8 d0, .int .i64 d1, .int .i64 d2, .int .i64 d3] 34) = W4 at HB G0 G1 G2 G3 G4 ⊢
  generalize w4.heap.size = g4 at G4 ⊢
  have c0_0 := heap_cell (j := 0) G0.out rfl
  have c0_1 := heap_cell (j := 1) G0.out rfl
  have c0_2 := heap_cell (j := 2) G0.out rfl
  have c0_3 := heap_cell (j := 3) G0.out rfl
  have c0_4 := heap_cell (j := 4) G0.out rfl
  have c0_5 := heap_cell (j := 5) G0.out rfl
  have l0 := heap_lt G0.out
  have c1_0 := heap_cell (j := 0) G1.out rfl
  have c1_1 := heap_cell (j := 1) G1.out rfl
  have c1_2 := heap_cell (j := 2) G1.out rfl
  have c1_3 := heap_cell (j := 3) G1.out rfl
  have c1_4 := heap_cell (j := 4) G1.out rfl
  have c1_5 := heap_cell (j := 5) G1.out rfl
  have l1 := heap_lt G1.out
  have c2_0 := heap_cell (j := 0) G2.out rfl
  have c2_1 := heap_cell (j := 1) G2.out rfl
  have c2_2 := heap_cell (j := 2) G2.out rfl
  have c2_3 := heap_cell (j := 3) G2.out rfl
  have c2_4 := heap_cell (j := 4) G2.out rfl
  have c2_5 := heap_cell (j := 5) G2.out rfl
  have l2 := heap_lt G2.out
  have c3_0 := heap_cell (j := 0) G3.out rfl
  have c3_1 := heap_cell (j := 1) G3.out rfl
  have c3_2 := heap_cell (j := 2) G3.out rfl
  have c3_3 := heap_cell (j := 3) G3.out rfl
  have c3_4 := heap_cell (j := 4) G3.out rfl
  have c3_5 := heap_cell (j := 5) G3.out rfl
  have l3 := heap_lt G3.out
  have c4_0 := heap_cell (j := 0) G4.out rfl
  have c4_1 := heap_cell (j := 1) G4.out rfl
  have c4_2 := heap_cell (j := 2) G4.out rfl
  have c4_3 := heap_cell (j := 3) G4.out rfl
  have l4 := heap_lt G4.out
  go_wp2_with fail
  refine Calls.mono (HS1.out _) ?_
  rintro e w5 ⟨rfl, hb⟩
  clear c0_0 c0_1 c0_2 c0_3 c0_4 c0_5 l0 c1_0 c1_1 c1_2 c1_3 c1_4 c1_5 l1 c2_0 c2_1 c2_2 c2_3 c2_4 c2_5 l2 c3_0 c3_1 c3_2 c3_3 c3_4 c3_5 l3 c4_0 c4_1 c4_2 c4_3 l4
  replace G0 : Hid (w5.heap[w.heap.size]? = some (.cells #[.int .u8 ph, .int .i64 gl, .int .i64 sw, .int .i64 fr, .int .i64 bg, .bool ak] 27 (0, 0))) := keepB hb G0.out
  replace G1 : Hid (w5.heap[g1]? = some (.cells #[.int .i64 ce, .int .i64 ag, .int .i64 th, .bool st, .bool tl, .bool gr] 29 (0, 0))) := keepB hb G1.out
  replace G2 : Hid (w5.heap[g2]? = some (.cells #[.int .u8 b0, .int .i64 b1, .int .i64 b2, .int .i64 b3, .int .i64 b4, .bool b5] 27 (0, 0))) := keepB hb G2.out
  replace G3 : Hid (w5.heap[g3]? = some (.cells #[.int .u8 b0, .int .i64 b1, .int .i64 b2, .int .i64 b3, .int .i64 b4, .bool b5] 27 (0, 0))) := keepB hb G3.out
  replace G4 : Hid (w5.heap[g4]? = some (.cells #[.int .u8 d0, .int .i64 d1, .int .i64 d2, .int .i64 d3] 34 (0, 0))) := keepB hb G4.out
  replace HB : Hid (Below w.heap.size w w5) := HB.out.trans (hb.mono HB.out.size)
  clear hb
  go_upto_region 6 with fail
  replace G0 : Hid ((w5.alloc (.cells #[.int .u8 s0, .int .i64 s1, .int .i64 s2, .int .i64 s3, .int .i64 s4, .bool s5] 27)).heap[w.heap.size]? = some (.cells #[.int .u8 ph, .int .i64 gl, .int .i64 sw, .int .i64 fr, .int .i64 bg, .bool ak] 27 (0, 0))) := keepA G0.out _
  replace G1 : Hid ((w5.alloc (.cells #[.int .u8 s0, .int .i64 s1, .int .i64 s2, .int .i64 s3, .int .i64 s4, .bool s5] 27)).heap[g1]? = some (.cells #[.int .i64 ce, .int .i64 ag, .int .i64 th, .bool st, .bool tl, .bool gr] 29 (0, 0))) := keepA G1.out _
  replace G2 : Hid ((w5.alloc (.cells #[.int .u8 s0, .int .i64 s1, .int .i64 s2, .int .i64 s3, .int .i64 s4, .bool s5] 27)).heap[g2]? = some (.cells #[.int .u8 b0, .int .i64 b1, .int .i64 b2, .int .i64 b3, .int .i64 b4, .bool b5] 27 (0, 0))) := keepA G2.out _
  replace G3 : Hid ((w5.alloc (.cells #[.int .u8 s0, .int .i64 s1, .int .i64 s2, .int .i64 s3, .int .i64 s4, .bool s5] 27)).heap[g3]? = some (.cells #[.int .u8 b0, .int .i64 b1, .int .i64 b2, .int .i64 b3, .int .i64 b4, .bool b5] 27 (0, 0))) := keepA G3.out _
  replace G4 : Hid ((w5.alloc (.cells #[.int .u8 s0, .int .i64 s1, .int .i64 s2, .int .i64 s3, .int .i64 s4, .bool s5] 27)).heap[g4]? = some (.cells #[.int .u8 d0, .int .i64 d1, .int .i64 d2, .int .i64 d3] 34 (0, 0))) := keepA G4.out _
  have G5 : Hid ((w5.alloc (.cells #[.int .u8 s0, .int .i64 s1, .int .i64 s2, .int .i64 s3, .int .i64 s4, .bool s5] 27)).heap[w5.heap.size]? = some (.cells #[.int .u8 s0, .int .i64 s1, .int .i64 s2, .int .i64 s3, .int .i64 s4, .bool s5] 27 (0, 0))) := heap_alloc_new _ _
  replace HB : Hid (Below w.heap.size w (w5.alloc (.cells #[.int .u8 s0, .int .i64 s1, .int .i64 s2, .int .i64 s3, .int .i64 s4, .bool s5] 27))) := HB.out.alloc HB.out.size _
  generalize w5.alloc (.cells #[.int .u8 s0, .int .i64 s1, .int .i64 s2, .int .i64 s3, .int .i64 s4, .bool s5] 27) = W5 at HB G0 G1 G2 G3 G4 G5 ⊢
  generalize w5.heap.size = g5 at G5 ⊢
  have c0_0 := heap_cell (j := 0) G0.out rfl
  have c0_1 := heap_cell (j := 1) G0.out rfl
  have c0_2 := heap_cell (j := 2) G0.out rfl
  have c0_3 := heap_cell (j := 3) G0.out rfl
  have c0_4 := heap_cell (j := 4) G0.out rfl
  have c0_5 := heap_cell (j := 5) G0.out rfl
  have l0 := heap_lt G0.out
  have c1_0 := heap_cell (j := 0) G1.out rfl
  have c1_1 := heap_cell (j := 1) G1.out rfl
  have c1_2 := heap_cell (j := 2) G1.out rfl
  have c1_3 := heap_cell (j := 3) G1.out rfl
  have c1_4 := heap_cell (j := 4) G1.out rfl
  have c1_5 := heap_cell (j := 5) G1.out rfl
  have l1 := heap_lt G1.out
  have c2_0 := heap_cell (j := 0) G2.out rfl
  have c2_1 := heap_cell (j := 1) G2.out rfl
  have c2_2 := heap_cell (j := 2) G2.out rfl
  have c2_3 := heap_cell (j := 3) G2.out rfl
  have c2_4 := heap_cell (j := 4) G2.out rfl
  have c2_5 := heap_cell (j := 5) G2.out rfl
  have l2 := heap_lt G2.out
  have c3_0 := heap_cell (j := 0) G3.out rfl
  have c3_1 := heap_cell (j := 1) G3.out rfl
  have c3_2 := heap_cell (j := 2) G3.out rfl
  have c3_3 := heap_cell (j := 3) G3.out rfl
  have c3_4 := heap_cell (j := 4) G3.out rfl
  have c3_5 := heap_cell (j := 5) G3.out rfl
  have l3 := heap_lt G3.out
  have c4_0 := heap_cell (j := 0) G4.out rfl
  have c4_1 := heap_cell (j := 1) G4.out rfl
  have c4_2 := heap_cell (j := 2) G4.out rfl
  have c4_3 := heap_cell (j := 3) G4.out rfl
  have l4 := heap_lt G4.out
  have c5_0 := heap_cell (j := 0) G5.out rfl
  have c5_1 := heap_cell (j := 1) G5.out rfl
  have c5_2 := heap_cell (j := 2) G5.out rfl
  have c5_3 := heap_cell (j := 3) G5.out rfl
  have c5_4 := heap_cell (j := 4) G5.out rfl
  have c5_5 := heap_cell (j := 5) G5.out rfl
  have l5 := heap_lt G5.out
  go_wp2_with fail
  refine Calls.mono (HS2.out _) ?_
  rintro e w6 ⟨rfl, hb⟩
  clear c0_0 c0_1 c0_2 c0_3 c0_4 c0_5 l0 c1_0 c1_1 c1_2 c1_3 c1_4 c1_5 l1 c2_0 c2_1 c2_2 c2_3 c2_4 c2_5 l2 c3_0 c3_1 c3_2 c3_3 c3_4 c3_5 l3 c4_0 c4_1 c4_2 c4_3 l4 c5_0 c5_1 c5_2 c5_3 c5_4 c5_5 l5
  replace G0 : Hid (w6.heap[w.heap.size]? = some (.cells #[.int .u8 ph, .int .i64 gl, .int .i64 sw, .int .i64 fr, .int .i64 bg, .bool ak] 27 (0, 0))) := keepB hb G0.out
  replace G1 : Hid (w6.heap[g1]? = some (.cells #[.int .i64 ce, .int .i64 ag, .int .i64 th, .bool st, .bool tl, .bool gr] 29 (0, 0))) := keepB hb G1.out
  replace G2 : Hid (w6.heap[g2]? = some (.cells #[.int .u8 b0, .int .i64 b1, .int .i64 b2, .int .i64 b3, .int .i64 b4, .bool b5] 27 (0, 0))) := keepB hb G2.out
  replace G3 : Hid (w6.heap[g3]? = some (.cells #[.int .u8 b0, .int .i64 b1, .int .i64 b2, .int .i64 b3, .int .i64 b4, .bool b5] 27 (0, 0))) := keepB hb G3.out
  replace G4 : Hid (w6.heap[g4]? = some (.cells #[.int .u8 d0, .int .i64 d1, .int .i64 d2, .int .i64 d3] 34 (0, 0))) := keepB hb G4.out
  replace G5 : Hid (w6.heap[g5]? = some (.cells #[.int .u8 s0, .int .i64 s1, .int .i64 s2, .int .i64 s3, .int .i64 s4, .bool s5] 27 (0, 0))) := keepB hb G5.out
  replace HB : Hid (Below w.heap.size w w6) := HB.out.trans (hb.mono HB.out.size)
  clear hb
  go_upto_region 7 with fail
  replace G0 : Hid ((w6.alloc (.cells #[.int .u8 s0, .int .i64 s1, .int .i64 s2, .int .i64 s3, .int .i64 s4, .bool s5] 27)).heap[w.heap.size]? = some (.cells #[.int .u8 ph, .int .i64 gl, .int .i64 sw, .int .i64 fr, .int .i64 bg, .bool ak] 27 (0, 0))) := keepA G0.out _
  replace G1 : Hid ((w6.alloc (.cells #[.int .u8 s0, .int .i64 s1, .int .i64 s2, .int .i64 s3, .int .i64 s4, .bool s5] 27)).heap[g1]? = some (.cells #[.int .i64 ce, .int .i64 ag, .int .i64 th, .bool st, .bool tl, .bool gr] 29 (0, 0))) := keepA G1.out _
  replace G2 : Hid ((w6.alloc (.cells #[.int .u8 s0, .int .i64 s1, .int .i64 s2, .int .i64 s3, .int .i64 s4, .bool s5] 27)).heap[g2]? = some (.cells #[.int .u8 b0, .int .i64 b1, .int .i64 b2, .int .i64 b3, .int .i64 b4, .bool b5] 27 (0, 0))) := keepA G2.out _
  replace G3 : Hid ((w6.alloc (.cells #[.int .u8 s0, .int .i64 s1, .int .i64 s2, .int .i64 s3, .int .i64 s4, .bool s5] 27)).heap[g3]? = some (.cells #[.int .u8 b0, .int .i64 b1, .int .i64 b2, .int .i64 b3, .int .i64 b4, .bool b5] 27 (0, 0))) := keepA G3.out _
  replace G4 : Hid ((w6.alloc (.cells #[.int .u8 s0, .int .i64 s1, .int .i64 s2, .int .i64 s3, .int .i64 s4, .bool s5] 27)).heap[g4]? = some (.cells #[.int .u8 d0, .int .i64 d1, .int .i64 d2, .int .i64 d3] 34 (0, 0))) := keepA G4.out _
  replace G5 : Hid ((w6.alloc (.cells #[.int .u8 s0, .int .i64 s1, .int .i64 s2, .int .i64 s3, .int .i64 s4, .bool s5] 27)).heap[g5]? = some (.cells #[.int .u8 s0, .int .i64 s1, .int .i64 s2, .int .i64 s3, .int .i64 s4, .bool s5] 27 (0, 0))) := keepA G5.out _
  have G6 : Hid ((w6.alloc (.cells #[.int .u8 s0, .int .i64 s1, .int .i64 s2, .int .i64 s3, .int .i64 s4, .bool s5] 27)).heap[w6.heap.size]? = some (.cells #[.int .u8 s0, .int .i64 s1, .int .i64 s2, .int .i64 s3, .int .i64 s4, .bool s5] 27 (0, 0))) := heap_alloc_new _ _
  replace HB : Hid (Below w.heap.size w (w6.alloc (.cells #[.int .u8 s0, .int .i64 s1, .int .i64 s2, .int .i64 s3, .int .i64 s4, .bool s5] 27))) := HB.out.alloc HB.out.size _
  generalize w6.alloc (.cells #[.int .u8 s0, .int .i64 s1, .int .i64 s2, .int .i64 s3, .int .i64 s4, .bool s5] 27) = W6 at HB G0 G1 G2 G3 G4 G5 G6 ⊢
  generalize w6.heap.size = g6 at G6 ⊢
  have c0_0 := heap_cell (j := 0) G0.out rfl
  have c0_1 := heap_cell (j := 1) G0.out rfl
  have c0_2 := heap_cell (j := 2) G0.out rfl
  have c0_3 := heap_cell (j := 3) G0.out rfl
  have c0_4 := heap_cell (j := 4) G0.out rfl
  have c0_5 := heap_cell (j := 5) G0.out rfl
  have l0 := heap_lt G0.out
  have c1_0 := heap_cell (j := 0) G1.out rfl
  have c1_1 := heap_cell (j := 1) G1.out rfl
  have c1_2 := heap_cell (j := 2) G1.out rfl
  have c1_3 := heap_cell (j := 3) G1.out rfl
  have c1_4 := heap_cell (j := 4) G1.out rfl
  have c1_5 := heap_cell (j := 5) G1.out rfl
  have l1 := heap_lt G1.out
  have c2_0 := heap_cell (j := 0) G2.out rfl
  have c2_1 := heap_cell (j := 1) G2.out rfl
  have c2_2 := heap_cell (j := 2) G2.out rfl
  have c2_3 := heap_cell (j := 3) G2.out rfl
  have c2_4 := heap_cell (j := 4) G2.out rfl
  have c2_5 := heap_cell (j := 5) G2.out rfl
  have l2 := heap_lt G2.out
  have c3_0 := heap_cell (j := 0) G3.out rfl
  have c3_1 := heap_cell (j := 1) G3.out rfl
  have c3_2 := heap_cell (j := 2) G3.out rfl
  have c3_3 := heap_cell (j := 3) G3.out rfl
  have c3_4 := heap_cell (j := 4) G3.out rfl
  have c3_5 := heap_cell (j := 5) G3.out rfl
  have l3 := heap_lt G3.out
  have c4_0 := heap_cell (j := 0) G4.out rfl
  have c4_1 := heap_cell (j := 1) G4.out rfl
  have c4_2 := heap_cell (j := 2) G4.out rfl
  have c4_3 := heap_cell (j := 3) G4.out rfl
  have l4 := heap_lt G4.out
  have c5_0 := heap_cell (j := 0) G5.out rfl
  have c5_1 := heap_cell (j := 1) G5.out rfl
  have c5_2 := heap_cell (j := 2) G5.out rfl
  have c5_3 := heap_cell (j := 3) G5.out rfl
  have c5_4 := heap_cell (j := 4) G5.out rfl
  have c5_5 := heap_cell (j := 5) G5.out rfl
  have l5 := heap_lt G5.out
  have c6_0 := heap_cell (j := 0) G6.out rfl
  have c6_1 := heap_cell (j := 1) G6.out rfl
  have c6_2 := heap_cell (j := 2) G6.out rfl
  have c6_3 := heap_cell (j := 3) G6.out rfl
  have c6_4 := heap_cell (j := 4) G6.out rfl
  have c6_5 := heap_cell (j := 5) G6.out rfl
  have l6 := heap_lt G6.out
  go_wp2_with fail
  refine Calls.mono (HM1.out _) ?_
  rintro e w7 ⟨rfl, rfl⟩
  have HK : Hid (∀ wx : World, Below w7.heap.size w7 wx → wx.cell? ⟨w.heap.size, 0, none⟩ = some (.int .u8 ph) ∧ wx.cell? ⟨w.heap.size, 1, none⟩ = some (.int .i64 gl) ∧ wx.cell? ⟨w.heap.size, 2, none⟩ = some (.int .i64 sw) ∧ wx.cell? ⟨w.heap.size, 3, none⟩ = some (.int .i64 fr) ∧ wx.cell? ⟨w.heap.size, 4, none⟩ = some (.int .i64 bg) ∧ wx.cell? ⟨w.heap.size, 5, none⟩ = some (.bool ak) ∧ wx.cell? ⟨g1, 0, none⟩ = some (.int .i64 ce) ∧ wx.cell? ⟨g1, 1, none⟩ = some (.int .i64 ag) ∧ wx.cell? ⟨g1, 2, none⟩ = some (.int .i64 th) ∧ wx.cell? ⟨g1, 3, none⟩ = some (.bool st) ∧ wx.cell? ⟨g1, 4, none⟩ = some (.bool tl) ∧ wx.cell? ⟨g1, 5, none⟩ = some (.bool gr) ∧ wx.cell? ⟨g2, 0, none⟩ = some (.int .u8 b0) ∧ wx.cell? ⟨g2, 1, none⟩ = some (.int .i64 b1) ∧ wx.cell? ⟨g2, 2, none⟩ = some (.int .i64 b2) ∧ wx.cell? ⟨g2, 3, none⟩ = some (.int .i64 b3) ∧ wx.cell? ⟨g2, 4, none⟩ = some (.int .i64 b4) ∧ wx.cell? ⟨g2, 5, none⟩ = some (.bool b5) ∧ wx.cell? ⟨g3, 0, none⟩ = some (.int .u8 b0) ∧ wx.cell? ⟨g3, 1, none⟩ = some (.int .i64 b1) ∧ wx.cell? ⟨g3, 2, none⟩ = some (.int .i64 b2) ∧ wx.cell? ⟨g3, 3, none⟩ = some (.int .i64 b3) ∧ wx.cell? ⟨g3, 4, none⟩ = some (.int .i64 b4) ∧ wx.cell? ⟨g3, 5, none⟩ = some (.bool b5) ∧ wx.cell? ⟨g4, 0, none⟩ = some (.int .u8 d0) ∧ wx.cell? ⟨g4, 1, none⟩ = some (.int .i64 d1) ∧ wx.cell? ⟨g4, 2, none⟩ = some (.int .i64 d2) ∧ wx.cell? ⟨g4, 3, none⟩ = some (.int .i64 d3) ∧ wx.cell? ⟨g5, 0, none⟩ = some (.int .u8 s0) ∧ wx.cell? ⟨g5, 1, none⟩ = some (.int .i64 s1) ∧ wx.cell? ⟨g5, 2, none⟩ = some (.int .i64 s2) ∧ wx.cell? ⟨g5, 3, none⟩ = some (.int .i64 s3) ∧ wx.cell? ⟨g5, 4, none⟩ = some (.int .i64 s4) ∧ wx.cell? ⟨g5, 5, none⟩ = some (.bool s5) ∧ wx.cell? ⟨g6, 0, none⟩ = some (.int .u8 s0) ∧ wx.cell? ⟨g6, 1, none⟩ = some (.int .i64 s1) ∧ wx.cell? ⟨g6, 2, none⟩ = some (.int .i64 s2) ∧ wx.cell? ⟨g6, 3, none⟩ = some (.int .i64 s3) ∧ wx.cell? ⟨g6, 4, none⟩ = some (.int .i64 s4) ∧ wx.cell? ⟨g6, 5, none⟩ = some (.bool s5) ∧ w.heap.size < wx.heap.size ∧ g1 < wx.heap.size ∧ g2 < wx.heap.size ∧ g3 < wx.heap.size ∧ g4 < wx.heap.size ∧ g5 < wx.heap.size ∧ g6 < wx.heap.size) := fun wx hb => ⟨heap_cell (keepB hb G0.out) rfl, heap_cell (keepB hb G0.out) rfl, heap_cell (keepB hb G0.out) rfl, heap_cell (keepB hb G0.out) rfl, heap_cell (keepB hb G0.out) rfl, heap_cell (keepB hb G0.out) rfl, heap_cell (keepB hb G1.out) rfl, heap_cell (keepB hb G1.out) rfl, heap_cell (keepB hb G1.out) rfl, heap_cell (keepB hb G1.out) rfl, heap_cell (keepB hb G1.out) rfl, heap_cell (keepB hb G1.out) rfl, heap_cell (keepB hb G2.out) rfl, heap_cell (keepB hb G2.out) rfl, heap_cell (keepB hb G2.out) rfl, heap_cell (keepB hb G2.out) rfl, heap_cell (keepB hb G2.out) rfl, heap_cell (keepB hb G2.out) rfl, heap_cell (keepB hb G3.out) rfl, heap_cell (keepB hb G3.out) rfl, heap_cell (keepB hb G3.out) rfl, heap_cell (keepB hb G3.out) rfl, heap_cell (keepB hb G3.out) rfl, heap_cell (keepB hb G3.out) rfl, heap_cell (keepB hb G4.out) rfl, heap_cell (keepB hb G4.out) rfl, heap_cell (keepB hb G4.out) rfl, heap_cell (keepB hb G4.out) rfl, heap_cell (keepB hb G5.out) rfl, heap_cell (keepB hb G5.out) rfl, heap_cell (keepB hb G5.out) rfl, heap_cell (keepB hb G5.out) rfl, heap_cell (keepB hb G5.out) rfl, heap_cell (keepB hb G5.out) rfl, heap_cell (keepB hb G6.out) rfl, heap_cell (keepB hb G6.out) rfl, heap_cell (keepB hb G6.out) rfl, heap_cell (keepB hb G6.out) rfl, heap_cell (keepB hb G6.out) rfl, heap_cell (keepB hb G6.out) rfl, heap_lt (keepB hb G0.out), heap_lt (keepB hb G1.out), heap_lt (keepB hb G2.out), heap_lt (keepB hb G3.out), heap_lt (keepB hb G4.out), heap_lt (keepB hb G5.out), heap_lt (keepB hb G6.out)⟩
  go_wp2_with fail
  go_region_held3 (fun wx : World => wx.cell? ⟨w.heap.size, 0, none⟩ = some (.int .u8 ph) ∧ wx.cell? ⟨w.heap.size, 1, none⟩ = some (.int .i64 gl) ∧ wx.cell? ⟨w.heap.size, 2, none⟩ = some (.int .i64 sw) ∧ wx.cell? ⟨w.heap.size, 3, none⟩ = some (.int .i64 fr) ∧ wx.cell? ⟨w.heap.size, 4, none⟩ = some (.int .i64 bg) ∧ wx.cell? ⟨w.heap.size, 5, none⟩ = some (.bool ak) ∧ wx.cell? ⟨g1, 0, none⟩ = some (.int .i64 ce) ∧ wx.cell? ⟨g1, 1, none⟩ = some (.int .i64 ag) ∧ wx.cell? ⟨g1, 2, none⟩ = some (.int .i64 th) ∧ wx.cell? ⟨g1, 3, none⟩ = some (.bool st) ∧ wx.cell? ⟨g1, 4, none⟩ = some (.bool tl) ∧ wx.cell? ⟨g1, 5, none⟩ = some (.bool gr) ∧ wx.cell? ⟨g2, 0, none⟩ = some (.int .u8 b0) ∧ wx.cell? ⟨g2, 1, none⟩ = some (.int .i64 b1) ∧ wx.cell? ⟨g2, 2, none⟩ = some (.int .i64 b2) ∧ wx.cell? ⟨g2, 3, none⟩ = some (.int .i64 b3) ∧ wx.cell? ⟨g2, 4, none⟩ = some (.int .i64 b4) ∧ wx.cell? ⟨g2, 5, none⟩ = some (.bool b5) ∧ wx.cell? ⟨g3, 0, none⟩ = some (.int .u8 b0) ∧ wx.cell? ⟨g3, 1, none⟩ = some (.int .i64 b1) ∧ wx.cell? ⟨g3, 2, none⟩ = some (.int .i64 b2) ∧ wx.cell? ⟨g3, 3, none⟩ = some (.int .i64 b3) ∧ wx.cell? ⟨g3, 4, none⟩ = some (.int .i64 b4) ∧ wx.cell? ⟨g3, 5, none⟩ = some (.bool b5) ∧ wx.cell? ⟨g4, 0, none⟩ = some (.int .u8 d0) ∧ wx.cell? ⟨g4, 1, none⟩ = some (.int .i64 d1) ∧ wx.cell? ⟨g4, 2, none⟩ = some (.int .i64 d2) ∧ wx.cell? ⟨g4, 3, none⟩ = some (.int .i64 d3) ∧ wx.cell? ⟨g5, 0, none⟩ = some (.int .u8 s0) ∧ wx.cell? ⟨g5, 1, none⟩ = some (.int .i64 s1) ∧ wx.cell? ⟨g5, 2, none⟩ = some (.int .i64 s2) ∧ wx.cell? ⟨g5, 3, none⟩ = some (.int .i64 s3) ∧ wx.cell? ⟨g5, 4, none⟩ = some (.int .i64 s4) ∧ wx.cell? ⟨g5, 5, none⟩ = some (.bool s5) ∧ wx.cell? ⟨g6, 0, none⟩ = some (.int .u8 s0) ∧ wx.cell? ⟨g6, 1, none⟩ = some (.int .i64 s1) ∧ wx.cell? ⟨g6, 2, none⟩ = some (.int .i64 s2) ∧ wx.cell? ⟨g6, 3, none⟩ = some (.int .i64 s3) ∧ wx.cell? ⟨g6, 4, none⟩ = some (.int .i64 s4) ∧ wx.cell? ⟨g6, 5, none⟩ = some (.bool s5) ∧ w.heap.size < wx.heap.size ∧ g1 < wx.heap.size ∧ g2 < wx.heap.size ∧ g3 < wx.heap.size ∧ g4 < wx.heap.size ∧ g5 < wx.heap.size ∧ g6 < wx.heap.size) (first | (go_keep; done) | exact HK.out _ (Below.refl _ _).drew | exact HK.out _ ((Below.refl w7.heap.size w7).drew.trans hb)) (first | (go_at_call 13; refine Calls.mono (HN2.out _) ?_; rintro e wx ⟨rfl, hb⟩) | (go_at_call 14; refine Calls.mono (HM2.out _) ?_; rintro e wy ⟨rfl, rfl⟩) | fail)
  go_wp2_with fail
  go_ret
  exact ⟨rfl, HB.out.trans (((Below.refl w7.heap.size w7).drew.trans hb).mono HB.out.size)⟩
end Go.Proofs.Ytnohcmfhhoiihaa
