/- works: what the chapter's example fixes. -/
import Derived.Test.YtpkohocjgnodnaaGreatDoorHXMem
import Derived.Test.YtpkohocjgnodnaaGreatDoorGO
namespace Go.Proofs.YtpkohocjgnodnaaGreatDoor
open Go.RowKit

theorem ex_text : textV (exK 2) = .tuple #[S exT, .int .i64 0] := by
  unfold textV
  rw [if_pos (by show (chkC exC).1 = 0; rw [exC_ok]), show writtenT (exK 2) = exT from exT_is]
theorem ex_same : sameC (exK 2) exC = true := (sameC_iff _ _).2 rfl
/-- The example, and the block of the variable that holds it. -/
structure Wo (w W : World) (B b1 b2 b3 b4 b5 : Nat) : Prop where
  bel : Below w.heap.size w W
  ex : ExM W b1 b2 b3 b4 b5 2
  blk : W.heap[B]? = some (CO (.slice (some ⟨b1, 0, none⟩) 2 2) (.slice (some ⟨b5, 0, none⟩) 2 2) (.slice (some ⟨b2, 0, none⟩) 1 1))
  hB : w.heap.size ≤ B
  hb5 : w.heap.size ≤ b5
theorem Wo.next {w W W' : World} {B b1 b2 b3 b4 b5 : Nat} (h : Wo w W B b1 b2 b3 b4 b5) (hb : Below W.heap.size W W') : Wo w W' B b1 b2 b3 b4 b5 :=
  ⟨h.bel.trans (hb.mono h.bel.size), h.ex.below hb, (hb.block _ (heap_lt h.blk)).trans h.blk, h.hB, h.hb5⟩
theorem Wo.cells {w W : World} {B b1 b2 b3 b4 b5 : Nat} (h : Wo w W B b1 b2 b3 b4 b5) : W.cell? ⟨B, 0, none⟩ = some (.slice (some ⟨b1, 0, none⟩) 2 2) ∧ W.cell? ⟨B, 1, none⟩ = some (.slice (some ⟨b5, 0, none⟩) 2 2) ∧ W.cell? ⟨B, 2, none⟩ = some (.slice (some ⟨b2, 0, none⟩) 1 1) :=
  ⟨heap_cell h.blk rfl, heap_cell h.blk rfl, heap_cell h.blk rfl⟩
theorem Wo.start {w w1 : World} {b1 b2 b3 b4 b5 : Nat} (hm : ExM w1 b1 b2 b3 b4 b5 2) (hb : Below w.heap.size w w1) (h5 : w.heap.size ≤ b5) : Wo w (w1.alloc (CO (.slice (some ⟨b1, 0, none⟩) 2 2) (.slice (some ⟨b5, 0, none⟩) 2 2) (.slice (some ⟨b2, 0, none⟩) 1 1))) w1.heap.size b1 b2 b3 b4 b5 :=
  have hal := (Below.refl _ w1).alloc (Nat.le_refl _) (CO (.slice (some ⟨b1, 0, none⟩) 2 2) (.slice (some ⟨b5, 0, none⟩) 2 2) (.slice (some ⟨b2, 0, none⟩) 1 1))
  ⟨hb.trans (hal.mono hb.size), hm.below hal, heap_alloc_new _ _, hb.size, h5⟩
/-- Behind the store. -/
theorem Wo.cut {w W W' : World} {B b1 b2 b3 b4 b5 : Nat} (h : Wo w W B b1 b2 b3 b4 b5) (hn : B ≠ b5) (hw : W' = W.setCell ⟨b5, 3, none⟩ (.slice (some ⟨b4, 0, none⟩) 1 2)) : Below w.heap.size w W' ∧ ExM W' b1 b2 b3 b4 b5 1 ∧ W'.heap[B]? = some (CO (.slice (some ⟨b1, 0, none⟩) 2 2) (.slice (some ⟨b5, 0, none⟩) 2 2) (.slice (some ⟨b2, 0, none⟩) 1 1)) := by
  subst hw
  have h5 := set_atC (j := 3) h.ex.h5 (.slice (some ⟨b4, 0, none⟩) 1 2)
  have ne : ∀ {g : Nat} {cs : Array Value} {t : TypeId}, W.heap[g]? = some (.cells cs t (0, 0)) → t ≠ 64 → g ≠ b5 := fun hg ht e => by
    subst e; rw [h.ex.h5] at hg; cases hg; exact ht rfl
  refine ⟨h.bel.setCell (p := ⟨b5, 3, none⟩) h.hb5 _, ⟨?_, ?_, ?_, ?_, ?_⟩, ?_⟩
  · exact (Below.heap_setCell _ _ _ _ (ne h.ex.h1 (by decide))).trans h.ex.h1
  · exact (Below.heap_setCell _ _ _ _ (ne h.ex.h2 (by decide))).trans h.ex.h2
  · exact (Below.heap_setCell _ _ _ _ (ne h.ex.h3 (by decide))).trans h.ex.h3
  · exact (Below.heap_setCell _ _ _ _ (ne h.ex.h4 (by decide))).trans h.ex.h4
  · exact h5
  · exact (Below.heap_setCell _ _ _ _ hn).trans h.blk
set_option maxRecDepth 100000 in
set_option maxHeartbeats 16000000 in
theorem works_any (w : World) (hE : Env w) :
    Calls Tryz.prog 5 #[] w fun e w' => e = .returned (.bool true) ∧ Below w.heap.size w w' := by
  have HE : Hid (Env w) := hE
  have HX : Hid (Calls Tryz.prog 19 #[] w fun e w' => ExR w e w' ∧ Below w.heap.size w w') := example_any w hE
  have HCk : Hid (∀ (w5 : World) (b1 b2 b3 b4 b5 : Nat), Below w.heap.size w w5 → ExM w5 b1 b2 b3 b4 b5 2 → Calls Tryz.prog 10 #[exV b1 b5 b2] w5 fun e w' => e = .returned (.tuple #[.int .i64 0, .int .i64 0, .int .i64 0]) ∧ Below w5.heap.size w5 w') := fun w5 b1 b2 b3 b4 b5 h5 hm => by
    have hen := HE.out.below h5
    have := check_any (exK 2) _ w5 (hm.cv (.inr rfl)) (fun t ht => by have := List.mem_singleton.1 (show t ∈ [[120]] from ht); subst this; decide) hen.T hen.E hen.P
    rw [show chkC (exK 2) = (0, 0, 0) from exC_ok] at this
    exact this
  have HCb : Hid (∀ (w5 : World) (b1 b2 b3 b4 b5 : Nat), Below w.heap.size w w5 → ExM w5 b1 b2 b3 b4 b5 1 → Calls Tryz.prog 10 #[exV b1 b5 b2] w5 fun e w' => e = .returned (.tuple #[.int .i64 80, .int .i64 1, .int .i64 0]) ∧ Below w5.heap.size w5 w') := fun w5 b1 b2 b3 b4 b5 h5 hm => by
    have hen := HE.out.below h5
    have := check_any (exK 1) _ w5 (hm.cv (.inl rfl)) (fun t ht => by have := List.mem_singleton.1 (show t ∈ [[120]] from ht); subst this; decide) hen.T hen.E hen.P
    rw [show chkC (exK 1) = (80, 1, 0) from exC2_bad] at this
    exact this
  have HTx : Hid (∀ (w5 : World) (b1 b2 b3 b4 b5 : Nat), Below w.heap.size w w5 → ExM w5 b1 b2 b3 b4 b5 2 → Calls Tryz.prog 11 #[exV b1 b5 b2] w5 fun e w' => e = .returned (.tuple #[S exT, .int .i64 0]) ∧ Below w5.heap.size w5 w') := fun w5 b1 b2 b3 b4 b5 h5 hm => by
    have hen := HE.out.below h5
    have := text_any (exK 2) _ w5 (hm.cv (.inr rfl)) (fun t ht => by have := List.mem_singleton.1 (show t ∈ [[120]] from ht); subst this; decide) hen.T hen.E hen.P hen.N hen.O hen.B (by rw [show writtenT (exK 2) = exT from exT_is]; decide)
    rw [ex_text] at this
    exact this
  have HPa : Hid (∀ w5 : World, Below w.heap.size w w5 → Calls Tryz.prog 15 #[S exT] w5 fun e w' => (∃ r1 n1 d1 r2 n2 d2 r3 n3 d3, e = .returned (.tuple #[.agg #[.slice r1 n1 d1, .slice r2 n2 d2, .slice r3 n3 d3], .int .i64 0, .int .i64 0]) ∧ CV w' (.agg #[.slice r1 n1 d1, .slice r2 n2 d2, .slice r3 n3 d3]) exC) ∧ Below w5.heap.size w5 w') := fun w5 h5 => by
    refine (parse_any exT w5 (by decide) (HE.out.below h5)).mono ?_
    rintro e w' ⟨hr, hb⟩
    refine ⟨?_, hb⟩
    unfold ParseR at hr
    rw [ex_parse] at hr
    rcases hr with ⟨h, _⟩ | ⟨_, h, _⟩ | ⟨_, _, v1, v2, v3, vs, he, ho, hg⟩
    · exact absurd rfl h
    · exact absurd (by rw [exC_ok]) h
    · obtain ⟨r1, d1, e1⟩ := own_slice' ho.o1
      obtain ⟨r2, d2, e2⟩ := own_slice' ho.o2
      obtain ⟨r3, d3, e3⟩ := own_slice' ho.o3
      have hcv := ho.cv hg (by decide)
      rw [e1, e2, e3] at he hcv
      exact ⟨_, _, _, _, _, _, _, _, _, he, hcv⟩
  have HPb : Hid (∀ w5 : World, Below w.heap.size w w5 → Calls Tryz.prog 15 #[S (exT.take 89)] w5 fun e w' => e = .returned (.tuple #[nilC, .int .i64 81, .int .i64 10]) ∧ Below w5.heap.size w5 w') := fun w5 h5 => by
    refine (parse_any (exT.take 89) w5 (by decide) (HE.out.below h5)).mono ?_
    rintro e w' ⟨hr, hb⟩
    refine ⟨?_, hb⟩
    unfold ParseR at hr
    rw [ex_open] at hr
    rcases hr with ⟨_, he⟩ | ⟨h, _⟩ | ⟨h, _⟩
    · exact he
    · exact absurd h (by decide)
    · exact absurd h (by decide)
  have HSm : Hid (∀ (w5 : World) (b1 b2 b3 b4 b5 : Nat) (vb : Value), ExM w5 b1 b2 b3 b4 b5 2 → CV w5 vb exC → Calls Tryz.prog 20 #[exV b1 b5 b2, vb] w5 fun e w' => e = .returned (.bool true) ∧ Below w5.heap.size w5 w') := fun w5 b1 b2 b3 b4 b5 vb hm hv => by
    have := same_any (exK 2) exC _ vb w5 (hm.cv (.inr rfl)) hv
    rw [ex_same] at this
    exact this
  have hT90 : exT.length = 90 := rfl
  clear hE
  go_enter Tryz.func5, Tryz.ntmps5
  have hcT : (([99, 111, 110, 115, 116, 32, 105, 110, 116, 32, 53, 10, 99, 111, 110, 115, 116, 32, 110, 105, 108, 10, 103, 108, 111, 98, 97, 108, 32, 120, 10, 112, 114, 111, 99, 32, 48, 10, 32, 99, 111, 110, 115, 116, 32] : List UInt8).append [48, 10, 32, 115, 101, 116, 103, 108, 111, 98, 97, 108, 32, 48, 10, 32, 114, 101, 116, 117, 114, 110, 10, 112, 114, 111, 99, 32, 49, 10, 32, 118, 97, 114, 32, 48, 10, 32, 114, 101, 116, 117, 114, 110, 10]) = exT := rfl
  rw [hcT]
  clear hcT
  generalize exT = T at *
  go_wp2_with fail
  refine Calls.mono HX.out ?_
  rintro e w1 ⟨⟨b1, b2, b3, b4, b5, rfl, hm, hb5⟩, hb1⟩
  have HW1 : Hid (Wo w (w1.alloc (CO (.slice (some ⟨b1, 0, none⟩) 2 2) (.slice (some ⟨b5, 0, none⟩) 2 2) (.slice (some ⟨b2, 0, none⟩) 1 1))) w1.heap.size b1 b2 b3 b4 b5) := Wo.start hm hb1 hb5
  have hne : w1.heap.size ≠ b5 := by have := heap_lt hm.h5; omega
  have HNe : Hid (w1.heap.size ≠ b5) := hne
  have HK : Hid (Calls Tryz.prog 10 #[exV b1 b5 b2] (w1.alloc (CO (.slice (some ⟨b1, 0, none⟩) 2 2) (.slice (some ⟨b5, 0, none⟩) 2 2) (.slice (some ⟨b2, 0, none⟩) 1 1))) fun e w' => e = .returned (.tuple #[.int .i64 0, .int .i64 0, .int .i64 0]) ∧ Below (w1.alloc (CO (.slice (some ⟨b1, 0, none⟩) 2 2) (.slice (some ⟨b5, 0, none⟩) 2 2) (.slice (some ⟨b2, 0, none⟩) 1 1))).heap.size (w1.alloc (CO (.slice (some ⟨b1, 0, none⟩) 2 2) (.slice (some ⟨b5, 0, none⟩) 2 2) (.slice (some ⟨b2, 0, none⟩) 1 1))) w') := HCk.out _ _ _ _ _ _ HW1.out.bel HW1.out.ex
  clear hm hb1 hb5 HX
  unfold exV
  go_wp2_with fail
  refine Calls.mono HK.out ?_
  rintro e w2 ⟨rfl, hb2⟩
  have HW2 : Hid (Wo w w2 w1.heap.size b1 b2 b3 b4 b5) := HW1.out.next hb2
  obtain ⟨p0, p1, p2⟩ := HW2.out.cells
  have HK2 : Hid (Calls Tryz.prog 11 #[exV b1 b5 b2] w2 fun e w' => e = .returned (.tuple #[S T, .int .i64 0]) ∧ Below w2.heap.size w2 w') := HTx.out _ _ _ _ _ _ HW2.out.bel HW2.out.ex
  clear HK hb2 HW1
  go_wp2_with fail
  refine Calls.mono HK2.out ?_
  rintro e w3 ⟨rfl, hb3⟩
  have HW3 : Hid (Wo w w3 w1.heap.size b1 b2 b3 b4 b5) := HW2.out.next hb3
  have HK3 : Hid (Calls Tryz.prog 15 #[S T] w3 fun e w' => (∃ r1 n1 d1 r2 n2 d2 r3 n3 d3, e = .returned (.tuple #[.agg #[.slice r1 n1 d1, .slice r2 n2 d2, .slice r3 n3 d3], .int .i64 0, .int .i64 0]) ∧ CV w' (.agg #[.slice r1 n1 d1, .slice r2 n2 d2, .slice r3 n3 d3]) exC) ∧ Below w3.heap.size w3 w') := HPa.out w3 HW3.out.bel
  clear HK2 hb3 HW2 p0 p1 p2
  go_wp2_with fail
  refine Calls.mono HK3.out ?_
  rintro e w4 ⟨⟨r1, n1, d1, r2, n2, d2, r3, n3, d3, rfl, hcv⟩, hb4⟩
  have hal4 : Below w4.heap.size w4 (w4.alloc (CO (.slice r1 n1 d1) (.slice r2 n2 d2) (.slice r3 n3 d3))) := (Below.refl _ w4).alloc (Nat.le_refl _) _
  have HW4 : Hid (Wo w (w4.alloc (CO (.slice r1 n1 d1) (.slice r2 n2 d2) (.slice r3 n3 d3))) w1.heap.size b1 b2 b3 b4 b5) := (HW3.out.next hb4).next hal4
  obtain ⟨p0, p1, p2⟩ := (HW3.out.next hb4).cells
  have hl4 : w1.heap.size < w4.heap.size := heap_lt (HW3.out.next hb4).blk
  have HK4 : Hid (Calls Tryz.prog 20 #[exV b1 b5 b2, .agg #[.slice r1 n1 d1, .slice r2 n2 d2, .slice r3 n3 d3]] (w4.alloc (CO (.slice r1 n1 d1) (.slice r2 n2 d2) (.slice r3 n3 d3))) fun e w' => e = .returned (.bool true) ∧ Below (w4.alloc (CO (.slice r1 n1 d1) (.slice r2 n2 d2) (.slice r3 n3 d3))).heap.size (w4.alloc (CO (.slice r1 n1 d1) (.slice r2 n2 d2) (.slice r3 n3 d3))) w') := HSm.out _ _ _ _ _ _ _ HW4.out.ex (hcv.below hal4)
  clear HK3 hb4 HW3 hcv hal4
  go_wp2_with fail
  refine Calls.mono HK4.out ?_
  rintro e w5 ⟨rfl, hb5⟩
  have HW5 : Hid (Wo w w5 w1.heap.size b1 b2 b3 b4 b5) := HW4.out.next hb5
  have HK5 : Hid (Calls Tryz.prog 15 #[S (T.take 89)] w5 fun e w' => e = .returned (.tuple #[nilC, .int .i64 81, .int .i64 10]) ∧ Below w5.heap.size w5 w') := HPb.out w5 HW5.out.bel
  have E1 : S (T.take 89) = Value.string ((ByteArray.mk T.toArray).extract 0 89) := (S_extract0 T 89 (by omega)).symm
  rw [E1] at HK5
  have hsz : (ByteArray.mk T.toArray).size = 90 := hT90
  clear HK4 hb5 HW4 p0 p1 p2 hl4 E1
  go_wp2_with fail
  refine Calls.mono HK5.out ?_
  rintro e w6 ⟨rfl, hb6⟩
  unfold nilC
  have hal6 : Below w6.heap.size w6 (w6.alloc ZC) := (Below.refl _ w6).alloc (Nat.le_refl _) _
  have HW6 : Hid (Wo w w6 w1.heap.size b1 b2 b3 b4 b5) := HW5.out.next hb6
  have hw6 := HW5.out.next hb6
  obtain ⟨p0, p1, p2⟩ := hw6.cells
  have hl6 : w1.heap.size < w6.heap.size := heap_lt hw6.blk
  have hl7 : b5 < w6.heap.size := heap_lt hw6.ex.h5
  have g3 : w6.cell? ⟨b5, 3, none⟩ = some (.slice (some ⟨b4, 0, none⟩) 2 2) := heap_cell hw6.ex.h5 rfl
  have g3f : w6.frozen? ⟨b5, 3, none⟩ = false := by simp [World.frozen?, hw6.ex.h5]
  clear HK5 hb6 HW5 hal6 hw6 HPa HPb HTx HSm HCk
  go_wp2_with fail
  go_region
  go_wp2_with fail
  obtain ⟨q1, q2, _⟩ := HW6.out.cut HNe.out rfl
  have hal7 : Below (w6.setCell ⟨b5, 3, none⟩ (.slice (some ⟨b4, 0, none⟩) 1 2)).heap.size (w6.setCell ⟨b5, 3, none⟩ (.slice (some ⟨b4, 0, none⟩) 1 2)) ((w6.setCell ⟨b5, 3, none⟩ (.slice (some ⟨b4, 0, none⟩) 1 2)).alloc ZC).drew := ((Below.refl _ (w6.setCell ⟨b5, 3, none⟩ (.slice (some ⟨b4, 0, none⟩) 1 2))).alloc (Nat.le_refl _) ZC).drew
  have HB7 : Hid (Below w.heap.size w ((w6.setCell ⟨b5, 3, none⟩ (.slice (some ⟨b4, 0, none⟩) 1 2)).alloc ZC).drew) := q1.trans (hal7.mono q1.size)
  refine Calls.mono (HCb.out _ _ _ _ _ _ HB7.out (q2.below hal7)) ?_
  rintro e w8 ⟨rfl, hb8⟩
  have HB8 : Hid (Below w.heap.size w w8) := HB7.out.trans (hb8.mono HB7.out.size)
  clear hb8 hal7 q1 q2 HB7 HW6 HCb
  go_wp2
  go_ret
  exact ⟨rfl, HB8.out⟩
end Go.Proofs.YtpkohocjgnodnaaGreatDoor
