/- works: what the chapter's example fixes.; The document's OfTexts, OfCode: how much code is.; There and back: plain mathematics besides. -/
import Derived.Test.YtpkohocjgnodnaaGreatDoorGAG
import Derived.Test.YtpkohocjgnodnaaGreatDoorGAQ
/- works: what the chapter's example fixes. -/
namespace Go.Proofs.YtpkohocjgnodnaaGreatDoor
open Go.RowKit

theorem ex_text : textV (exK 2) = .tuple #[S exT, .int .i64 0] := by
  unfold textV
  rw [if_pos (by show (chkC exC).1 = 0; rw [exC_ok]), show writtenT (exK 2) = exT from exT_is]
theorem ex_same : sameC (exK 2) exC = true := (sameC_iff _ _).2 rfl
/-- The example, and the block of the variable that holds it. -/
structure Wo (w W : World) (B b1 b2 b3 b4 b5 : Nat) : Prop where
  bel : Below w.heap.size w W
  ex : ExM W b1 b2 b3 b4 b5 2
  blk : W.heap[B]? = some (CO (.slice (some ⟨b1, 0, none⟩) 2 2) (.slice (some ⟨b5, 0, none⟩) 2 2) (.slice (some ⟨b2, 0, none⟩) 1 1))
  hB : w.heap.size ≤ B
  hb5 : w.heap.size ≤ b5
theorem Wo.next {w W W' : World} {B b1 b2 b3 b4 b5 : Nat} (h : Wo w W B b1 b2 b3 b4 b5) (hb : Below W.heap.size W W') : Wo w W' B b1 b2 b3 b4 b5 :=
  ⟨h.bel.trans (hb.mono h.bel.size), h.ex.below hb, (hb.block _ (heap_lt h.blk)).trans h.blk, h.hB, h.hb5⟩
theorem Wo.cells {w W : World} {B b1 b2 b3 b4 b5 : Nat} (h : Wo w W B b1 b2 b3 b4 b5) : W.cell? ⟨B, 0, none⟩ = some (.slice (some ⟨b1, 0, none⟩) 2 2) ∧ W.cell? ⟨B, 1, none⟩ = some (.slice (some ⟨b5, 0, none⟩) 2 2) ∧ W.cell? ⟨B, 2, none⟩ = some (.slice (some ⟨b2, 0, none⟩) 1 1) :=
  ⟨heap_cell h.blk rfl, heap_cell h.blk rfl, heap_cell h.blk rfl⟩
theorem Wo.start {w w1 : World} {b1 b2 b3 b4 b5 : Nat} (hm : ExM w1 b1 b2 b3 b4 b5 2) (hb : Below w.heap.size w w1) (h5 : w.heap.size ≤ b5) : Wo w (w1.alloc (CO (.slice (some ⟨b1, 0, none⟩) 2 2) (.slice (some ⟨b5, 0, none⟩) 2 2) (.slice (some ⟨b2, 0, none⟩) 1 1))) w1.heap.size b1 b2 b3 b4 b5 :=
  have hal := (Below.refl _ w1).alloc (Nat.le_refl _) (CO (.slice (some ⟨b1, 0, none⟩) 2 2) (.slice (some ⟨b5, 0, none⟩) 2 2) (.slice (some ⟨b2, 0, none⟩) 1 1))
  ⟨hb.trans (hal.mono hb.size), hm.below hal, heap_alloc_new _ _, hb.size, h5⟩
/-- Behind the store. -/
theorem Wo.cut {w W W' : World} {B b1 b2 b3 b4 b5 : Nat} (h : Wo w W B b1 b2 b3 b4 b5) (hn : B ≠ b5) (hw : W' = W.setCell ⟨b5, 3, none⟩ (.slice (some ⟨b4, 0, none⟩) 1 2)) : Below w.heap.size w W' ∧ ExM W' b1 b2 b3 b4 b5 1 ∧ W'.heap[B]? = some (CO (.slice (some ⟨b1, 0, none⟩) 2 2) (.slice (some ⟨b5, 0, none⟩) 2 2) (.slice (some ⟨b2, 0, none⟩) 1 1)) := by
  subst hw
  have h5 := set_atC (j := 3) h.ex.h5 (.slice (some ⟨b4, 0, none⟩) 1 2)
  have ne : ∀ {g : Nat} {cs : Array Value} {t : TypeId}, W.heap[g]? = some (.cells cs t (0, 0)) → t ≠ 64 → g ≠ b5 := fun hg ht e => by
    subst e; rw [h.ex.h5] at hg; cases hg; exact ht rfl
  refine ⟨h.bel.setCell (p := ⟨b5, 3, none⟩) h.hb5 _, ⟨?_, ?_, ?_, ?_, ?_⟩, ?_⟩
  · exact (Below.heap_setCell _ _ _ _ (ne h.ex.h1 (by decide))).trans h.ex.h1
  · exact (Below.heap_setCell _ _ _ _ (ne h.ex.h2 (by decide))).trans h.ex.h2
  · exact (Below.heap_setCell _ _ _ _ (ne h.ex.h3 (by decide))).trans h.ex.h3
  · exact (Below.heap_setCell _ _ _ _ (ne h.ex.h4 (by decide))).trans h.ex.h4
  · exact h5
  · exact (Below.heap_setCell _ _ _ _ hn).trans h.blk
set_option maxRecDepth 100000 in
set_option maxHeartbeats 16000000 in
theorem works_any (w : World) (hE : Env w) :
    Calls Tryz.prog 5 #[] w fun e w' => e = .returned (.bool true) ∧ Below w.heap.size w w' := by
  have HE : Hid (Env w) := hE
  have HX : Hid (Calls Tryz.prog 19 #[] w fun e w' => ExR w e w' ∧ Below w.heap.size w w') := example_any w hE
  have HCk : Hid (∀ (w5 : World) (b1 b2 b3 b4 b5 : Nat), Below w.heap.size w w5 → ExM w5 b1 b2 b3 b4 b5 2 → Calls Tryz.prog 10 #[exV b1 b5 b2] w5 fun e w' => e = .returned (.tuple #[.int .i64 0, .int .i64 0, .int .i64 0]) ∧ Below w5.heap.size w5 w') := fun w5 b1 b2 b3 b4 b5 h5 hm => by
    have hen := HE.out.below h5
    have := check_any (exK 2) _ w5 (hm.cv (.inr rfl)) (fun t ht => by have := List.mem_singleton.1 (show t ∈ [[120]] from ht); subst this; decide) hen.T hen.E hen.P
    rw [show chkC (exK 2) = (0, 0, 0) from exC_ok] at this
    exact this
  have HCb : Hid (∀ (w5 : World) (b1 b2 b3 b4 b5 : Nat), Below w.heap.size w w5 → ExM w5 b1 b2 b3 b4 b5 1 → Calls Tryz.prog 10 #[exV b1 b5 b2] w5 fun e w' => e = .returned (.tuple #[.int .i64 80, .int .i64 1, .int .i64 0]) ∧ Below w5.heap.size w5 w') := fun w5 b1 b2 b3 b4 b5 h5 hm => by
    have hen := HE.out.below h5
    have := check_any (exK 1) _ w5 (hm.cv (.inl rfl)) (fun t ht => by have := List.mem_singleton.1 (show t ∈ [[120]] from ht); subst this; decide) hen.T hen.E hen.P
    rw [show chkC (exK 1) = (80, 1, 0) from exC2_bad] at this
    exact this
  have HTx : Hid (∀ (w5 : World) (b1 b2 b3 b4 b5 : Nat), Below w.heap.size w w5 → ExM w5 b1 b2 b3 b4 b5 2 → Calls Tryz.prog 11 #[exV b1 b5 b2] w5 fun e w' => e = .returned (.tuple #[S exT, .int .i64 0]) ∧ Below w5.heap.size w5 w') := fun w5 b1 b2 b3 b4 b5 h5 hm => by
    have hen := HE.out.below h5
    have := text_any (exK 2) _ w5 (hm.cv (.inr rfl)) (fun t ht => by have := List.mem_singleton.1 (show t ∈ [[120]] from ht); subst this; decide) hen.T hen.E hen.P hen.N hen.O hen.B (by rw [show writtenT (exK 2) = exT from exT_is]; decide)
    rw [ex_text] at this
    exact this
  have HPa : Hid (∀ w5 : World, Below w.heap.size w w5 → Calls Tryz.prog 15 #[S exT] w5 fun e w' => (∃ r1 n1 d1 r2 n2 d2 r3 n3 d3, e = .returned (.tuple #[.agg #[.slice r1 n1 d1, .slice r2 n2 d2, .slice r3 n3 d3], .int .i64 0, .int .i64 0]) ∧ CV w' (.agg #[.slice r1 n1 d1, .slice r2 n2 d2, .slice r3 n3 d3]) exC) ∧ Below w5.heap.size w5 w') := fun w5 h5 => by
    refine (parse_any exT w5 (by decide) (HE.out.below h5)).mono ?_
    rintro e w' ⟨hr, hb⟩
    refine ⟨?_, hb⟩
    unfold ParseR at hr
    rw [ex_parse] at hr
    rcases hr with ⟨h, _⟩ | ⟨_, h, _⟩ | ⟨_, _, v1, v2, v3, vs, he, ho, hg⟩
    · exact absurd rfl h
    · exact absurd (by rw [exC_ok]) h
    · obtain ⟨r1, d1, e1⟩ := own_slice' ho.o1
      obtain ⟨r2, d2, e2⟩ := own_slice' ho.o2
      obtain ⟨r3, d3, e3⟩ := own_slice' ho.o3
      have hcv := ho.cv hg (by decide)
      rw [e1, e2, e3] at he hcv
      exact ⟨_, _, _, _, _, _, _, _, _, he, hcv⟩
  have HPb : Hid (∀ w5 : World, Below w.heap.size w w5 → Calls Tryz.prog 15 #[S (exT.take 89)] w5 fun e w' => e = .returned (.tuple #[nilC, .int .i64 81, .int .i64 10]) ∧ Below w5.heap.size w5 w') := fun w5 h5 => by
    refine (parse_any (exT.take 89) w5 (by decide) (HE.out.below h5)).mono ?_
    rintro e w' ⟨hr, hb⟩
    refine ⟨?_, hb⟩
    unfold ParseR at hr
    rw [ex_open] at hr
    rcases hr with ⟨_, he⟩ | ⟨h, _⟩ | ⟨h, _⟩
    · exact he
    · exact absurd h (by decide)
    · exact absurd h (by decide)
  have HSm : Hid (∀ (w5 : World) (b1 b2 b3 b4 b5 : Nat) (vb : Value), ExM w5 b1 b2 b3 b4 b5 2 → CV w5 vb exC → Calls Tryz.prog 20 #[exV b1 b5 b2, vb] w5 fun e w' => e = .returned (.bool true) ∧ Below w5.heap.size w5 w') := fun w5 b1 b2 b3 b4 b5 vb hm hv => by
    have := same_any (exK 2) exC _ vb w5 (hm.cv (.inr rfl)) hv
    rw [ex_same] at this
    exact this
  have hT90 : exT.length = 90 := rfl
  clear hE
  go_enter Tryz.func5, Tryz.ntmps5
  have hcT : (([99, 111, 110, 115, 116, 32, 105, 110, 116, 32, 53, 10, 99, 111, 110, 115, 116, 32, 110, 105, 108, 10, 103, 108, 111, 98, 97, 108, 32, 120, 10, 112, 114, 111, 99, 32, 48, 10, 32, 99, 111, 110, 115, 116, 32] : List UInt8).append [48, 10, 32, 115, 101, 116, 103, 108, 111, 98, 97, 108, 32, 48, 10, 32, 114, 101, 116, 117, 114, 110, 10, 112, 114, 111, 99, 32, 49, 10, 32, 118, 97, 114, 32, 48, 10, 32, 114, 101, 116, 117, 114, 110, 10]) = exT := rfl
  rw [hcT]
  clear hcT
  generalize exT = T at *
  go_wp2_with fail
  refine Calls.mono HX.out ?_
  rintro e w1 ⟨⟨b1, b2, b3, b4, b5, rfl, hm, hb5⟩, hb1⟩
  have HW1 : Hid (Wo w (w1.alloc (CO (.slice (some ⟨b1, 0, none⟩) 2 2) (.slice (some ⟨b5, 0, none⟩) 2 2) (.slice (some ⟨b2, 0, none⟩) 1 1))) w1.heap.size b1 b2 b3 b4 b5) := Wo.start hm hb1 hb5
  have hne : w1.heap.size ≠ b5 := by have := heap_lt hm.h5; omega
  have HNe : Hid (w1.heap.size ≠ b5) := hne
  have HK : Hid (Calls Tryz.prog 10 #[exV b1 b5 b2] (w1.alloc (CO (.slice (some ⟨b1, 0, none⟩) 2 2) (.slice (some ⟨b5, 0, none⟩) 2 2) (.slice (some ⟨b2, 0, none⟩) 1 1))) fun e w' => e = .returned (.tuple #[.int .i64 0, .int .i64 0, .int .i64 0]) ∧ Below (w1.alloc (CO (.slice (some ⟨b1, 0, none⟩) 2 2) (.slice (some ⟨b5, 0, none⟩) 2 2) (.slice (some ⟨b2, 0, none⟩) 1 1))).heap.size (w1.alloc (CO (.slice (some ⟨b1, 0, none⟩) 2 2) (.slice (some ⟨b5, 0, none⟩) 2 2) (.slice (some ⟨b2, 0, none⟩) 1 1))) w') := HCk.out _ _ _ _ _ _ HW1.out.bel HW1.out.ex
  clear hm hb1 hb5 HX
  unfold exV
  go_wp2_with fail
  refine Calls.mono HK.out ?_
  rintro e w2 ⟨rfl, hb2⟩
  have HW2 : Hid (Wo w w2 w1.heap.size b1 b2 b3 b4 b5) := HW1.out.next hb2
  obtain ⟨p0, p1, p2⟩ := HW2.out.cells
  have HK2 : Hid (Calls Tryz.prog 11 #[exV b1 b5 b2] w2 fun e w' => e = .returned (.tuple #[S T, .int .i64 0]) ∧ Below w2.heap.size w2 w') := HTx.out _ _ _ _ _ _ HW2.out.bel HW2.out.ex
  clear HK hb2 HW1
  go_wp2_with fail
  refine Calls.mono HK2.out ?_
  rintro e w3 ⟨rfl, hb3⟩
  have HW3 : Hid (Wo w w3 w1.heap.size b1 b2 b3 b4 b5) := HW2.out.next hb3
  have HK3 : Hid (Calls Tryz.prog 15 #[S T] w3 fun e w' => (∃ r1 n1 d1 r2 n2 d2 r3 n3 d3, e = .returned (.tuple #[.agg #[.slice r1 n1 d1, .slice r2 n2 d2, .slice r3 n3 d3], .int .i64 0, .int .i64 0]) ∧ CV w' (.agg #[.slice r1 n1 d1, .slice r2 n2 d2, .slice r3 n3 d3]) exC) ∧ Below w3.heap.size w3 w') := HPa.out w3 HW3.out.bel
  clear HK2 hb3 HW2 p0 p1 p2
  go_wp2_with fail
  refine Calls.mono HK3.out ?_
  rintro e w4 ⟨⟨r1, n1, d1, r2, n2, d2, r3, n3, d3, rfl, hcv⟩, hb4⟩
  have hal4 : Below w4.heap.size w4 (w4.alloc (CO (.slice r1 n1 d1) (.slice r2 n2 d2) (.slice r3 n3 d3))) := (Below.refl _ w4).alloc (Nat.le_refl _) _
  have HW4 : Hid (Wo w (w4.alloc (CO (.slice r1 n1 d1) (.slice r2 n2 d2) (.slice r3 n3 d3))) w1.heap.size b1 b2 b3 b4 b5) := (HW3.out.next hb4).next hal4
  obtain ⟨p0, p1, p2⟩ := (HW3.out.next hb4).cells
  have hl4 : w1.heap.size < w4.heap.size := heap_lt (HW3.out.next hb4).blk
  have HK4 : Hid (Calls Tryz.prog 20 #[exV b1 b5 b2, .agg #[.slice r1 n1 d1, .slice r2 n2 d2, .slice r3 n3 d3]] (w4.alloc (CO (.slice r1 n1 d1) (.slice r2 n2 d2) (.slice r3 n3 d3))) fun e w' => e = .returned (.bool true) ∧ Below (w4.alloc (CO (.slice r1 n1 d1) (.slice r2 n2 d2) (.slice r3 n3 d3))).heap.size (w4.alloc (CO (.slice r1 n1 d1) (.slice r2 n2 d2) (.slice r3 n3 d3))) w') := HSm.out _ _ _ _ _ _ _ HW4.out.ex (hcv.below hal4)
  clear HK3 hb4 HW3 hcv hal4
  go_wp2_with fail
  refine Calls.mono HK4.out ?_
  rintro e w5 ⟨rfl, hb5⟩
  have HW5 : Hid (Wo w w5 w1.heap.size b1 b2 b3 b4 b5) := HW4.out.next hb5
  have HK5 : Hid (Calls Tryz.prog 15 #[S (T.take 89)] w5 fun e w' => e = .returned (.tuple #[nilC, .int .i64 81, .int .i64 10]) ∧ Below w5.heap.size w5 w') := HPb.out w5 HW5.out.bel
  have E1 : S (T.take 89) = Value.string ((ByteArray.mk T.toArray).extract 0 89) := (S_extract0 T 89 (by omega)).symm
  rw [E1] at HK5
  have hsz : (ByteArray.mk T.toArray).size = 90 := hT90
  clear HK4 hb5 HW4 p0 p1 p2 hl4 E1
  go_wp2_with fail
  refine Calls.mono HK5.out ?_
  rintro e w6 ⟨rfl, hb6⟩
  unfold nilC
  have hal6 : Below w6.heap.size w6 (w6.alloc ZC) := (Below.refl _ w6).alloc (Nat.le_refl _) _
  have HW6 : Hid (Wo w w6 w1.heap.size b1 b2 b3 b4 b5) := HW5.out.next hb6
  have hw6 := HW5.out.next hb6
  obtain ⟨p0, p1, p2⟩ := hw6.cells
  have hl6 : w1.heap.size < w6.heap.size := heap_lt hw6.blk
  have hl7 : b5 < w6.heap.size := heap_lt hw6.ex.h5
  have g3 : w6.cell? ⟨b5, 3, none⟩ = some (.slice (some ⟨b4, 0, none⟩) 2 2) := heap_cell hw6.ex.h5 rfl
  have g3f : w6.frozen? ⟨b5, 3, none⟩ = false := by simp [World.frozen?, hw6.ex.h5]
  clear HK5 hb6 HW5 hal6 hw6 HPa HPb HTx HSm HCk
  go_wp2_with fail
  go_region
  go_wp2_with fail
  obtain ⟨q1, q2, _⟩ := HW6.out.cut HNe.out rfl
  have hal7 : Below (w6.setCell ⟨b5, 3, none⟩ (.slice (some ⟨b4, 0, none⟩) 1 2)).heap.size (w6.setCell ⟨b5, 3, none⟩ (.slice (some ⟨b4, 0, none⟩) 1 2)) ((w6.setCell ⟨b5, 3, none⟩ (.slice (some ⟨b4, 0, none⟩) 1 2)).alloc ZC).drew := ((Below.refl _ (w6.setCell ⟨b5, 3, none⟩ (.slice (some ⟨b4, 0, none⟩) 1 2))).alloc (Nat.le_refl _) ZC).drew
  have HB7 : Hid (Below w.heap.size w ((w6.setCell ⟨b5, 3, none⟩ (.slice (some ⟨b4, 0, none⟩) 1 2)).alloc ZC).drew) := q1.trans (hal7.mono q1.size)
  refine Calls.mono (HCb.out _ _ _ _ _ _ HB7.out (q2.below hal7)) ?_
  rintro e w8 ⟨rfl, hb8⟩
  have HB8 : Hid (Below w.heap.size w w8) := HB7.out.trans (hb8.mono HB7.out.size)
  clear hb8 hal7 q1 q2 HB7 HW6 HCb
  go_wp2
  go_ret
  exact ⟨rfl, HB8.out⟩
end Go.Proofs.YtpkohocjgnodnaaGreatDoor

/- The document's OfTexts, OfCode: how much code is. -/
namespace Go.Proofs.YtpkohocjgnodnaaGreatDoor
open Go.RowKit

def wtT : List (List UInt8) → Nat
  | [] => 0
  | t :: r => (1 + t.length) + wtT r
def wtP : List Prc → Nat
  | [] => 0
  | p :: r => (1 + p.code.length) + wtP r
def wtC (c : Cd) : Nat := c.consts.length + wtT c.globals + wtP c.procs
theorem wtT_app : ∀ (l m : List (List UInt8)), wtT (l ++ m) = wtT l + wtT m
  | [], m => by simp [wtT]
  | t :: l, m => by rw [List.cons_append, wtT, wtT_app l m, wtT]; omega
theorem wtP_app : ∀ (l m : List Prc), wtP (l ++ m) = wtP l + wtP m
  | [], m => by simp [wtP]
  | t :: l, m => by rw [List.cons_append, wtP, wtP_app l m, wtP]; omega
theorem wtT_step {l : List (List UInt8)} {j : Nat} {x : List UInt8} (h : l[j]? = some x) : wtT (l.take (j + 1)) = wtT (l.take j) + (1 + x.length) := by
  rw [List.take_add_one, h, wtT_app]; simp [wtT]
theorem wtP_step {l : List Prc} {j : Nat} {x : Prc} (h : l[j]? = some x) : wtP (l.take (j + 1)) = wtP (l.take j) + (1 + x.code.length) := by
  rw [List.take_add_one, h, wtP_app]; simp [wtP]
def OfR (B wt : Nat) (e : Ending) : Prop := ∃ n : Nat, e = .returned (.int .i64 n) ∧ n ≤ B ∧ (n ≤ 2147483647 → n = wt)
set_option maxRecDepth 100000 in
set_option maxHeartbeats 4000000 in
theorem ofTexts_any (l : List (List UInt8)) (ra : Option Addr) (ca : Nat) (w : World) (hR : XR w ra l) (hx : ∀ t ∈ l, t.length ≤ 281474976710656) (hl : l.length ≤ 281474976710656) :
    Calls Tryz.prog 21 #[.slice ra l.length ca] w fun e w' => OfR 1125899906842624 (wtT l) e ∧ w' = w := by
  obtain ⟨b, o, h1, h2⟩ := hR.at
  have H1 : Hid (l.length ≠ 0 → ra = some ⟨b, o, none⟩) := h1
  have H2 : Hid (∀ (j : Nat) (x : List UInt8), l[j]? = some x → b < w.heap.size ∧ w.cell? ⟨b, o + j, none⟩ = some (S x) ∧ x.length ≤ maxLen) := h2
  have HX : Hid (∀ t ∈ l, t.length ≤ 281474976710656) := hx
  clear h1 h2 hR hx
  go_enter Tryz.func21, Tryz.ntmps21
  go_wp2
  go_loopw [4, 3] (fun i s wr => ∃ j n : Nat, i = .int .i64 j ∧ s = .int .i64 n ∧ j ≤ l.length ∧ n ≤ 562949953421312 ∧ Hid (n = wtT (l.take j)) ∧ wr = w) (fun i _ _ => l.length - (intOf i).toNat)
  case atStart => exact ⟨0, 0, rfl, rfl, Nat.zero_le _, by omega, by show _ = _; simp [wtT], rfl⟩
  case round =>
    obtain ⟨j, n, rfl, rfl, hj, hn, HN, rfl⟩ := hrel
    by_cases hlt : j < l.length
    · have i1 : (j : Int) < (l.length : Int) := by omega
      by_cases hnb : n ≤ 2147483647
      · have i2 : (n : Int) ≤ 2147483647 := by omega
        have hra := H1.out (by omega)
        subst hra
        obtain ⟨x, hx⟩ : ∃ x, l[j]? = some x := ⟨_, List.getElem?_eq_getElem hlt⟩
        obtain ⟨hb, hc, _⟩ := H2.out j x hx
        have hxl := HX.out x (List.mem_of_getElem? hx)
        have HS : Hid (wtT (l.take (j + 1)) = wtT (l.take j) + (1 + x.length)) := wtT_step hx
        have hsz : (ByteArray.mk x.toArray).size = x.length := rfl
        have i3 : (1 : Int) + (x.length : Int) ≤ 9223372036854775807 := by omega
        have i4 : (n : Int) + (1 + (x.length : Int)) ≤ 9223372036854775807 := by omega
        clear hx
        go_wp2
        go_roundw
        case rel => exact ⟨j + 1, n + (1 + x.length), by go_num, by go_num, by omega, by omega, by show _ = _; rw [HS.out, HN.out], trivial⟩
        case measure => simp [intOf]; omega
      · have i2 : ¬ (n : Int) ≤ 2147483647 := by omega
        go_wp2
        go_ret
        exact ⟨⟨n, rfl, by omega, fun h => absurd h hnb⟩, rfl⟩
    · have i1 : ¬ (j : Int) < (l.length : Int) := by omega
      have HE : Hid (n = wtT l) := by show _ = _; rw [HN.out, List.take_of_length_le (by omega)]
      go_wp2
      go_ret
      exact ⟨⟨n, rfl, by omega, fun _ => HE.out⟩, rfl⟩
set_option maxRecDepth 100000 in
set_option maxHeartbeats 4000000 in
theorem ofCode_any (c : Cd) (v : Value) (w : World) (hv : CV w v c) (hx : ∀ t ∈ c.globals, t.length ≤ 281474976710656) (hz : c.consts.length ≤ 281474976710656 ∧ c.procs.length ≤ 281474976710656 ∧ c.globals.length ≤ 281474976710656) (hk : ∀ p ∈ c.procs, p.code.length ≤ 281474976710656) :
    Calls Tryz.prog 6 #[v] w fun e w' => OfR 2251799813685248 (wtC c) e ∧ Below w.heap.size w w' := by
  obtain ⟨⟨r1, c1, r2, c2, r3, c3, rfl, hw1, hp1, hx1, _⟩, hl1⟩ := hv
  obtain ⟨z1, z2, z3⟩ := hz
  have hal : Below w.heap.size w (w.alloc (.cells #[.slice r1 c.consts.length c1, .slice r2 c.procs.length c2, .slice r3 c.globals.length c3] 26)) := (Below.refl _ w).alloc (Nat.le_refl _) _
  have HT : Hid (∀ w5 : World, Below w.heap.size w w5 → Calls Tryz.prog 21 #[.slice r3 c.globals.length c3] w5 fun e w' => OfR 1125899906842624 (wtT c.globals) e ∧ w' = w5) := fun w5 h5 => ofTexts_any _ _ _ w5 (hx1.below h5) hx z3
  obtain ⟨b, o, h1, h2⟩ := PR.at hp1
  have H1 : Hid (c.procs.length ≠ 0 → r2 = some ⟨b, o, none⟩) := h1
  have H2 : Hid (∀ (j : Nat) (x : Prc), c.procs[j]? = some x → b < w.heap.size ∧ w.cell? ⟨b, o + j * 2, none⟩ = some (.int .i64 x.params) ∧ (∃ rc cc, w.cell? ⟨b, o + j * 2 + 1, none⟩ = some (.slice rc x.code.length cc) ∧ NR w rc x.code) ∧ x.code.length ≤ maxLen) := h2
  have HK : Hid (∀ p ∈ c.procs, p.code.length ≤ 281474976710656) := hk
  have HA : Hid (Below w.heap.size w (w.alloc (.cells #[.slice r1 c.consts.length c1, .slice r2 c.procs.length c2, .slice r3 c.globals.length c3] 26))) := hal
  have hn := heap_alloc_new w (.cells #[.slice r1 c.consts.length c1, .slice r2 c.procs.length c2, .slice r3 c.globals.length c3] 26)
  have HQ : Hid ((w.alloc (.cells #[.slice r1 c.consts.length c1, .slice r2 c.procs.length c2, .slice r3 c.globals.length c3] 26)).heap[w.heap.size]? = some (.cells #[.slice r1 c.consts.length c1, .slice r2 c.procs.length c2, .slice r3 c.globals.length c3] 26)) := hn
  clear h1 h2 hw1 hp1 hx1 hl1 hx hk hal hn
  go_enter Tryz.func6, Tryz.ntmps6
  go_wp2_with fail
  go_region_held3 (fun wx => wx.cell? ⟨w.heap.size, 0, none⟩ = some (.slice r1 c.consts.length c1) ∧ wx.cell? ⟨w.heap.size, 2, none⟩ = some (.slice r3 c.globals.length c3) ∧ w.heap.size < wx.heap.size) (first | go_keep) (first | (go_at_call 21; refine (HT.out _ HA.out.drew).mono ?_; rintro e w' ⟨⟨n, rfl, hn1, hn2⟩, hw'⟩; rw [hw']; clear hw'; have i0 : (c.consts.length : Int) + (n : Int) ≤ 9223372036854775807 := by omega))
  go_wp2
  go_loopw [4, 3] (fun i s wr => ∃ j n : Nat, i = .int .i64 j ∧ s = .int .i64 n ∧ j ≤ c.procs.length ∧ n ≤ 2251799813685248 ∧ Hid (n ≤ 2147483647 → n = c.consts.length + wtT c.globals + wtP (c.procs.take j)) ∧ wr = (w.alloc (.cells #[.slice r1 c.consts.length c1, .slice r2 c.procs.length c2, .slice r3 c.globals.length c3] 26)).drew) (fun i _ _ => c.procs.length - (intOf i).toNat)
  case atStart => exact ⟨0, c.consts.length + n, rfl, congrArg (Value.int .i64) (by rw [IntKind.wrap_i64]; omega), Nat.zero_le _, by omega, fun h => by simp [wtP]; have := hn2 (by omega); omega, rfl⟩
  case round =>
    obtain ⟨j, m, rfl, rfl, hj, hm, HN, hwr⟩ := hrel
    have hq : wr.heap[w.heap.size]? = some (.cells #[.slice r1 c.consts.length c1, .slice r2 c.procs.length c2, .slice r3 c.globals.length c3] 26 (0, 0)) := by rw [hwr]; exact HQ.out
    have q1 : wr.cell? ⟨w.heap.size, 1, none⟩ = some (.slice r2 c.procs.length c2) := heap_cell hq rfl
    have HB : Hid (Below w.heap.size w wr) := by show Below _ _ _; rw [hwr]; exact HA.out.drew
    have HWr : Hid (wr = (w.alloc (.cells #[.slice r1 c.consts.length c1, .slice r2 c.procs.length c2, .slice r3 c.globals.length c3] 26)).drew) := hwr
    clear hwr hq
    by_cases hlt : j < c.procs.length
    · have i1 : (j : Int) < (c.procs.length : Int) := by omega
      by_cases hnb : m ≤ 2147483647
      · have i2 : (m : Int) ≤ 2147483647 := by omega
        have hra := H1.out (by omega)
        subst hra
        obtain ⟨x, hx⟩ : ∃ x, c.procs[j]? = some x := ⟨_, List.getElem?_eq_getElem hlt⟩
        obtain ⟨hb, _, ⟨rc, cc, hc1, _⟩, _⟩ := H2.out j x hx
        have f1 := (HB.out.cell (p := ⟨b, o + j * 2 + 1, none⟩) hb).trans hc1
        have f2 : b < wr.heap.size := Nat.lt_of_lt_of_le hb HB.out.size
        have hxl := HK.out x (List.mem_of_getElem? hx)
        have HS : Hid (wtP (c.procs.take (j + 1)) = wtP (c.procs.take j) + (1 + x.code.length)) := wtP_step hx
        have i3 : (1 : Int) + (x.code.length : Int) ≤ 9223372036854775807 := by omega
        have i4 : (m : Int) + (1 + (x.code.length : Int)) ≤ 9223372036854775807 := by omega
        clear hx hc1 hb
        go_wp2
        go_roundw
        case rel => exact ⟨j + 1, m + (1 + x.code.length), by go_num, by go_num, by omega, by omega, fun h => by rw [HS.out]; have := HN.out (by omega); omega, HWr.out⟩
        case measure => simp [intOf]; omega
      · have i2 : ¬ (m : Int) ≤ 2147483647 := by omega
        go_wp2
        go_ret
        exact ⟨⟨m, rfl, hm, fun h => absurd h hnb⟩, HB.out⟩
    · have i1 : ¬ (j : Int) < (c.procs.length : Int) := by omega
      have HE : Hid (m ≤ 2147483647 → m = wtC c) := fun h => by have := HN.out h; rw [List.take_of_length_le (by omega)] at this; exact this
      go_wp2
      go_ret
      exact ⟨⟨m, rfl, hm, HE.out⟩, HB.out⟩
end Go.Proofs.YtpkohocjgnodnaaGreatDoor

/- There and back: plain mathematics besides. -/
namespace Go.Proofs.YtpkohocjgnodnaaGreatDoor

theorem parsedF_pos : ∀ (k : Nat) (s : List UInt8) (c : Cd) (n : Int), 1 ≤ n → (parsedF k s c n).2 = 0 ∨ 1 ≤ (parsedF k s c n).2
  | 0, _, _, _, _ => .inl rfl
  | k + 1, s, c, n, hn => by
    unfold parsedF
    split
    · exact .inl rfl
    · split
      · split
        · exact parsedF_pos k _ _ (n + 1) (by omega)
        · exact .inr hn
      · exact .inr hn
theorem parsedV_pos (s : List UInt8) : (parsedV s noCd 1).2 = 0 ∨ 1 ≤ (parsedV s noCd 1).2 := parsedF_pos _ s noCd 1 (by omega)
theorem chkP_err (nc ng np : Nat) (p : Prc) : (chkP nc ng np p).1 = 0 ∨ (chkP nc ng np p).1 = 2 ∨ (chkP nc ng np p).1 = 80 := by
  unfold chkP
  split
  · exact .inr (.inl rfl)
  · split
    · exact .inr (.inr rfl)
    · split
      · exact .inr (.inr rfl)
      · unfold chkEnd
        split
        · exact .inr (.inr rfl)
        · split
          · unfold endP
            split
            · exact .inr (.inr rfl)
            · exact .inl rfl
          · exact .inr (.inr rfl)
theorem chkPs_err (nc ng np : Nat) : ∀ (l : List Prc) (j : Nat), (chkPs nc ng np l j).1 = 0 ∨ (chkPs nc ng np l j).1 = 2 ∨ (chkPs nc ng np l j).1 = 80
  | [], _ => .inl rfl
  | p :: l, j => by
    unfold chkPs
    split
    · exact chkPs_err nc ng np l (j + 1)
    · exact chkP_err nc ng np p
theorem chkC_err (c : Cd) : (chkC c).1 = 0 ∨ (chkC c).1 = 2 ∨ (chkC c).1 = 80 := by
  unfold chkC
  split
  · exact chkPs_err _ _ _ _ _
  · unfold listsE
    split
    · exact .inr (.inl rfl)
    · split
      · exact .inr (.inr rfl)
      · split
        · split
          · exact .inl rfl
          · exact .inr (.inr rfl)
        · exact .inr (.inr rfl)
/-- Numbers that an int64 holds. -/
def Fit64 (n : Int) : Prop := -9223372036854775808 ≤ n ∧ n ≤ 9223372036854775807
theorem itoa_len {n : Int} (h : Fit64 n) : (Lib.itoa n).length ≤ 100 := Nat.le_trans (Lib.itoa_length_le _ h.1 h.2) (by decide)
theorem getD_len {l : List (List UInt8)} (h : ∀ t ∈ l, t.length ≤ 50) (k : Nat) : (l.getD k []).length ≤ 50 := by
  rw [List.getD_eq_getElem?_getD]
  cases e : l[k]? with
  | none => simp
  | some t => exact h t (List.mem_of_getElem? e)
theorem tagL (k : Nat) : (tagNames.getD k []).length ≤ 50 := getD_len (by decide) k
theorem opL (k : Nat) : (opNames.getD k []).length ≤ 50 := getD_len (by decide) k
theorem ofN_fit (x : Int) : Fit64 (ofN x) := by
  unfold ofN Fit64
  split
  · have := nm_bd x; omega
  · omega
theorem constT_len (x : Int) : (constT x).length ≤ 151 := by
  unfold constT
  have h1 := tagL (ofT x).toNat
  have h2 := itoa_len (ofN_fit x)
  split
  · rw [List.length_append, List.length_append]; simp only [List.length_cons, List.length_nil]; omega
  · omega
theorem instrT_len {x : Ins} (h : Fit64 x.a) : (instrT x).length ≤ 151 := by
  unfold instrT
  have h1 := opL x.op.toNat
  have h2 := itoa_len h
  split
  · rw [List.length_append, List.length_append]; simp only [List.length_cons, List.length_nil]; omega
  · omega
theorem constsT_len : ∀ l : List Int, (constsT l).length ≤ 200 * l.length
  | [] => by simp [constsT]
  | x :: l => by
    have := constsT_len l
    have := constT_len x
    simp only [constsT, List.length_append, List.length_cons, List.length_nil]; omega
theorem globsT_len : ∀ l : List (List UInt8), (globsT l).length ≤ 200 * wtT l
  | [] => by simp [globsT]
  | x :: l => by
    have := globsT_len l
    simp only [globsT, wtT, List.length_append, List.length_cons, List.length_nil]; omega
theorem codeT_len : ∀ l : List Ins, (∀ x ∈ l, Fit64 x.a) → (codeT l).length ≤ 200 * l.length
  | [], _ => by simp [codeT]
  | x :: l, h => by
    have := codeT_len l (fun y hy => h y (List.mem_cons_of_mem _ hy))
    have := instrT_len (h x (List.mem_cons_self ..))
    simp only [codeT, List.length_append, List.length_cons, List.length_nil]; omega
theorem procsT_len : ∀ l : List Prc, (∀ p ∈ l, Fit64 p.params ∧ ∀ x ∈ p.code, Fit64 x.a) → (procsT l).length ≤ 200 * wtP l
  | [], _ => by simp [procsT]
  | p :: l, h => by
    have := procsT_len l (fun y hy => h y (List.mem_cons_of_mem _ hy))
    have hp := h p (List.mem_cons_self ..)
    have := itoa_len hp.1
    have := codeT_len p.code hp.2
    simp only [procsT, wtP, List.length_append, List.length_cons, List.length_nil]; omega
theorem written_len {c : Cd} (h : ∀ p ∈ c.procs, Fit64 p.params ∧ ∀ x ∈ p.code, Fit64 x.a) : (writtenT c).length ≤ 200 * wtC c := by
  have h1 := constsT_len c.consts
  have h2 := globsT_len c.globals
  have h3 := procsT_len c.procs h
  unfold writtenT wtC
  simp only [List.length_append]; omega
end Go.Proofs.YtpkohocjgnodnaaGreatDoor
