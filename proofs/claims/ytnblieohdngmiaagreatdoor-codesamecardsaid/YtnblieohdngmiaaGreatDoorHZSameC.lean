/- The document's SameCode. -/
import Derived.Test.YtnblieohdngmiaaGreatDoorHZSameP
namespace Go.Proofs.YtnblieohdngmiaaGreatDoor
open Go.RowKit

set_option maxRecDepth 100000 in
set_option maxHeartbeats 4000000 in
theorem sameCode_any (a b : Cd) (va vb : Value) (w : World) (ha : CV w va a) (hb : CV w vb b) :
    Calls Tryz.prog 20 #[va, vb] w fun e w' => e = .returned (.bool (sameC a b)) ∧ Below w.heap.size w w' := by
  obtain ⟨⟨r1, c1, r2, c2, r3, c3, rfl, hw1, hp1, hx1, _⟩, hl1⟩ := ha
  obtain ⟨⟨s1, d1, s2, d2, s3, d3, rfl, hw2, hp2, hx2, _⟩, hl2⟩ := hb
  have hal : Below w.heap.size w ((w.alloc (.cells #[.slice r1 a.consts.length c1, .slice r2 a.procs.length c2, .slice r3 a.globals.length c3] 29)).alloc (.cells #[.slice s1 b.consts.length d1, .slice s2 b.procs.length d2, .slice s3 b.globals.length d3] 29)) := ((Below.refl _ w).alloc (Nat.le_refl _) _).alloc (by simp) _
  have HB : Hid (Below w.heap.size w ((w.alloc (.cells #[.slice r1 a.consts.length c1, .slice r2 a.procs.length c2, .slice r3 a.globals.length c3] 29)).alloc (.cells #[.slice s1 b.consts.length d1, .slice s2 b.procs.length d2, .slice s3 b.globals.length d3] 29))) := hal
  have HQ0 : Hid (((w.alloc (.cells #[.slice r1 a.consts.length c1, .slice r2 a.procs.length c2, .slice r3 a.globals.length c3] 29)).alloc (.cells #[.slice s1 b.consts.length d1, .slice s2 b.procs.length d2, .slice s3 b.globals.length d3] 29)).heap[w.heap.size]? = some (.cells #[.slice r1 a.consts.length c1, .slice r2 a.procs.length c2, .slice r3 a.globals.length c3] 29 (0, 0))) := (Below.heap_alloc _ _ _ (by simp)).trans (heap_alloc_new _ _)
  have HQ1 : Hid (((w.alloc (.cells #[.slice r1 a.consts.length c1, .slice r2 a.procs.length c2, .slice r3 a.globals.length c3] 29)).alloc (.cells #[.slice s1 b.consts.length d1, .slice s2 b.procs.length d2, .slice s3 b.globals.length d3] 29)).heap[w.heap.size + 1]? = some (.cells #[.slice s1 b.consts.length d1, .slice s2 b.procs.length d2, .slice s3 b.globals.length d3] 29 (0, 0))) := by
    have := heap_alloc_new (w.alloc (.cells #[.slice r1 a.consts.length c1, .slice r2 a.procs.length c2, .slice r3 a.globals.length c3] 29)) (.cells #[.slice s1 b.consts.length d1, .slice s2 b.procs.length d2, .slice s3 b.globals.length d3] 29)
    rwa [World.size_alloc] at this
  have HS : Hid (((w.alloc (.cells #[.slice r1 a.consts.length c1, .slice r2 a.procs.length c2, .slice r3 a.globals.length c3] 29)).alloc (.cells #[.slice s1 b.consts.length d1, .slice s2 b.procs.length d2, .slice s3 b.globals.length d3] 29)).heap.size = w.heap.size + 2) := by show _ = _; rw [World.size_alloc, World.size_alloc]
  have H1 : Hid (∀ w5 : World, Below w.heap.size w w5 → Calls Tryz.prog 48 #[.slice r1 a.consts.length c1, .slice s1 b.consts.length d1] w5 fun e w' => e = .returned (.bool (decide (a.consts = b.consts))) ∧ Below w5.heap.size w5 w') := fun w5 h5 => sameW_any _ _ _ _ _ _ w5 hl1.1 hl2.1 (hw1.below h5) (hw2.below h5)
  have H3 : Hid (∀ w5 : World, Below w.heap.size w w5 → Calls Tryz.prog 50 #[.slice r3 a.globals.length c3, .slice s3 b.globals.length d3] w5 fun e w' => e = .returned (.bool (decide (a.globals = b.globals))) ∧ Below w5.heap.size w5 w') := fun w5 h5 => sameX_any _ _ _ _ _ _ w5 hl1.2.2 hl2.2.2 (hx1.below h5) (hx2.below h5)
  have H2 : Hid (∀ w5 : World, Below w.heap.size w w5 → Calls Tryz.prog 49 #[.slice r2 a.procs.length c2, .slice s2 b.procs.length d2] w5 fun e w' => e = .returned (.bool (samePs a.procs b.procs)) ∧ Below w5.heap.size w5 w') := fun w5 h5 => sameP_any _ _ _ _ _ _ w5 hl1.2.1 (hp1.below h5) (hp2.below h5)
  clear hal hw1 hp1 hx1 hw2 hp2 hx2 hl1 hl2
  go_enter Tryz.func20, Tryz.ntmps20
  go_wp2_with fail
  refine (H1.out _ HB.out).mono ?_
  rintro e w1 ⟨rfl, hb1⟩
  have HB1 : Hid (Below w.heap.size w w1) := HB.out.trans (hb1.mono HB.out.size)
  have HS1 : Hid (w.heap.size + 2 ≤ w1.heap.size) := by show _ ≤ _; rw [← HS.out]; exact hb1.size
  have e0 := (hb1.block w.heap.size (by rw [HS.out]; omega)).trans HQ0.out
  have e1 := (hb1.block (w.heap.size + 1) (by rw [HS.out]; omega)).trans HQ1.out
  have HE0 : Hid (w1.heap[w.heap.size]? = some (.cells #[.slice r1 a.consts.length c1, .slice r2 a.procs.length c2, .slice r3 a.globals.length c3] 29 (0, 0))) := e0
  have HE1 : Hid (w1.heap[w.heap.size + 1]? = some (.cells #[.slice s1 b.consts.length d1, .slice s2 b.procs.length d2, .slice s3 b.globals.length d3] 29 (0, 0))) := e1
  clear e0 e1 hb1
  cases h1 : decide (a.consts = b.consts)
  · have HV : Hid (sameC a b = false) := by show _ = _; unfold sameC; rw [h1]; rfl
    clear h1
    go_wp2
    go_ret
    exact ⟨by rw [HV.out]; rfl, HB1.out⟩
  have HV : Hid (sameC a b = (samePs a.procs b.procs && decide (a.globals = b.globals))) := by show _ = _; unfold sameC; rw [h1, Bool.true_and, Bool.and_comm]
  clear h1
  have u2 : w1.cell? ⟨w.heap.size, 1, none⟩ = some (.slice r2 a.procs.length c2) := by simp [World.cell?, HE0.out]
  have v2 : w1.cell? ⟨w.heap.size + 1, 1, none⟩ = some (.slice s2 b.procs.length d2) := by simp [World.cell?, HE1.out]
  go_wp2_with fail
  refine (H2.out _ HB1.out).mono ?_
  rintro e w2 ⟨rfl, hb2⟩
  have HB2 : Hid (Below w.heap.size w w2) := HB1.out.trans (hb2.mono HB1.out.size)
  have e0 := (hb2.block w.heap.size (by have := HS1.out; omega)).trans HE0.out
  have e1 := (hb2.block (w.heap.size + 1) (by have := HS1.out; omega)).trans HE1.out
  have u1 : w2.cell? ⟨w.heap.size, 2, none⟩ = some (.slice r3 a.globals.length c3) := by simp [World.cell?, e0]
  have v1 : w2.cell? ⟨w.heap.size + 1, 2, none⟩ = some (.slice s3 b.globals.length d3) := by simp [World.cell?, e1]
  clear e0 e1 hb2 u2 v2
  cases h2 : samePs a.procs b.procs
  · have HV2 : Hid (sameC a b = false) := by show _ = _; rw [HV.out, h2]; rfl
    clear h2
    go_wp2
    go_ret
    exact ⟨by rw [HV2.out]; rfl, HB2.out⟩
  have HV2 : Hid (sameC a b = decide (a.globals = b.globals)) := by show _ = _; rw [HV.out, h2]; rfl
  clear h2
  go_wp2_with fail
  refine (H3.out _ HB2.out).mono ?_
  rintro e w3 ⟨rfl, hb3⟩
  have HB3 : Hid (Below w.heap.size w w3) := HB2.out.trans (hb3.mono HB2.out.size)
  clear hb3 u1 v1
  go_wp2
  go_ret
  exact ⟨by rw [HV2.out]; rfl, HB3.out⟩
end Go.Proofs.YtnblieohdngmiaaGreatDoor
