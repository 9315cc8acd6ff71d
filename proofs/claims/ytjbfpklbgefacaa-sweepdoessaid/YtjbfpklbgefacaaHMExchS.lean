/- exchange where nothing turns. -/
import Derived.Test.YtjbfpklbgefacaaHMExch
namespace Go.Proofs.Ytjbfpklbgefacaa
open Go.RowKit

set_option maxRecDepth 100000 in
set_option maxHeartbeats 8000000 in
theorem exchange_same {hb ab k f : Nat} {caps : Array Value} {h : List Cl} {x : Cl} {w : World} (H : CH w hb ab h) (hx : h[k]? = some x) (hN : NextOk w f caps x x 0) :
    Calls Try.prog 33 #[.pointer (some ⟨hb, 0, none⟩), .int .i64 k, .func (.func f) #[] caps] w fun e w' => e = .returned (.tuple #[cV x, cV x, .int .i64 0]) ∧ Below w.heap.size w w' := by
  have hk : k < h.length := (List.getElem?_eq_some_iff.1 hx).1
  obtain ⟨a1, a2, q, a3, a4⟩ := H.at hx
  have l1 := H.lt
  have lq := a4.lt
  have i1 : (k : Int) < (h.length : Int) := by omega
  have HN : Hid (NextOk w f caps x x 0) := hN
  obtain ⟨w2, hw2⟩ : ∃ w2, w2 = (w.alloc (.cells (cL c0) 84)).alloc (.cells (cL c0) 84) := ⟨_, rfl⟩
  have HB2 : Hid (Below w.heap.size w w2) := hw2 ▸ ((Below.refl _ w).alloc (Nat.le_refl _) _).alloc (by rw [World.size_alloc]; omega) _
  have H2 := H.below HB2.out
  obtain ⟨b1, b2, q2, b3, b4⟩ := H2.at hx
  have eq : q2 = q := by
    have := (HB2.out.cell (p := ⟨ab, k, none⟩) l1.2).trans a3
    rw [b3] at this
    cases this
    rfl
  subst eq
  have HL : Hid (Calls Try.prog 29 #[.pointer (some ⟨ab, k, none⟩)] w2 fun e w' => e = .returned (.pointer (some ⟨q2, 0, none⟩)) ∧ w' = w2) := pload_any b3 b4
  obtain ⟨d0, d1, d2, d3⟩ := b4.cell
  have s2 : w2.heap.size = w.heap.size + 1 + 1 := by rw [hw2, World.size_alloc, World.size_alloc]
  have hen := HN.out.enter
  have HC : Hid (Calls Try.prog f (#[cV x] ++ caps) w2 fun e W' => e = .returned (.tuple #[cV x, .int .i64 0]) ∧ Below w2.heap.size w2 W') := HN.out.call w2 HB2.out
  have lq2 := b4.lt
  have HQ : Hid (SB w2 q2 x) := b4
  have HQN : Hid (q2 < w.heap.size) := lq
  have lh2 := H2.lt
  clear H H2 hN a1 a2 a3 a4 b2 b3 b4 hx l1 lq
  go_enter Try.func33, Try.ntmps33
  go_wp2_with fail
  refine wp_loop_rounds 1 ?_
  rw [rounds_succ]
  unfold cL c0 at hw2
  rw [← hw2]
  have HW2 : Hid (w2 = (w.alloc (.cells (cL c0) 84)).alloc (.cells (cL c0) 84)) := hw2
  clear hw2
  go_wp2_with fail
  refine Calls.mono HL.out ?_
  rintro e w' ⟨rfl, hw'⟩
  rw [hw']
  clear hw'
  go_wp2_with fail
  refine Calls.mono HC.out ?_
  rintro e w3 ⟨rfl, hb3⟩
  have HB3 : Hid (Below w2.heap.size w2 w3) := hb3
  have t1 := two_new w (.cells (cL c0) 84) (.cells (cL c0) 84)
  rw [← HW2.out] at t1
  have s3 : w.heap.size + 1 + 1 ≤ w3.heap.size := by have := hb3.size; omega
  have v1 : q2 < w3.heap.size := by have := hb3.size; omega
  obtain ⟨w4, hw4⟩ : ∃ w4, w4 = w3.alloc (.cells #[.int .u8 x.k, .int .u8 x.c, .int .u64 x.a, .int .u64 x.b] 84) := ⟨_, rfl⟩
  have B4 : Below w3.heap.size w3 w4 := hw4 ▸ (Below.refl _ w3).alloc (Nat.le_refl _) _
  have HBw : Hid (Below w.heap.size w w4) := (HB2.out.trans (HB3.out.mono HB2.out.size)).trans (B4.mono (by omega))
  have HN4 : Hid (SB w4 w3.heap.size x) := hw4 ▸ sb_new w3 x
  have HS6 : Hid (SB w4 w.heap.size c0) := (B4.block _ (by omega)).trans ((hb3.block _ (by omega)).trans t1.1)
  have HS7 : Hid (SB w4 (w.heap.size + 1) c0) := (B4.block _ (by omega)).trans ((hb3.block _ (by omega)).trans t1.2)
  have HQ4 : Hid (SB w4 q2 x) := (B4.block _ v1).trans ((hb3.block _ lq2).trans (show SB w2 q2 x from HQ.out))
  obtain ⟨⟨e0, e1, e2, e3⟩, ef⟩ := zero_cells HS6.out
  obtain ⟨⟨g0, g1, g2, g3⟩, gf⟩ := zero_cells HS7.out
  obtain ⟨p0, p1, p2, p3⟩ := HN4.out.cell
  obtain ⟨r0, r1, r2, r3⟩ := HQ4.out.cell
  have hE : ∀ W, (binOp .eql 84 (cV x) (cV x)).run Try.prog W = .ok (.bool true) W := fun W => by rw [eql_state]; simp
  have s4 : w4.heap.size = w3.heap.size + 1 := by rw [hw4, World.size_alloc]
  have u1 : w.heap.size < w4.heap.size := by omega
  have u2 : w.heap.size + 1 < w4.heap.size := by omega
  have u5 : w3.heap.size < w4.heap.size := by omega
  have u6 : q2 < w4.heap.size := by omega
  have y1 : w.heap.size ≠ w3.heap.size := by omega
  have y2 : w.heap.size + 1 ≠ w3.heap.size := by omega
  have y3 : w.heap.size ≠ q2 := fun e => by have := HS6.out; rw [e] at this; have := HQN.out; omega
  have y4 : w.heap.size + 1 ≠ q2 := fun e => by have := HQN.out; omega
  have HW4 : Hid (w4 = w3.alloc (.cells #[.int .u8 x.k, .int .u8 x.c, .int .u64 x.a, .int .u64 x.b] 84)) := hw4
  clear hw4 B4 t1 hb3 s2 lh2 d0 d1 d2 d3 b1 HL HC HN
  go_wp2_with fail
  rw [← HW4.out]
  go_quiet (fail)
  go_wp2_with fail
  go_region
  go_wp2_with fail
  refine bodyPost_ret (results_cc (x := x) (y := x) (g1 := w.heap.size) (g2 := w.heap.size + 1) rfl rfl rfl rfl ?_ ?_) rfl ?_
  · refine SB.kept ?_ (s4_far (by omega) _ _ _ _)
    exact sb_s4 (y := x) (sb_drewN HS6.out _)
  · refine sb_s4 (x := c0) (y := x) ?_
    exact SB.kept (sb_drewN HS7.out _) (s4_far (by omega) _ _ _ _)
  · refine ⟨rfl, ?_⟩
    refine below_s4 ?_ (Nat.le_succ _) _ _ _ _
    exact below_s4 (below_drewN HBw.out _) (Nat.le_refl _) _ _ _ _
end Go.Proofs.Ytjbfpklbgefacaa
