/- exchange of a cell for another state. -/
import Derived.Test.YtjbfpklbgefacaaHMExchS
namespace Go.Proofs.Ytjbfpklbgefacaa
open Go.RowKit

set_option maxRecDepth 100000 in
set_option maxHeartbeats 8000000 in
theorem exchange_new {hb ab k f : Nat} {caps : Array Value} {h : List Cl} {x y : Cl} {w : World} (H : CH w hb ab h) (hx : h[k]? = some x) (hN : NextOk w f caps x y 0) (hne : x ≠ y) (hy : OkK y) :
    Calls Try.prog 33 #[.pointer (some ⟨hb, 0, none⟩), .int .i64 k, .func (.func f) #[] caps] w fun e w' => e = .returned (.tuple #[cV x, cV y, .int .i64 0]) ∧ ExR hb ab (h.set k y) w w' := by
  have hk : k < h.length := (List.getElem?_eq_some_iff.1 hx).1
  obtain ⟨a1, a2, q, a3, a4⟩ := H.at hx
  have l1 := H.lt
  have lq := a4.lt
  have i1 : (k : Int) < (h.length : Int) := by omega
  have HC0 : Hid (CH w hb ab h) := H
  have HA3 : Hid (w.cell? ⟨ab, k, none⟩ = some (.pointer (some ⟨q, 0, none⟩))) := a3
  have HN : Hid (NextOk w f caps x y 0) := hN
  obtain ⟨w2, hw2⟩ : ∃ w2, w2 = (w.alloc (.cells (cL c0) 84)).alloc (.cells (cL c0) 84) := ⟨_, rfl⟩
  have HB2 : Hid (Below w.heap.size w w2) := hw2 ▸ ((Below.refl _ w).alloc (Nat.le_refl _) _).alloc (by rw [World.size_alloc]; omega) _
  have H2 := H.below HB2.out
  obtain ⟨b1, b2, q2, b3, b4⟩ := H2.at hx
  have eq : q2 = q := by
    have := (HB2.out.cell (p := ⟨ab, k, none⟩) l1.2).trans a3
    rw [b3] at this
    cases this
    rfl
  subst eq
  have HL : Hid (Calls Try.prog 29 #[.pointer (some ⟨ab, k, none⟩)] w2 fun e w' => e = .returned (.pointer (some ⟨q2, 0, none⟩)) ∧ w' = w2) := pload_any b3 b4
  obtain ⟨d0, d1, d2, d3⟩ := b4.cell
  have s2 : w2.heap.size = w.heap.size + 1 + 1 := by rw [hw2, World.size_alloc, World.size_alloc]
  have hen := HN.out.enter
  have HC : Hid (Calls Try.prog f (#[cV x] ++ caps) w2 fun e W' => e = .returned (.tuple #[cV y, .int .i64 0]) ∧ Below w2.heap.size w2 W') := HN.out.call w2 HB2.out
  have lq2 := b4.lt
  have HQ : Hid (SB w2 q2 x) := b4
  have HQN : Hid (q2 < w.heap.size) := lq
  have lh2 := H2.lt
  clear H H2 hN a1 a2 a3 a4 b2 b3 b4 hx l1 lq
  go_enter Try.func33, Try.ntmps33
  go_wp2_with fail
  refine wp_loop_rounds 1 ?_
  rw [rounds_succ]
  unfold cL c0 at hw2
  rw [← hw2]
  have HW2 : Hid (w2 = (w.alloc (.cells (cL c0) 84)).alloc (.cells (cL c0) 84)) := hw2
  clear hw2
  go_wp2_with fail
  refine Calls.mono HL.out ?_
  rintro e w' ⟨rfl, hw'⟩
  rw [hw']
  clear hw'
  go_wp2_with fail
  refine Calls.mono HC.out ?_
  rintro e w3 ⟨rfl, hb3⟩
  have HB3 : Hid (Below w2.heap.size w2 w3) := hb3
  have t1 := two_new w (.cells (cL c0) 84) (.cells (cL c0) 84)
  rw [← HW2.out] at t1
  have s3 : w.heap.size + 1 + 1 ≤ w3.heap.size := by have := hb3.size; omega
  have v1 : q2 < w3.heap.size := by have := hb3.size; omega
  obtain ⟨w4, hw4⟩ : ∃ w4, w4 = w3.alloc (.cells #[.int .u8 y.k, .int .u8 y.c, .int .u64 y.a, .int .u64 y.b] 84) := ⟨_, rfl⟩
  have B4 : Below w3.heap.size w3 w4 := hw4 ▸ (Below.refl _ w3).alloc (Nat.le_refl _) _
  have HBw : Hid (Below w.heap.size w w4) := (HB2.out.trans (HB3.out.mono HB2.out.size)).trans (B4.mono (by omega))
  have HN4 : Hid (SB w4 w3.heap.size y) := hw4 ▸ sb_new w3 y
  have HS6 : Hid (SB w4 w.heap.size c0) := (B4.block _ (by omega)).trans ((hb3.block _ (by omega)).trans t1.1)
  have HS7 : Hid (SB w4 (w.heap.size + 1) c0) := (B4.block _ (by omega)).trans ((hb3.block _ (by omega)).trans t1.2)
  have HQ4 : Hid (SB w4 q2 x) := (B4.block _ v1).trans ((hb3.block _ lq2).trans (show SB w2 q2 x from HQ.out))
  obtain ⟨⟨e0, e1, e2, e3⟩, ef⟩ := zero_cells HS6.out
  obtain ⟨⟨g0, g1, g2, g3⟩, gf⟩ := zero_cells HS7.out
  obtain ⟨p0, p1, p2, p3⟩ := HN4.out.cell
  obtain ⟨r0, r1, r2, r3⟩ := HQ4.out.cell
  have hE : ∀ W, (binOp .eql 84 (cV y) (cV x)).run Try.prog W = .ok (.bool false) W := fun W => by
    rw [eql_state]
    cases hq : (y.k == x.k && (y.c == x.c && (y.a == x.a && y.b == x.b)))
    · rfl
    · exact absurd (cl_eq.1 hq).symm hne
  have s4 : w4.heap.size = w3.heap.size + 1 := by rw [hw4, World.size_alloc]
  have u1 : w.heap.size < w4.heap.size := by omega
  have u2 : w.heap.size + 1 < w4.heap.size := by omega
  have u5 : w3.heap.size < w4.heap.size := by omega
  have u6 : q2 < w4.heap.size := by omega
  have y1 : w.heap.size ≠ w3.heap.size := by omega
  have y2 : w.heap.size + 1 ≠ w3.heap.size := by omega
  have y3 : w.heap.size ≠ q2 := fun e => by have := HS6.out; rw [e] at this; have := HQN.out; omega
  have y4 : w.heap.size + 1 ≠ q2 := fun e => by have := HQN.out; omega
  have HW4 : Hid (w4 = w3.alloc (.cells #[.int .u8 y.k, .int .u8 y.c, .int .u64 y.a, .int .u64 y.b] 84)) := hw4
  have H4 : CH w4 hb ab h := HC0.out.below HBw.out
  have HH4 : Hid (CH w4 hb ab h) := H4
  have m1 : w4.cell? ⟨hb, 0, none⟩ = some (.slice (some ⟨ab, 0, none⟩) h.length h.length) := heap_cell H4.v rfl
  have m2 : w4.cell? ⟨ab, k, none⟩ = some (.pointer (some ⟨q2, 0, none⟩)) := (HBw.out.cell (p := ⟨ab, k, none⟩) HC0.out.lt.2).trans HA3.out
  have m3 : w4.frozen? ⟨ab, k, none⟩ = false := by
    obtain ⟨cs, r1, _⟩ := H4.r
    simp [World.frozen?, r1]
  have HCas : Hid (Calls Try.prog 41 #[.pointer (some ⟨ab, k, none⟩), .pointer (some ⟨q2, 0, none⟩), .pointer (some ⟨w3.heap.size, 0, none⟩)] w4.drew fun e w' => e = .returned (.bool true) ∧ w' = w4.drew.setCell ⟨ab, k, none⟩ (.pointer (some ⟨w3.heap.size, 0, none⟩))) := pcas_any (x := x) (y := y) m2 m3 HQ4.out HN4.out
  have lab : ab < w4.heap.size := H4.lt.2
  have n1 : hb ≠ ab := H4.ne
  have n2 : w3.heap.size ≠ ab := by
    obtain ⟨cs, r1, _⟩ := H4.r
    exact ty_ne HN4.out r1 (by decide)
  have n3 : q2 ≠ ab := by
    obtain ⟨cs, r1, _⟩ := H4.r
    exact ty_ne HQ4.out r1 (by decide)
  have fa : ∀ (g j : Nat) (v : Value), g ≠ ab → w4.cell? ⟨g, j, none⟩ = some v → (w4.drew.setCell ⟨ab, k, none⟩ (.pointer (some ⟨w3.heap.size, 0, none⟩))).cell? ⟨g, j, none⟩ = some v := fun g j v hg hv => (World.cell?_setCell_far _ _ _ _ (fun e => hg e.symm)).trans hv
  have mk : (fun wx : World => wx.cell? ⟨hb, 0, none⟩ = some (.slice (some ⟨ab, 0, none⟩) h.length h.length) ∧ wx.cell? ⟨w3.heap.size, 0, none⟩ = some (.int .u8 y.k) ∧ wx.cell? ⟨w3.heap.size, 1, none⟩ = some (.int .u8 y.c) ∧ wx.cell? ⟨w3.heap.size, 2, none⟩ = some (.int .u64 y.a) ∧ wx.cell? ⟨w3.heap.size, 3, none⟩ = some (.int .u64 y.b) ∧ wx.cell? ⟨q2, 0, none⟩ = some (.int .u8 x.k) ∧ wx.cell? ⟨q2, 1, none⟩ = some (.int .u8 x.c) ∧ wx.cell? ⟨q2, 2, none⟩ = some (.int .u64 x.a) ∧ wx.cell? ⟨q2, 3, none⟩ = some (.int .u64 x.b)) (w4.drew.setCell ⟨ab, k, none⟩ (.pointer (some ⟨w3.heap.size, 0, none⟩))) :=
    ⟨fa _ _ _ n1 m1, fa _ _ _ n2 p0, fa _ _ _ n2 p1, fa _ _ _ n2 p2, fa _ _ _ n2 p3, fa _ _ _ n3 r0, fa _ _ _ n3 r1, fa _ _ _ n3 r2, fa _ _ _ n3 r3⟩
  clear fa H4
  clear hw4 B4 t1 hb3 s2 lh2 d0 d1 d2 d3 b1 HL HC HN
  go_wp2_with fail
  rw [← HW4.out]
  go_region_held3 (fun wx => wx.cell? ⟨hb, 0, none⟩ = some (.slice (some ⟨ab, 0, none⟩) h.length h.length) ∧ wx.cell? ⟨w3.heap.size, 0, none⟩ = some (.int .u8 y.k) ∧ wx.cell? ⟨w3.heap.size, 1, none⟩ = some (.int .u8 y.c) ∧ wx.cell? ⟨w3.heap.size, 2, none⟩ = some (.int .u64 y.a) ∧ wx.cell? ⟨w3.heap.size, 3, none⟩ = some (.int .u64 y.b) ∧ wx.cell? ⟨q2, 0, none⟩ = some (.int .u8 x.k) ∧ wx.cell? ⟨q2, 1, none⟩ = some (.int .u8 x.c) ∧ wx.cell? ⟨q2, 2, none⟩ = some (.int .u64 x.a) ∧ wx.cell? ⟨q2, 3, none⟩ = some (.int .u64 x.b)) (first | (go_keep; done) | exact ⟨m1, p0, p1, p2, p3, r0, r1, r2, r3⟩ | exact mk) (first | (go_at_call 41; refine HCas.out.mono ?_; rintro e w' ⟨rfl, rfl⟩) | fail)
  go_wp2_with fail
  obtain ⟨w5, hw5⟩ : ∃ w5, w5 = (w4.setCell ⟨ab, k, none⟩ (.pointer (some ⟨w3.heap.size, 0, none⟩))).drew := ⟨_, rfl⟩
  rw [← hw5]
  have f5 : ∀ g, g ≠ ab → w5.heap[g]? = w4.heap[g]? := fun g hg => by rw [hw5]; exact Below.heap_setCell _ _ _ _ hg
  obtain ⟨cs, r1, r2, _⟩ := HC0.out.r
  have r4 : w4.heap[ab]? = some (.cells cs 80 (0, 0)) := (HBw.out.block _ HC0.out.lt.2).trans r1
  have HR1 : Hid (w.heap[ab]? = some (.cells cs 80 (0, 0))) := r1
  have HR5 : Hid (w5.heap[ab]? = some (.cells (cs.setIfInBounds k (.pointer (some ⟨w3.heap.size, 0, none⟩))) 80 (0, 0))) := by rw [hw5]; exact set_atC r4 _
  have z1 : w.heap.size ≠ ab := ty_ne HS6.out r4 (by decide)
  have z2 : w.heap.size + 1 ≠ ab := ty_ne HS7.out r4 (by decide)
  have HF5 : Hid (Fr (fun g => g ≠ ab) w w5) := by
    refine ⟨?_, fun g hg hl => (f5 g hg).trans (HBw.out.block g hl)⟩
    rw [hw5]
    exact ((HBw.out.mono (Nat.zero_le _)).setCell (p := ⟨ab, k, none⟩) (Nat.zero_le _) _).drew
  have HS6' : Hid (SB w5 w.heap.size c0) := (f5 _ z1).trans HS6.out
  have HS7' : Hid (SB w5 (w.heap.size + 1) c0) := (f5 _ z2).trans HS7.out
  have HN5 : Hid (SB w5 w3.heap.size y) := (f5 _ n2).trans HN4.out
  have HQ5 : Hid (SB w5 q2 x) := (f5 _ n3).trans HQ4.out
  have s5 : w5.heap.size = w4.heap.size := by rw [hw5]; exact World.size_setCell ..
  clear hw5 f5 r1 r2 r4 ef e0 e1 e2 e3 gf g0 g1 g2 g3 p0 p1 p2 p3 mk m1 m2 m3
  rename_i rr0 rr1 rr2 rr3
  obtain ⟨⟨e0, e1, e2, e3⟩, ef⟩ := zero_cells HS6'.out
  obtain ⟨⟨g0, g1, g2, g3⟩, gf⟩ := zero_cells HS7'.out
  obtain ⟨p0, p1, p2, p3⟩ := HN5.out.cell
  obtain ⟨q0, q1, q2', q3⟩ := HQ5.out.cell
  have u1' : w.heap.size < w5.heap.size := by omega
  have u2' : w.heap.size + 1 < w5.heap.size := by omega
  go_region
  go_wp2_with fail
  refine bodyPost_ret (results_cc (x := x) (y := y) (g1 := w.heap.size) (g2 := w.heap.size + 1) rfl rfl rfl rfl ?_ ?_) rfl ?_
  · refine sb_drew ?_
    refine SB.kept ?_ (s4_far (by omega) _ _ _ _)
    exact sb_s4 (y := x) HS6'.out
  · refine sb_drew ?_
    refine sb_s4 (x := c0) (y := y) ?_
    exact SB.kept HS7'.out (s4_far (by omega) _ _ _ _)
  · refine ⟨rfl, ?_⟩
    have F := fr_s8 HF5.out (Nat.le_refl _) (Nat.le_succ _) (.int .u8 x.k) (.int .u8 x.c) (.int .u64 x.a) (.int .u64 x.b) (.int .u8 y.k) (.int .u8 y.c) (.int .u64 y.a) (.int .u64 y.b)
    have A1 := s8_far (w5 := w5) (fun e => z1 e.symm) (fun e => z2 e.symm) (.int .u8 x.k) (.int .u8 x.c) (.int .u64 x.a) (.int .u64 x.b) (.int .u8 y.k) (.int .u8 y.c) (.int .u64 y.a) (.int .u64 y.b)
    have A2 := s8_far (w5 := w5) (fun e => y1 e.symm) (fun e => y2 e.symm) (.int .u8 x.k) (.int .u8 x.c) (.int .u64 x.a) (.int .u64 x.b) (.int .u8 y.k) (.int .u8 y.c) (.int .u64 y.a) (.int .u64 y.b)
    exact ⟨HC0.out.put F hk HR1.out (A1.trans HR5.out) (HN5.out.kept A2) hy, F, us_put HR1.out (A1.trans HR5.out) (by omega)⟩
end Go.Proofs.Ytjbfpklbgefacaa
