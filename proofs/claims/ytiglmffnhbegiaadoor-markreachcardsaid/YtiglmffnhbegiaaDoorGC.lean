/- exchange where nothing turns.; exchange of a cell for another state.; exchange, and change: exchange of a cell that must not be free. -/
import Derived.Test.YtiglmffnhbegiaaDoorGB
/- exchange where nothing turns. -/
namespace Go.Proofs.YtiglmffnhbegiaaDoor
open Go.RowKit

set_option maxRecDepth 100000 in
set_option maxHeartbeats 8000000 in
theorem exchange_same {hb ab k f : Nat} {caps : Array Value} {h : List Cl} {x : Cl} {w : World} (H : CH w hb ab h) (hx : h[k]? = some x) (hN : NextOk w f caps x x 0) :
    Calls Tryd.prog 72 #[.pointer (some ⟨hb, 0, none⟩), .int .i64 k, .func (.func f) #[] caps] w fun e w' => e = .returned (.tuple #[cV x, cV x, .int .i64 0]) ∧ Below w.heap.size w w' := by
  have hk : k < h.length := (List.getElem?_eq_some_iff.1 hx).1
  obtain ⟨a1, a2, q, a3, a4⟩ := H.at hx
  have l1 := H.lt
  have lq := a4.lt
  have i1 : (k : Int) < (h.length : Int) := by omega
  have HN : Hid (NextOk w f caps x x 0) := hN
  obtain ⟨w2, hw2⟩ : ∃ w2, w2 = (w.alloc (.cells (cL c0) 142)).alloc (.cells (cL c0) 142) := ⟨_, rfl⟩
  have HB2 : Hid (Below w.heap.size w w2) := hw2 ▸ ((Below.refl _ w).alloc (Nat.le_refl _) _).alloc (by rw [World.size_alloc]; omega) _
  have H2 := H.below HB2.out
  obtain ⟨b1, b2, q2, b3, b4⟩ := H2.at hx
  have eq : q2 = q := by
    have := (HB2.out.cell (p := ⟨ab, k, none⟩) l1.2).trans a3
    rw [b3] at this
    cases this
    rfl
  subst eq
  have HL : Hid (Calls Tryd.prog 75 #[.pointer (some ⟨ab, k, none⟩)] w2 fun e w' => e = .returned (.pointer (some ⟨q2, 0, none⟩)) ∧ w' = w2) := pload_any b3 b4
  obtain ⟨d0, d1, d2, d3⟩ := b4.cell
  have s2 : w2.heap.size = w.heap.size + 1 + 1 := by rw [hw2, World.size_alloc, World.size_alloc]
  have hen := HN.out.enter
  have HC : Hid (Calls Tryd.prog f (#[cV x] ++ caps) w2 fun e W' => e = .returned (.tuple #[cV x, .int .i64 0]) ∧ Below w2.heap.size w2 W') := HN.out.call w2 HB2.out
  have lq2 := b4.lt
  have HQ : Hid (SB w2 q2 x) := b4
  have HQN : Hid (q2 < w.heap.size) := lq
  have lh2 := H2.lt
  clear H H2 hN a1 a2 a3 a4 b2 b3 b4 hx l1 lq
  go_enter Tryd.func72, Tryd.ntmps72
  go_wp2_with fail
  refine wp_loop_rounds 1 ?_
  rw [rounds_succ]
  unfold cL c0 at hw2
  rw [← hw2]
  have HW2 : Hid (w2 = (w.alloc (.cells (cL c0) 142)).alloc (.cells (cL c0) 142)) := hw2
  clear hw2
  go_wp2_with fail
  refine Calls.mono HL.out ?_
  rintro e w' ⟨rfl, hw'⟩
  rw [hw']
  clear hw'
  go_wp2_with fail
  refine Calls.mono HC.out ?_
  rintro e w3 ⟨rfl, hb3⟩
  have HB3 : Hid (Below w2.heap.size w2 w3) := hb3
  have t1 := two_new w (.cells (cL c0) 142) (.cells (cL c0) 142)
  rw [← HW2.out] at t1
  have s3 : w.heap.size + 1 + 1 ≤ w3.heap.size := by have := hb3.size; omega
  have v1 : q2 < w3.heap.size := by have := hb3.size; omega
  obtain ⟨w4, hw4⟩ : ∃ w4, w4 = w3.alloc (.cells #[.int .u8 x.k, .int .u8 x.c, .int .u64 x.a, .int .u64 x.b] 142) := ⟨_, rfl⟩
  have B4 : Below w3.heap.size w3 w4 := hw4 ▸ (Below.refl _ w3).alloc (Nat.le_refl _) _
  have HBw : Hid (Below w.heap.size w w4) := (HB2.out.trans (HB3.out.mono HB2.out.size)).trans (B4.mono (by omega))
  have HN4 : Hid (SB w4 w3.heap.size x) := hw4 ▸ sb_new w3 x
  have HS6 : Hid (SB w4 w.heap.size c0) := (B4.block _ (by omega)).trans ((hb3.block _ (by omega)).trans t1.1)
  have HS7 : Hid (SB w4 (w.heap.size + 1) c0) := (B4.block _ (by omega)).trans ((hb3.block _ (by omega)).trans t1.2)
  have HQ4 : Hid (SB w4 q2 x) := (B4.block _ v1).trans ((hb3.block _ lq2).trans (show SB w2 q2 x from HQ.out))
  obtain ⟨⟨e0, e1, e2, e3⟩, ef⟩ := zero_cells HS6.out
  obtain ⟨⟨g0, g1, g2, g3⟩, gf⟩ := zero_cells HS7.out
  obtain ⟨p0, p1, p2, p3⟩ := HN4.out.cell
  obtain ⟨r0, r1, r2, r3⟩ := HQ4.out.cell
  have hE : ∀ W, (binOp .eql 142 (cV x) (cV x)).run Tryd.prog W = .ok (.bool true) W := fun W => by rw [eql_state]; simp
  have s4 : w4.heap.size = w3.heap.size + 1 := by rw [hw4, World.size_alloc]
  have u1 : w.heap.size < w4.heap.size := by omega
  have u2 : w.heap.size + 1 < w4.heap.size := by omega
  have u5 : w3.heap.size < w4.heap.size := by omega
  have u6 : q2 < w4.heap.size := by omega
  have y1 : w.heap.size ≠ w3.heap.size := by omega
  have y2 : w.heap.size + 1 ≠ w3.heap.size := by omega
  have y3 : w.heap.size ≠ q2 := fun e => by have := HS6.out; rw [e] at this; have := HQN.out; omega
  have y4 : w.heap.size + 1 ≠ q2 := fun e => by have := HQN.out; omega
  have HW4 : Hid (w4 = w3.alloc (.cells #[.int .u8 x.k, .int .u8 x.c, .int .u64 x.a, .int .u64 x.b] 142)) := hw4
  clear hw4 B4 t1 hb3 s2 lh2 d0 d1 d2 d3 b1 HL HC HN
  go_wp2_with fail
  rw [← HW4.out]
  go_quiet (fail)
  go_wp2_with fail
  go_region
  go_wp2_with fail
  refine bodyPost_ret (results_cc (x := x) (y := x) (g1 := w.heap.size) (g2 := w.heap.size + 1) rfl rfl rfl rfl ?_ ?_) rfl ?_
  · refine SB.kept ?_ (s4_far (by omega) _ _ _ _)
    exact sb_s4 (y := x) (sb_drewN HS6.out _)
  · refine sb_s4 (x := c0) (y := x) ?_
    exact SB.kept (sb_drewN HS7.out _) (s4_far (by omega) _ _ _ _)
  · refine ⟨rfl, ?_⟩
    refine below_s4 ?_ (Nat.le_succ _) _ _ _ _
    exact below_s4 (below_drewN HBw.out _) (Nat.le_refl _) _ _ _ _
end Go.Proofs.YtiglmffnhbegiaaDoor

/- exchange of a cell for another state. -/
namespace Go.Proofs.YtiglmffnhbegiaaDoor
open Go.RowKit

set_option maxRecDepth 100000 in
set_option maxHeartbeats 8000000 in
theorem exchange_new {hb ab k f : Nat} {caps : Array Value} {h : List Cl} {x y : Cl} {w : World} (H : CH w hb ab h) (hx : h[k]? = some x) (hN : NextOk w f caps x y 0) (hne : x ≠ y) (hy : OkK y) :
    Calls Tryd.prog 72 #[.pointer (some ⟨hb, 0, none⟩), .int .i64 k, .func (.func f) #[] caps] w fun e w' => e = .returned (.tuple #[cV x, cV y, .int .i64 0]) ∧ ExR hb ab (h.set k y) w w' := by
  have hk : k < h.length := (List.getElem?_eq_some_iff.1 hx).1
  obtain ⟨a1, a2, q, a3, a4⟩ := H.at hx
  have l1 := H.lt
  have lq := a4.lt
  have i1 : (k : Int) < (h.length : Int) := by omega
  have HC0 : Hid (CH w hb ab h) := H
  have HA3 : Hid (w.cell? ⟨ab, k, none⟩ = some (.pointer (some ⟨q, 0, none⟩))) := a3
  have HN : Hid (NextOk w f caps x y 0) := hN
  obtain ⟨w2, hw2⟩ : ∃ w2, w2 = (w.alloc (.cells (cL c0) 142)).alloc (.cells (cL c0) 142) := ⟨_, rfl⟩
  have HB2 : Hid (Below w.heap.size w w2) := hw2 ▸ ((Below.refl _ w).alloc (Nat.le_refl _) _).alloc (by rw [World.size_alloc]; omega) _
  have H2 := H.below HB2.out
  obtain ⟨b1, b2, q2, b3, b4⟩ := H2.at hx
  have eq : q2 = q := by
    have := (HB2.out.cell (p := ⟨ab, k, none⟩) l1.2).trans a3
    rw [b3] at this
    cases this
    rfl
  subst eq
  have HL : Hid (Calls Tryd.prog 75 #[.pointer (some ⟨ab, k, none⟩)] w2 fun e w' => e = .returned (.pointer (some ⟨q2, 0, none⟩)) ∧ w' = w2) := pload_any b3 b4
  obtain ⟨d0, d1, d2, d3⟩ := b4.cell
  have s2 : w2.heap.size = w.heap.size + 1 + 1 := by rw [hw2, World.size_alloc, World.size_alloc]
  have hen := HN.out.enter
  have HC : Hid (Calls Tryd.prog f (#[cV x] ++ caps) w2 fun e W' => e = .returned (.tuple #[cV y, .int .i64 0]) ∧ Below w2.heap.size w2 W') := HN.out.call w2 HB2.out
  have lq2 := b4.lt
  have HQ : Hid (SB w2 q2 x) := b4
  have HQN : Hid (q2 < w.heap.size) := lq
  have lh2 := H2.lt
  clear H H2 hN a1 a2 a3 a4 b2 b3 b4 hx l1 lq
  go_enter Tryd.func72, Tryd.ntmps72
  go_wp2_with fail
  refine wp_loop_rounds 1 ?_
  rw [rounds_succ]
  unfold cL c0 at hw2
  rw [← hw2]
  have HW2 : Hid (w2 = (w.alloc (.cells (cL c0) 142)).alloc (.cells (cL c0) 142)) := hw2
  clear hw2
  go_wp2_with fail
  refine Calls.mono HL.out ?_
  rintro e w' ⟨rfl, hw'⟩
  rw [hw']
  clear hw'
  go_wp2_with fail
  refine Calls.mono HC.out ?_
  rintro e w3 ⟨rfl, hb3⟩
  have HB3 : Hid (Below w2.heap.size w2 w3) := hb3
  have t1 := two_new w (.cells (cL c0) 142) (.cells (cL c0) 142)
  rw [← HW2.out] at t1
  have s3 : w.heap.size + 1 + 1 ≤ w3.heap.size := by have := hb3.size; omega
  have v1 : q2 < w3.heap.size := by have := hb3.size; omega
  obtain ⟨w4, hw4⟩ : ∃ w4, w4 = w3.alloc (.cells #[.int .u8 y.k, .int .u8 y.c, .int .u64 y.a, .int .u64 y.b] 142) := ⟨_, rfl⟩
  have B4 : Below w3.heap.size w3 w4 := hw4 ▸ (Below.refl _ w3).alloc (Nat.le_refl _) _
  have HBw : Hid (Below w.heap.size w w4) := (HB2.out.trans (HB3.out.mono HB2.out.size)).trans (B4.mono (by omega))
  have HN4 : Hid (SB w4 w3.heap.size y) := hw4 ▸ sb_new w3 y
  have HS6 : Hid (SB w4 w.heap.size c0) := (B4.block _ (by omega)).trans ((hb3.block _ (by omega)).trans t1.1)
  have HS7 : Hid (SB w4 (w.heap.size + 1) c0) := (B4.block _ (by omega)).trans ((hb3.block _ (by omega)).trans t1.2)
  have HQ4 : Hid (SB w4 q2 x) := (B4.block _ v1).trans ((hb3.block _ lq2).trans (show SB w2 q2 x from HQ.out))
  obtain ⟨⟨e0, e1, e2, e3⟩, ef⟩ := zero_cells HS6.out
  obtain ⟨⟨g0, g1, g2, g3⟩, gf⟩ := zero_cells HS7.out
  obtain ⟨p0, p1, p2, p3⟩ := HN4.out.cell
  obtain ⟨r0, r1, r2, r3⟩ := HQ4.out.cell
  have hE : ∀ W, (binOp .eql 142 (cV y) (cV x)).run Tryd.prog W = .ok (.bool false) W := fun W => by
    rw [eql_state]
    cases hq : (y.k == x.k && (y.c == x.c && (y.a == x.a && y.b == x.b)))
    · rfl
    · exact absurd (cl_eq.1 hq).symm hne
  have s4 : w4.heap.size = w3.heap.size + 1 := by rw [hw4, World.size_alloc]
  have u1 : w.heap.size < w4.heap.size := by omega
  have u2 : w.heap.size + 1 < w4.heap.size := by omega
  have u5 : w3.heap.size < w4.heap.size := by omega
  have u6 : q2 < w4.heap.size := by omega
  have y1 : w.heap.size ≠ w3.heap.size := by omega
  have y2 : w.heap.size + 1 ≠ w3.heap.size := by omega
  have y3 : w.heap.size ≠ q2 := fun e => by have := HS6.out; rw [e] at this; have := HQN.out; omega
  have y4 : w.heap.size + 1 ≠ q2 := fun e => by have := HQN.out; omega
  have HW4 : Hid (w4 = w3.alloc (.cells #[.int .u8 y.k, .int .u8 y.c, .int .u64 y.a, .int .u64 y.b] 142)) := hw4
  have H4 : CH w4 hb ab h := HC0.out.below HBw.out
  have HH4 : Hid (CH w4 hb ab h) := H4
  have m1 : w4.cell? ⟨hb, 0, none⟩ = some (.slice (some ⟨ab, 0, none⟩) h.length h.length) := heap_cell H4.v rfl
  have m2 : w4.cell? ⟨ab, k, none⟩ = some (.pointer (some ⟨q2, 0, none⟩)) := (HBw.out.cell (p := ⟨ab, k, none⟩) HC0.out.lt.2).trans HA3.out
  have m3 : w4.frozen? ⟨ab, k, none⟩ = false := by
    obtain ⟨cs, r1, _⟩ := H4.r
    simp [World.frozen?, r1]
  have HCas : Hid (Calls Tryd.prog 96 #[.pointer (some ⟨ab, k, none⟩), .pointer (some ⟨q2, 0, none⟩), .pointer (some ⟨w3.heap.size, 0, none⟩)] w4.drew fun e w' => e = .returned (.bool true) ∧ w' = w4.drew.setCell ⟨ab, k, none⟩ (.pointer (some ⟨w3.heap.size, 0, none⟩))) := pcas_any (x := x) (y := y) m2 m3 HQ4.out HN4.out
  have lab : ab < w4.heap.size := H4.lt.2
  have n1 : hb ≠ ab := H4.ne
  have n2 : w3.heap.size ≠ ab := by
    obtain ⟨cs, r1, _⟩ := H4.r
    exact ty_ne HN4.out r1 (by decide)
  have n3 : q2 ≠ ab := by
    obtain ⟨cs, r1, _⟩ := H4.r
    exact ty_ne HQ4.out r1 (by decide)
  have fa : ∀ (g j : Nat) (v : Value), g ≠ ab → w4.cell? ⟨g, j, none⟩ = some v → (w4.drew.setCell ⟨ab, k, none⟩ (.pointer (some ⟨w3.heap.size, 0, none⟩))).cell? ⟨g, j, none⟩ = some v := fun g j v hg hv => (World.cell?_setCell_far _ _ _ _ (fun e => hg e.symm)).trans hv
  have mk : (fun wx : World => wx.cell? ⟨hb, 0, none⟩ = some (.slice (some ⟨ab, 0, none⟩) h.length h.length) ∧ wx.cell? ⟨w3.heap.size, 0, none⟩ = some (.int .u8 y.k) ∧ wx.cell? ⟨w3.heap.size, 1, none⟩ = some (.int .u8 y.c) ∧ wx.cell? ⟨w3.heap.size, 2, none⟩ = some (.int .u64 y.a) ∧ wx.cell? ⟨w3.heap.size, 3, none⟩ = some (.int .u64 y.b) ∧ wx.cell? ⟨q2, 0, none⟩ = some (.int .u8 x.k) ∧ wx.cell? ⟨q2, 1, none⟩ = some (.int .u8 x.c) ∧ wx.cell? ⟨q2, 2, none⟩ = some (.int .u64 x.a) ∧ wx.cell? ⟨q2, 3, none⟩ = some (.int .u64 x.b)) (w4.drew.setCell ⟨ab, k, none⟩ (.pointer (some ⟨w3.heap.size, 0, none⟩))) :=
    ⟨fa _ _ _ n1 m1, fa _ _ _ n2 p0, fa _ _ _ n2 p1, fa _ _ _ n2 p2, fa _ _ _ n2 p3, fa _ _ _ n3 r0, fa _ _ _ n3 r1, fa _ _ _ n3 r2, fa _ _ _ n3 r3⟩
  clear fa H4
  clear hw4 B4 t1 hb3 s2 lh2 d0 d1 d2 d3 b1 HL HC HN
  go_wp2_with fail
  rw [← HW4.out]
  go_region_held3 (fun wx => wx.cell? ⟨hb, 0, none⟩ = some (.slice (some ⟨ab, 0, none⟩) h.length h.length) ∧ wx.cell? ⟨w3.heap.size, 0, none⟩ = some (.int .u8 y.k) ∧ wx.cell? ⟨w3.heap.size, 1, none⟩ = some (.int .u8 y.c) ∧ wx.cell? ⟨w3.heap.size, 2, none⟩ = some (.int .u64 y.a) ∧ wx.cell? ⟨w3.heap.size, 3, none⟩ = some (.int .u64 y.b) ∧ wx.cell? ⟨q2, 0, none⟩ = some (.int .u8 x.k) ∧ wx.cell? ⟨q2, 1, none⟩ = some (.int .u8 x.c) ∧ wx.cell? ⟨q2, 2, none⟩ = some (.int .u64 x.a) ∧ wx.cell? ⟨q2, 3, none⟩ = some (.int .u64 x.b)) (first | (go_keep; done) | exact ⟨m1, p0, p1, p2, p3, r0, r1, r2, r3⟩ | exact mk) (first | (go_at_call 96; refine HCas.out.mono ?_; rintro e w' ⟨rfl, rfl⟩) | fail)
  go_wp2_with fail
  obtain ⟨w5, hw5⟩ : ∃ w5, w5 = (w4.setCell ⟨ab, k, none⟩ (.pointer (some ⟨w3.heap.size, 0, none⟩))).drew := ⟨_, rfl⟩
  rw [← hw5]
  have f5 : ∀ g, g ≠ ab → w5.heap[g]? = w4.heap[g]? := fun g hg => by rw [hw5]; exact Below.heap_setCell _ _ _ _ hg
  obtain ⟨cs, r1, r2, _⟩ := HC0.out.r
  have r4 : w4.heap[ab]? = some (.cells cs 138 (0, 0)) := (HBw.out.block _ HC0.out.lt.2).trans r1
  have HR1 : Hid (w.heap[ab]? = some (.cells cs 138 (0, 0))) := r1
  have HR5 : Hid (w5.heap[ab]? = some (.cells (cs.setIfInBounds k (.pointer (some ⟨w3.heap.size, 0, none⟩))) 138 (0, 0))) := by rw [hw5]; exact set_atC r4 _
  have z1 : w.heap.size ≠ ab := ty_ne HS6.out r4 (by decide)
  have z2 : w.heap.size + 1 ≠ ab := ty_ne HS7.out r4 (by decide)
  have HF5 : Hid (Fr (fun g => g ≠ ab) w w5) := by
    refine ⟨?_, fun g hg hl => (f5 g hg).trans (HBw.out.block g hl)⟩
    rw [hw5]
    exact ((HBw.out.mono (Nat.zero_le _)).setCell (p := ⟨ab, k, none⟩) (Nat.zero_le _) _).drew
  have HS6' : Hid (SB w5 w.heap.size c0) := (f5 _ z1).trans HS6.out
  have HS7' : Hid (SB w5 (w.heap.size + 1) c0) := (f5 _ z2).trans HS7.out
  have HN5 : Hid (SB w5 w3.heap.size y) := (f5 _ n2).trans HN4.out
  have HQ5 : Hid (SB w5 q2 x) := (f5 _ n3).trans HQ4.out
  have s5 : w5.heap.size = w4.heap.size := by rw [hw5]; exact World.size_setCell ..
  clear hw5 f5 r1 r2 r4 ef e0 e1 e2 e3 gf g0 g1 g2 g3 p0 p1 p2 p3 mk m1 m2 m3
  rename_i rr0 rr1 rr2 rr3
  obtain ⟨⟨e0, e1, e2, e3⟩, ef⟩ := zero_cells HS6'.out
  obtain ⟨⟨g0, g1, g2, g3⟩, gf⟩ := zero_cells HS7'.out
  obtain ⟨p0, p1, p2, p3⟩ := HN5.out.cell
  obtain ⟨q0, q1, q2', q3⟩ := HQ5.out.cell
  have u1' : w.heap.size < w5.heap.size := by omega
  have u2' : w.heap.size + 1 < w5.heap.size := by omega
  go_region
  go_wp2_with fail
  refine bodyPost_ret (results_cc (x := x) (y := y) (g1 := w.heap.size) (g2 := w.heap.size + 1) rfl rfl rfl rfl ?_ ?_) rfl ?_
  · refine sb_drew ?_
    refine SB.kept ?_ (s4_far (by omega) _ _ _ _)
    exact sb_s4 (y := x) HS6'.out
  · refine sb_drew ?_
    refine sb_s4 (x := c0) (y := y) ?_
    exact SB.kept HS7'.out (s4_far (by omega) _ _ _ _)
  · refine ⟨rfl, ?_⟩
    have F := fr_s8 HF5.out (Nat.le_refl _) (Nat.le_succ _) (.int .u8 x.k) (.int .u8 x.c) (.int .u64 x.a) (.int .u64 x.b) (.int .u8 y.k) (.int .u8 y.c) (.int .u64 y.a) (.int .u64 y.b)
    have A1 := s8_far (w5 := w5) (fun e => z1 e.symm) (fun e => z2 e.symm) (.int .u8 x.k) (.int .u8 x.c) (.int .u64 x.a) (.int .u64 x.b) (.int .u8 y.k) (.int .u8 y.c) (.int .u64 y.a) (.int .u64 y.b)
    have A2 := s8_far (w5 := w5) (fun e => y1 e.symm) (fun e => y2 e.symm) (.int .u8 x.k) (.int .u8 x.c) (.int .u64 x.a) (.int .u64 x.b) (.int .u8 y.k) (.int .u8 y.c) (.int .u64 y.a) (.int .u64 y.b)
    exact ⟨HC0.out.put F hk HR1.out (A1.trans HR5.out) (HN5.out.kept A2) hy, F, us_put HR1.out (A1.trans HR5.out) (by omega)⟩
end Go.Proofs.YtiglmffnhbegiaaDoor

/- exchange, and change: exchange of a cell that must not be free. -/
namespace Go.Proofs.YtiglmffnhbegiaaDoor
open Go.RowKit

def exA (er : Int) (x : Cl) : Cl := if er = 0 then x else c0
theorem set_same {h : List Cl} {k : Nat} {x : Cl} (hx : h[k]? = some x) : h.set k x = h := by
  apply List.ext_getElem?
  intro j
  by_cases e : k = j
  · subst e
    rw [List.getElem?_set_self (List.getElem?_eq_some_iff.1 hx).1, hx]
  · rw [List.getElem?_set_ne e]
theorem exchange_any {hb ab k f : Nat} {caps : Array Value} {h : List Cl} {x y : Cl} {er : Int} {w : World} (H : CH w hb ab h) (hx : h[k]? = some x) (hN : NextOk w f caps x y er) (hy : er = 0 → OkK y) :
    Calls Tryd.prog 72 #[.pointer (some ⟨hb, 0, none⟩), .int .i64 k, .func (.func f) #[] caps] w fun e w' => e = .returned (.tuple #[cV (exA er x), cV (exA er y), .int .i64 er]) ∧ ExR hb ab (if er = 0 then h.set k y else h) w w' := by
  by_cases he : er = 0
  · subst he
    unfold exA
    simp only [if_true]
    by_cases hxy : x = y
    · subst hxy
      refine (exchange_same H hx hN).mono ?_
      rintro e w' ⟨rfl, hb'⟩
      rw [set_same hx]
      exact ⟨rfl, .of H hb'⟩
    · exact exchange_new H hx hN hxy (hy rfl)
  · unfold exA
    simp only [if_neg he]
    refine (exchange_bad H hx hN he).mono ?_
    rintro e w' ⟨rfl, hb'⟩
    exact ⟨rfl, .of H hb'⟩
def chY (x y : Cl) : Cl := if x.k = 0 then c0 else y
def chE (x : Cl) (er : Int) : Int := if x.k = 0 then 31 else er
set_option maxRecDepth 100000 in
set_option maxHeartbeats 8000000 in
theorem change1_any {f bx : Nat} {caps : Array Value} {x y : Cl} {er : Int} {w W : World} (hN : NextOk w f caps x y er) (hB : Below w.heap.size w W) (hbx : W.cell? ⟨bx, 0, none⟩ = some (.func (.func f) #[] caps)) (hl : bx < W.heap.size) :
    Calls Tryd.prog 99 #[cV x, .pointer (some ⟨bx, 0, none⟩)] W fun e W' => e = .returned (.tuple #[cV (chY x y), .int .i64 (chE x er)]) ∧ Below W.heap.size W W' := by
  obtain ⟨w2, hw2⟩ : ∃ w2, w2 = (W.alloc (.cells (cL x) 142)).alloc (.cells (cL c0) 142) := ⟨_, rfl⟩
  have t1 := two_new W (.cells (cL x) 142) (.cells (cL c0) 142)
  rw [← hw2] at t1
  have HB2 : Hid (Below W.heap.size W w2) := hw2 ▸ ((Below.refl _ W).alloc (Nat.le_refl _) _).alloc (by rw [World.size_alloc]; omega) _
  have HX2 : Hid (SB w2 W.heap.size x) := t1.1
  have HR2 : Hid (SB w2 (W.heap.size + 1) c0) := t1.2
  have s2 : w2.heap.size = W.heap.size + 1 + 1 := by rw [hw2, World.size_alloc, World.size_alloc]
  obtain ⟨a0, a1, a2, a3⟩ := HX2.out.cell
  have HF : Hid (Calls Tryd.prog 74 #[cV x] w2 fun e w' => e = .returned (.bool (x.k == 0)) ∧ Below w2.heap.size w2 w') := isFree_any x w2
  unfold cL c0 at hw2
  have HW2 : Hid (w2 = (W.alloc (.cells #[.int .u8 x.k, .int .u8 x.c, .int .u64 x.a, .int .u64 x.b] 142)).alloc (.cells #[.int .u8 0, .int .u8 0, .int .u64 0, .int .u64 0] 142)) := hw2
  have HNx : Hid (NextOk w f caps x y er) := hN
  have HBW : Hid (Below w.heap.size w W) := hB
  clear t1 hw2 hN hB
  by_cases hf : x.k = 0
  · have z1 : (x.k == 0) = true := by simpa using hf
    have E : Hid (chY x y = c0 ∧ chE x er = 31) := ⟨by unfold chY; rw [if_pos hf], by unfold chE; rw [if_pos hf]⟩
    rw [z1] at HF
    rw [E.out.1, E.out.2]
    clear hf z1 E
    go_enter Tryd.func99, Tryd.ntmps99
    go_wp2_with fail
    rw [← HW2.out]
    go_wp2_with fail
    refine Calls.mono HF.out ?_
    rintro e w3 ⟨rfl, hb3⟩
    have HR3 : Hid (SB w3 (W.heap.size + 1) c0) := (hb3.block _ (by omega)).trans HR2.out
    obtain ⟨⟨g0, g1, g2, g3⟩, gf⟩ := zero_cells HR3.out
    have HB3 : Hid (Below W.heap.size W w3) := HB2.out.trans (hb3.mono HB2.out.size)
    have u1 : W.heap.size + 1 < w3.heap.size := by have := hb3.size; omega
    clear hb3
    go_wp2_with fail
    refine bodyPost_ret (results_c1 (x := c0) (g1 := W.heap.size + 1) rfl rfl rfl ?_) rfl ?_
    · exact sb_s4 (x := c0) (y := c0) HR3.out
    · exact ⟨rfl, below_s4 HB3.out (Nat.le_succ _) _ _ _ _⟩
  · have z1 : (x.k == 0) = false := by simpa using hf
    have E : Hid (chY x y = y ∧ chE x er = er) := ⟨by unfold chY; rw [if_neg hf], by unfold chE; rw [if_neg hf]⟩
    rw [z1] at HF
    rw [E.out.1, E.out.2]
    have hen := HNx.out.enter
    clear hf z1 E
    go_enter Tryd.func99, Tryd.ntmps99
    go_wp2_with fail
    rw [← HW2.out]
    go_wp2_with fail
    refine Calls.mono HF.out ?_
    rintro e w3 ⟨rfl, hb3⟩
    have HB3 : Hid (Below W.heap.size W w3) := HB2.out.trans (hb3.mono HB2.out.size)
    have HR3 : Hid (SB w3 (W.heap.size + 1) c0) := (hb3.block _ (by omega)).trans HR2.out
    obtain ⟨b0, b1, b2, b3⟩ := SB.cell (w := w3) (q := W.heap.size) (x := x) ((hb3.block _ (by omega)).trans HX2.out)
    have x3 : w3.cell? ⟨bx, 0, none⟩ = some (.func (.func f) #[] caps) := (HB3.out.cell (p := ⟨bx, 0, none⟩) hl).trans hbx
    have HC : Hid (Calls Tryd.prog f (#[cV x] ++ caps) w3 fun e W' => e = .returned (.tuple #[cV y, .int .i64 er]) ∧ Below w3.heap.size w3 W') := HNx.out.call w3 (HBW.out.trans (HB3.out.mono HBW.out.size))
    have u1 : W.heap.size + 1 < w3.heap.size := by have := hb3.size; omega
    clear hb3 a0 a1 a2 a3 hbx s2
    go_wp2_with fail
    refine Calls.mono HC.out ?_
    rintro e w4 ⟨rfl, hb4⟩
    have HB4 : Hid (Below W.heap.size W w4) := HB3.out.trans (hb4.mono HB3.out.size)
    have HR4 : Hid (SB w4 (W.heap.size + 1) c0) := (hb4.block _ u1).trans HR3.out
    obtain ⟨⟨g0, g1, g2, g3⟩, gf⟩ := zero_cells HR4.out
    clear hb4 b0 b1 b2 b3 x3
    go_wp2_with fail
    refine bodyPost_ret (results_c1 (x := y) (g1 := W.heap.size + 1) rfl rfl rfl ?_) rfl ?_
    · exact sb_s4 (x := c0) (y := y) HR4.out
    · exact ⟨rfl, below_s4 HB4.out (Nat.le_succ _) _ _ _ _⟩
/-- Three blocks that are new. -/
theorem three_new (w : World) (o o' o'' : Obj) : (((w.alloc o).alloc o').alloc o'').heap[w.heap.size]? = some o ∧ (((w.alloc o).alloc o').alloc o'').heap[w.heap.size + 1]? = some o' ∧ (((w.alloc o).alloc o').alloc o'').heap[w.heap.size + 2]? = some o'' := by
  have h1 := heap_alloc_new ((w.alloc o).alloc o') o''
  rw [World.size_alloc, World.size_alloc] at h1
  have h2 := two_new w o o'
  exact ⟨(Below.heap_alloc _ _ _ (by rw [World.size_alloc, World.size_alloc]; omega)).trans h2.1, (Below.heap_alloc _ _ _ (by rw [World.size_alloc, World.size_alloc]; omega)).trans h2.2, h1⟩
theorem s4_size {g : Nat} {w : World} (a b c d : Value) : ((((w.setCell ⟨g, 0, none⟩ a).setCell ⟨g, 1, none⟩ b).setCell ⟨g, 2, none⟩ c).setCell ⟨g, 3, none⟩ d).heap.size = w.heap.size := by simp only [World.size_setCell]
theorem ExR.two {hb ab g1 g2 : Nat} {h L : List Cl} {w w3 w4 : World} (HH : CH w hb ab h) (B3 : Below w.heap.size w w3) (HR : ExR hb ab L w3 w4) (h1 : w.heap.size ≤ g1 ∧ g1 < w3.heap.size) (h2 : w.heap.size ≤ g2 ∧ g2 < w3.heap.size) (a1 a2 a3 a4 b1 b2 b3 b4 : Value) : ExR hb ab L w ((((((((w4.setCell ⟨g1, 0, none⟩ a1).setCell ⟨g1, 1, none⟩ a2).setCell ⟨g1, 2, none⟩ a3).setCell ⟨g1, 3, none⟩ a4).setCell ⟨g2, 0, none⟩ b1).setCell ⟨g2, 1, none⟩ b2).setCell ⟨g2, 2, none⟩ b3).setCell ⟨g2, 3, none⟩ b4) := by
  have l := HH.lt
  have fa : ∀ g, g ≠ g1 → g ≠ g2 → ((((((((w4.setCell ⟨g1, 0, none⟩ a1).setCell ⟨g1, 1, none⟩ a2).setCell ⟨g1, 2, none⟩ a3).setCell ⟨g1, 3, none⟩ a4).setCell ⟨g2, 0, none⟩ b1).setCell ⟨g2, 1, none⟩ b2).setCell ⟨g2, 2, none⟩ b3).setCell ⟨g2, 3, none⟩ b4).heap[g]? = w4.heap[g]? := fun g n1 n2 => (s4_far n2 _ _ _ _).trans (s4_far n1 _ _ _ _)
  have ua : ∀ g, Us w4 ab g → Us w ab g ∨ w3.heap.size ≤ g := fun g hg => by
    rcases HR.2.2 g hg with h | h
    · exact .inl (h.kept (B3.block _ l.2))
    · exact .inr h
  refine ⟨HR.1.us (fa _ (by omega) (by omega)) (fa _ (by omega) (by omega)) (fun g hg => ?_), ⟨?_, fun g hg hl => ?_⟩, fun g hg => ?_⟩
  · rcases ua g hg with h | h
    · have := (HH.used h).1
      exact fa _ (by omega) (by omega)
    · exact fa _ (by omega) (by omega)
  · exact below_s4 (below_s4 ((B3.mono (Nat.zero_le _)).trans HR.2.1.1) (Nat.zero_le _) _ _ _ _) (Nat.zero_le _) _ _ _ _
  · exact (fa _ (by omega) (by omega)).trans ((HR.2.1.2 g hg (Nat.lt_of_lt_of_le hl B3.size)).trans (B3.block g hl))
  · rcases ua g (hg.kept (fa _ (by omega) (by omega))) with h | h
    · exact .inl h
    · exact .inr (Nat.le_trans B3.size h)
set_option maxRecDepth 100000 in
set_option maxHeartbeats 8000000 in
theorem change_any {hb ab k f : Nat} {caps : Array Value} {h : List Cl} {x y : Cl} {er : Int} {w : World} (H : CH w hb ab h) (hx : h[k]? = some x) (hN : NextOk w f caps x y er) (hy : er = 0 → OkK y) :
    Calls Tryd.prog 83 #[.pointer (some ⟨hb, 0, none⟩), .int .i64 k, .func (.func f) #[] caps] w fun e w' => e = .returned (.tuple #[cV (exA (chE x er) x), cV (exA (chE x er) (chY x y)), .int .i64 (chE x er)]) ∧ ExR hb ab (if chE x er = 0 then h.set k (chY x y) else h) w w' := by
  obtain ⟨w3, hw3⟩ : ∃ w3, w3 = ((w.alloc (.cells #[.func (.func f) #[] caps] 150)).alloc (.cells (cL c0) 142)).alloc (.cells (cL c0) 142) := ⟨_, rfl⟩
  have t1 := three_new w (.cells #[.func (.func f) #[] caps] 150) (.cells (cL c0) 142) (.cells (cL c0) 142)
  rw [← hw3] at t1
  have s3 : w3.heap.size = w.heap.size + 1 + 1 + 1 := by rw [hw3, World.size_alloc, World.size_alloc, World.size_alloc]
  have B3 : Below w.heap.size w w3 := hw3 ▸ (((Below.refl _ w).alloc (Nat.le_refl _) _).alloc (by rw [World.size_alloc]; omega) _).alloc (by rw [World.size_alloc, World.size_alloc]; omega) _
  have H3 := H.below B3
  have hcl : NextOk w3 99 #[.pointer (some ⟨w.heap.size, 0, none⟩)] x (chY x y) (chE x er) := by
    refine ⟨fun args W => by simp [go_sem], fun W hW => ?_⟩
    exact change1_any hN (B3.trans (hW.mono (by omega))) ((hW.cell (p := ⟨w.heap.size, 0, none⟩) (by show w.heap.size < _; omega)).trans (heap_cell t1.1 rfl)) (by have := hW.size; omega)
  have hy' : chE x er = 0 → OkK (chY x y) := fun e => by
    unfold chE at e
    unfold chY
    split at e
    · cases e
    · rename_i h0
      rw [if_neg h0]
      exact hy e
  have HC : Hid (Calls Tryd.prog 72 #[.pointer (some ⟨hb, 0, none⟩), .int .i64 k, .func (.func 99) #[] #[.pointer (some ⟨w.heap.size, 0, none⟩)]] w3 fun e w' => e = .returned (.tuple #[cV (exA (chE x er) x), cV (exA (chE x er) (chY x y)), .int .i64 (chE x er)]) ∧ ExR hb ab (if chE x er = 0 then h.set k (chY x y) else h) w3 w') := exchange_any H3 hx hcl hy'
  have HB3 : Hid (Below w.heap.size w w3) := B3
  have HH : Hid (CH w hb ab h) := H
  have HS1 : Hid (SB w3 (w.heap.size + 1) c0) := t1.2.1
  have HS2 : Hid (SB w3 (w.heap.size + 2) c0) := t1.2.2
  generalize hX : exA (chE x er) x = X at HC ⊢
  generalize hY : exA (chE x er) (chY x y) = Y at HC ⊢
  generalize hE : chE x er = E at HC ⊢
  generalize hL : (if E = 0 then h.set k (chY x y) else h) = L at HC ⊢
  have HW3 : Hid (w3 = ((w.alloc (.cells #[.func (.func f) #[] caps] 150)).alloc (.cells #[.int .u8 0, .int .u8 0, .int .u64 0, .int .u64 0] 142)).alloc (.cells #[.int .u8 0, .int .u8 0, .int .u64 0, .int .u64 0] 142)) := hw3
  clear hw3 t1 H3 hcl hy' hN hy H hX hY hE hL B3 hx
  go_enter Tryd.func83, Tryd.ntmps83
  go_wp2_with fail
  rw [← HW3.out]
  refine Calls.mono HC.out ?_
  rintro e w4 ⟨rfl, hR⟩
  have HR : Hid (ExR hb ab L w3 w4) := hR
  have n1 : w.heap.size + 1 ≠ ab := fun e => by have := HH.out.lt; omega
  have n2 : w.heap.size + 2 ≠ ab := fun e => by have := HH.out.lt; omega
  have HS1' : Hid (SB w4 (w.heap.size + 1) c0) := (hR.2.1.2 _ n1 (by omega)).trans HS1.out
  have HS2' : Hid (SB w4 (w.heap.size + 2) c0) := (hR.2.1.2 _ n2 (by omega)).trans HS2.out
  have u0 : w3.heap.size ≤ w4.heap.size := hR.2.1.1.size
  obtain ⟨⟨e0, e1, e2, e3⟩, ef⟩ := zero_cells HS1'.out
  obtain ⟨⟨g0, g1, g2, g3⟩, gf⟩ := zero_cells HS2'.out
  have u1 : w.heap.size + 1 < w4.heap.size := by omega
  have u2 : w.heap.size + 2 < w4.heap.size := by omega
  have u3 : w.heap.size + 1 ≠ w.heap.size + 2 := by omega
  clear hR
  go_wp2_with fail
  refine bodyPost_ret (results_cc (x := X) (y := Y) (g1 := w.heap.size + 1) (g2 := w.heap.size + 1 + 1) rfl rfl rfl rfl ?_ ?_) rfl ?_
  · refine SB.kept ?_ (s4_far (by omega) _ _ _ _)
    exact sb_s4 (y := X) HS1'.out
  · refine sb_s4 (x := c0) (y := Y) ?_
    exact SB.kept HS2'.out (s4_far (by omega) _ _ _ _)
  · exact ⟨rfl, ExR.two HH.out HB3.out HR.out (by omega) (by omega) _ _ _ _ _ _ _ _⟩
end Go.Proofs.YtiglmffnhbegiaaDoor
