/- exchange: what a function makes of a cell is laid in its place. -/
import Derived.Test.YtjbfpklbgefacaaHMSmall
import Derived.Deep.RegionHeld3
import Derived.RegionCalls
namespace Go.Proofs.Ytjbfpklbgefacaa
open Go.RowKit

/-- What a function that is handed in tells of a state. -/
structure NextOk (w : World) (f : Nat) (caps : Array Value) (x y : Cl) (er : Int) : Prop where
  enter : ∀ (args : Array Value) (W : World), (callFunc f args).run Try.prog W = .ok (.enter f args) W
  call : ∀ W, Below w.heap.size w W → Calls Try.prog f (#[cV x] ++ caps) W fun e W' => e = .returned (.tuple #[cV y, .int .i64 er]) ∧ Below W.heap.size W W'
/-- What an exchange leaves. -/
def ExR (hb ab : Nat) (h : List Cl) (w w' : World) : Prop := CH w' hb ab h ∧ Fr (fun g => g ≠ ab) w w' ∧ ∀ g, Us w' ab g → Us w ab g ∨ w.heap.size ≤ g
theorem fr_exo {ab : Nat} {w w' : World} (h : Below w.heap.size w w') : Fr (fun g => g ≠ ab) w w' := ⟨h.mono (Nat.zero_le _), fun g _ hl => h.block g hl⟩
/-- A cell is exchanged, whatever else was made. -/
theorem CH.put {w W : World} {hb ab k q : Nat} {h : List Cl} {y : Cl} {cs : Array Value} (H : CH w hb ab h) (hF : Fr (fun g => g ≠ ab) w W) (hk : k < h.length) (h0 : w.heap[ab]? = some (.cells cs 80 (0, 0)))
    (h1 : W.heap[ab]? = some (.cells (cs.setIfInBounds k (.pointer (some ⟨q, 0, none⟩))) 80 (0, 0))) (hq : SB W q y) (hy : OkK y) : CH W hb ab (h.set k y) := by
  obtain ⟨cs', r1, r2, r3⟩ := H.r
  rw [h0] at r1
  cases r1
  have nq : ∀ g z, SB w g z → g ≠ ab := fun g z hz => ty_ne (show w.heap[g]? = _ from hz) h0 (by decide)
  refine ⟨?_, ⟨_, h1, by simp [r2], fun j x hx => ?_⟩, fun x hx => ?_, by simpa using H.len⟩
  · rw [hF.2 _ H.ne H.lt.1]; simpa using H.v
  · by_cases e : k = j
    · subst e
      rw [List.getElem?_set_self hk] at hx
      cases hx
      exact ⟨q, by simp [r2, hk], hq⟩
    · rw [List.getElem?_set_ne e] at hx
      obtain ⟨p, s1, s2⟩ := r3 j x hx
      exact ⟨p, by rw [Array.getElem?_setIfInBounds_ne e]; exact s1, s2.kept (hF.2 _ (nq _ _ s2) s2.lt)⟩
  · rcases List.mem_or_eq_of_mem_set hx with h1 | h1
    · exact H.ok x h1
    · exact h1 ▸ hy
theorem ExR.of {hb ab : Nat} {h : List Cl} {w w' : World} (H : CH w hb ab h) (hB : Below w.heap.size w w') : ExR hb ab h w w' := ⟨H.below hB, fr_exo hB, fun _ hg => .inl (hg.kept (hB.block _ H.lt.2))⟩
theorem ExR.trans {hb ab : Nat} {h h' : List Cl} {w w' w'' : World} (a : ExR hb ab h w w') (b : ExR hb ab h' w' w'') : ExR hb ab h' w w'' :=
  ⟨b.1, a.2.1.trans b.2.1, fun g hg => by
    rcases b.2.2 g hg with h1 | h1
    · exact a.2.2 g h1
    · exact .inr (Nat.le_trans a.2.1.1.size h1)⟩
theorem us_put {w W : World} {ab k q : Nat} {cs : Array Value} (h0 : w.heap[ab]? = some (.cells cs 80 (0, 0)))
    (h1 : W.heap[ab]? = some (.cells (cs.setIfInBounds k (.pointer (some ⟨q, 0, none⟩))) 80 (0, 0))) (hq : w.heap.size ≤ q) : ∀ g, Us W ab g → Us w ab g ∨ w.heap.size ≤ g := fun g hg => by
  obtain ⟨cs', j, a1, a2⟩ := hg
  rw [h1] at a1
  cases a1
  rw [Array.getElem?_setIfInBounds] at a2
  split at a2
  · split at a2
    · cases a2; exact .inr hq
    · cases a2
  · exact .inl ⟨cs, j, h0, a2⟩
theorem fr_set {ab k : Nat} {w w' : World} {v : Value} (h : Below w.heap.size w w') : Fr (fun g => g ≠ ab) w (w'.setCell ⟨ab, k, none⟩ v) :=
  ⟨(h.mono (Nat.zero_le _)).setCell (p := ⟨ab, k, none⟩) (Nat.zero_le _) _, fun g hg hl => (Below.heap_setCell _ _ _ _ hg).trans (h.block g hl)⟩
theorem below_dr {n : Nat} {w w' : World} (h : Below n w w') : Below n w w'.drew := h.drew
theorem below_s4 {n g : Nat} {w w' : World} (h : Below n w w') (hg : n ≤ g) (a b c d : Value) : Below n w ((((w'.setCell ⟨g, 0, none⟩ a).setCell ⟨g, 1, none⟩ b).setCell ⟨g, 2, none⟩ c).setCell ⟨g, 3, none⟩ d) :=
  (((h.setCell (p := ⟨g, 0, none⟩) hg _).setCell (p := ⟨g, 1, none⟩) hg _).setCell (p := ⟨g, 2, none⟩) hg _).setCell (p := ⟨g, 3, none⟩) hg _
theorem s4_far {g k : Nat} {w : World} (h : k ≠ g) (a b c d : Value) : ((((w.setCell ⟨g, 0, none⟩ a).setCell ⟨g, 1, none⟩ b).setCell ⟨g, 2, none⟩ c).setCell ⟨g, 3, none⟩ d).heap[k]? = w.heap[k]? :=
  (Below.heap_setCell _ _ _ _ h).trans ((Below.heap_setCell _ _ _ _ h).trans ((Below.heap_setCell _ _ _ _ h).trans (Below.heap_setCell _ _ _ _ h)))
theorem sb_s4 {g : Nat} {w : World} {x y : Cl} (h : SB w g x) : SB ((((w.setCell ⟨g, 0, none⟩ (.int .u8 y.k)).setCell ⟨g, 1, none⟩ (.int .u8 y.c)).setCell ⟨g, 2, none⟩ (.int .u64 y.a)).setCell ⟨g, 3, none⟩ (.int .u64 y.b)) g y :=
  (set_atC (set_atC (set_atC (set_atC h _) _) _) _).trans rfl
theorem sb_new (w : World) (x : Cl) : SB (w.alloc (.cells (cL x) 84)) w.heap.size x := heap_alloc_new w _
theorem sb_old {w : World} {g : Nat} {x : Cl} (h : SB w g x) (o : Obj) : SB (w.alloc o) g x := (Below.heap_alloc _ _ _ h.lt).trans h
theorem results_cc {fn : Func} {tmps : Array Value} {s t u g1 g2 : Nat} {x y : Cl} {v : Value} {W : World} (hres : fn.results = #[.cell s 84, .cell t 84, .tmp u])
    (h1 : tmps[s]? = some (.pointer (some ⟨g1, 0, none⟩))) (h2 : tmps[t]? = some (.pointer (some ⟨g2, 0, none⟩))) (h3 : tmps[u]? = some v) (k1 : SB W g1 x) (k2 : SB W g2 y) : (results fn tmps).run Try.prog W = .ok (.tuple #[cV x, cV y, v]) W := by
  obtain ⟨a0, a1, a2, a3⟩ := k1.cell
  obtain ⟨b0, b1, b2, b3⟩ := k2.cell
  obtain ⟨l1, e1⟩ := Array.getElem?_eq_some_iff.1 h1
  obtain ⟨l2, e2⟩ := Array.getElem?_eq_some_iff.1 h2
  obtain ⟨l3, e3⟩ := Array.getElem?_eq_some_iff.1 h3
  simp [results, hres, go_sem, l1, e1, l2, e2, l3, e3, a0, a1, a2, a3, b0, b1, b2, b3]
theorem results_c1 {fn : Func} {tmps : Array Value} {s u g1 : Nat} {x : Cl} {v : Value} {W : World} (hres : fn.results = #[.cell s 84, .tmp u])
    (h1 : tmps[s]? = some (.pointer (some ⟨g1, 0, none⟩))) (h3 : tmps[u]? = some v) (k1 : SB W g1 x) : (results fn tmps).run Try.prog W = .ok (.tuple #[cV x, v]) W := by
  obtain ⟨a0, a1, a2, a3⟩ := k1.cell
  obtain ⟨l1, e1⟩ := Array.getElem?_eq_some_iff.1 h1
  obtain ⟨l3, e3⟩ := Array.getElem?_eq_some_iff.1 h3
  simp [results, hres, go_sem, l1, e1, l3, e3, a0, a1, a2, a3]
theorem below_drewN {n : Nat} {w0 w : World} (h : Below n w0 w) (k : Nat) : Below n w0 (w.drewN k) := by
  induction k generalizing w with
  | zero => exact h
  | succ k ih => exact (ih h).drew
theorem sb_drewN {w : World} {g : Nat} {x : Cl} (h : SB w g x) (k : Nat) : SB (w.drewN k) g x := ((below_drewN (Below.refl w.heap.size w) k).block g h.lt).trans h
theorem heap_drw (w : World) : w.drew.heap = w.heap := rfl
theorem s8_far {g1 g2 k : Nat} {w5 : World} (h1 : k ≠ g1) (h2 : k ≠ g2) (a1 a2 a3 a4 b1 b2 b3 b4 : Value) : (((((((((w5.setCell ⟨g1, 0, none⟩ a1).setCell ⟨g1, 1, none⟩ a2).setCell ⟨g1, 2, none⟩ a3).setCell ⟨g1, 3, none⟩ a4).setCell ⟨g2, 0, none⟩ b1).setCell ⟨g2, 1, none⟩ b2).setCell ⟨g2, 2, none⟩ b3).setCell ⟨g2, 3, none⟩ b4).drew).heap[k]? = w5.heap[k]? := by
  rw [heap_drw]
  exact (s4_far h2 _ _ _ _).trans (s4_far h1 _ _ _ _)
theorem fr_s8 {A : Nat → Prop} {g1 g2 : Nat} {w w5 : World} (h : Fr A w w5) (h1 : w.heap.size ≤ g1) (h2 : w.heap.size ≤ g2) (a1 a2 a3 a4 b1 b2 b3 b4 : Value) : Fr A w (((((((((w5.setCell ⟨g1, 0, none⟩ a1).setCell ⟨g1, 1, none⟩ a2).setCell ⟨g1, 2, none⟩ a3).setCell ⟨g1, 3, none⟩ a4).setCell ⟨g2, 0, none⟩ b1).setCell ⟨g2, 1, none⟩ b2).setCell ⟨g2, 2, none⟩ b3).setCell ⟨g2, 3, none⟩ b4).drew) :=
  ⟨(below_s4 (below_s4 h.1 (Nat.zero_le _) _ _ _ _) (Nat.zero_le _) _ _ _ _).drew, fun g hg hl => (s8_far (by omega) (by omega) _ _ _ _ _ _ _ _).trans (h.2 g hg hl)⟩
theorem sb_drew {w : World} {g : Nat} {x : Cl} (h : SB w g x) : SB w.drew g x := h
theorem two_new (w : World) (o o' : Obj) : ((w.alloc o).alloc o').heap[w.heap.size]? = some o ∧ ((w.alloc o).alloc o').heap[w.heap.size + 1]? = some o' := by
  have h1 := heap_alloc_new (w.alloc o) o'
  rw [World.size_alloc] at h1
  exact ⟨(Below.heap_alloc _ _ _ (by rw [World.size_alloc]; omega)).trans (heap_alloc_new w o), h1⟩
theorem zero_cells {w : World} {g : Nat} (h : SB w g c0) : (w.cell? ⟨g, 0, none⟩ = some (.int .u8 0) ∧ w.cell? ⟨g, 1, none⟩ = some (.int .u8 0) ∧ w.cell? ⟨g, 2, none⟩ = some (.int .u64 0) ∧ w.cell? ⟨g, 3, none⟩ = some (.int .u64 0)) ∧ ∀ j, w.frozen? ⟨g, j, none⟩ = false :=
  ⟨h.cell, fun j => by simp [World.frozen?, show w.heap[g]? = _ from h]⟩
set_option maxRecDepth 100000 in
set_option maxHeartbeats 8000000 in
theorem exchange_bad {hb ab k f : Nat} {caps : Array Value} {h : List Cl} {x y : Cl} {er : Int} {w : World} (H : CH w hb ab h) (hx : h[k]? = some x) (hN : NextOk w f caps x y er) (he : er ≠ 0) :
    Calls Try.prog 33 #[.pointer (some ⟨hb, 0, none⟩), .int .i64 k, .func (.func f) #[] caps] w fun e w' => e = .returned (.tuple #[cV c0, cV c0, .int .i64 er]) ∧ Below w.heap.size w w' := by
  have hk : k < h.length := (List.getElem?_eq_some_iff.1 hx).1
  obtain ⟨a1, a2, q, a3, a4⟩ := H.at hx
  have l1 := H.lt
  have lq := a4.lt
  have i1 : (k : Int) < (h.length : Int) := by omega
  have HN : Hid (NextOk w f caps x y er) := hN
  have z1 : (er != 0) = true := by simpa using he
  obtain ⟨w2, hw2⟩ : ∃ w2, w2 = (w.alloc (.cells (cL c0) 84)).alloc (.cells (cL c0) 84) := ⟨_, rfl⟩
  have HB2 : Hid (Below w.heap.size w w2) := hw2 ▸ ((Below.refl _ w).alloc (Nat.le_refl _) _).alloc (by rw [World.size_alloc]; omega) _
  have H2 := H.below HB2.out
  obtain ⟨b1, b2, q2, b3, b4⟩ := H2.at hx
  have eq : q2 = q := by
    have := (HB2.out.cell (p := ⟨ab, k, none⟩) l1.2).trans a3
    rw [b3] at this
    cases this
    rfl
  subst eq
  have HL : Hid (Calls Try.prog 29 #[.pointer (some ⟨ab, k, none⟩)] w2 fun e w' => e = .returned (.pointer (some ⟨q2, 0, none⟩)) ∧ w' = w2) := pload_any b3 b4
  obtain ⟨d0, d1, d2, d3⟩ := b4.cell
  have s2 : w2.heap.size = w.heap.size + 1 + 1 := by rw [hw2, World.size_alloc, World.size_alloc]
  have hen := HN.out.enter
  have HC : Hid (Calls Try.prog f (#[cV x] ++ caps) w2 fun e W' => e = .returned (.tuple #[cV y, .int .i64 er]) ∧ Below w2.heap.size w2 W') := HN.out.call w2 HB2.out
  have lq2 := b4.lt
  have lh2 := H2.lt
  clear H H2 hN a1 a2 a3 a4 b2 b3 b4 hx l1 lq
  go_enter Try.func33, Try.ntmps33
  go_wp2_with fail
  refine wp_loop_rounds 1 ?_
  rw [rounds_succ]
  unfold cL c0 at hw2
  rw [← hw2]
  have HW2 : Hid (w2 = (w.alloc (.cells (cL c0) 84)).alloc (.cells (cL c0) 84)) := hw2
  clear hw2
  go_wp2_with fail
  refine Calls.mono HL.out ?_
  rintro e w' ⟨rfl, hw'⟩
  rw [hw']
  clear hw'
  go_wp2_with fail
  refine Calls.mono HC.out ?_
  rintro e w3 ⟨rfl, hb3⟩
  have HB3 : Hid (Below w2.heap.size w2 w3) := hb3
  have t1 := two_new w (.cells (cL c0) 84) (.cells (cL c0) 84)
  rw [← HW2.out] at t1
  obtain ⟨⟨e0, e1, e2, e3⟩, ef⟩ := zero_cells (w := w3) (g := w.heap.size) ((hb3.block _ (by omega)).trans t1.1)
  obtain ⟨⟨g0, g1, g2, g3⟩, gf⟩ := zero_cells (w := w3) (g := w.heap.size + 1) ((hb3.block _ (by omega)).trans t1.2)
  have s3 : w.heap.size + 1 + 1 ≤ w3.heap.size := by have := hb3.size; omega
  have u1 : w.heap.size < w3.heap.size := by omega
  have u2 : w.heap.size + 1 < w3.heap.size := by omega
  have u3 : w.heap.size ≠ w3.heap.size := by omega
  have u4 : w.heap.size + 1 ≠ w3.heap.size := by omega
  have HS6 : Hid (SB w3 w.heap.size c0) := (hb3.block _ (by omega)).trans t1.1
  have HS7 : Hid (SB w3 (w.heap.size + 1) c0) := (hb3.block _ (by omega)).trans t1.2
  clear t1 hb3 s2 lq2 lh2 d0 d1 d2 d3 b1 HL HC HN
  have B3 : Below w.heap.size w w3 := HB2.out.trans (HB3.out.mono HB2.out.size)
  have HB : Hid (Below w.heap.size w w3) := B3
  clear B3
  go_wp2_with fail
  refine bodyPost_ret (results_cc (x := c0) (y := c0) (g1 := w.heap.size) (g2 := w.heap.size + 1) rfl rfl rfl rfl ?_ ?_) rfl ?_
  · refine sb_old ?_ _
    refine SB.kept ?_ (s4_far (by omega) _ _ _ _)
    exact sb_s4 (y := c0) HS6.out
  · refine sb_old ?_ _
    refine sb_s4 (x := c0) (y := c0) ?_
    exact SB.kept HS7.out (s4_far (by omega) _ _ _ _)
  · refine ⟨rfl, ?_⟩
    refine Below.alloc ?_ (by simp only [World.size_setCell]; exact HB.out.size) _
    refine below_s4 ?_ (Nat.le_succ _) _ _ _ _
    exact below_s4 HB.out (Nat.le_refl _) _ _ _ _
end Go.Proofs.Ytjbfpklbgefacaa
