/- exchange, and change: exchange of a cell that must not be free. -/
import Derived.Test.YtjbfpklbgefacaaHMExchN
namespace Go.Proofs.Ytjbfpklbgefacaa
open Go.RowKit

def exA (er : Int) (x : Cl) : Cl := if er = 0 then x else c0
theorem set_same {h : List Cl} {k : Nat} {x : Cl} (hx : h[k]? = some x) : h.set k x = h := by
  apply List.ext_getElem?
  intro j
  by_cases e : k = j
  · subst e
    rw [List.getElem?_set_self (List.getElem?_eq_some_iff.1 hx).1, hx]
  · rw [List.getElem?_set_ne e]
theorem exchange_any {hb ab k f : Nat} {caps : Array Value} {h : List Cl} {x y : Cl} {er : Int} {w : World} (H : CH w hb ab h) (hx : h[k]? = some x) (hN : NextOk w f caps x y er) (hy : er = 0 → OkK y) :
    Calls Try.prog 33 #[.pointer (some ⟨hb, 0, none⟩), .int .i64 k, .func (.func f) #[] caps] w fun e w' => e = .returned (.tuple #[cV (exA er x), cV (exA er y), .int .i64 er]) ∧ ExR hb ab (if er = 0 then h.set k y else h) w w' := by
  by_cases he : er = 0
  · subst he
    unfold exA
    simp only [if_true]
    by_cases hxy : x = y
    · subst hxy
      refine (exchange_same H hx hN).mono ?_
      rintro e w' ⟨rfl, hb'⟩
      rw [set_same hx]
      exact ⟨rfl, .of H hb'⟩
    · exact exchange_new H hx hN hxy (hy rfl)
  · unfold exA
    simp only [if_neg he]
    refine (exchange_bad H hx hN he).mono ?_
    rintro e w' ⟨rfl, hb'⟩
    exact ⟨rfl, .of H hb'⟩
def chY (x y : Cl) : Cl := if x.k = 0 then c0 else y
def chE (x : Cl) (er : Int) : Int := if x.k = 0 then 31 else er
set_option maxRecDepth 100000 in
set_option maxHeartbeats 8000000 in
theorem change1_any {f bx : Nat} {caps : Array Value} {x y : Cl} {er : Int} {w W : World} (hN : NextOk w f caps x y er) (hB : Below w.heap.size w W) (hbx : W.cell? ⟨bx, 0, none⟩ = some (.func (.func f) #[] caps)) (hl : bx < W.heap.size) :
    Calls Try.prog 43 #[cV x, .pointer (some ⟨bx, 0, none⟩)] W fun e W' => e = .returned (.tuple #[cV (chY x y), .int .i64 (chE x er)]) ∧ Below W.heap.size W W' := by
  obtain ⟨w2, hw2⟩ : ∃ w2, w2 = (W.alloc (.cells (cL x) 84)).alloc (.cells (cL c0) 84) := ⟨_, rfl⟩
  have t1 := two_new W (.cells (cL x) 84) (.cells (cL c0) 84)
  rw [← hw2] at t1
  have HB2 : Hid (Below W.heap.size W w2) := hw2 ▸ ((Below.refl _ W).alloc (Nat.le_refl _) _).alloc (by rw [World.size_alloc]; omega) _
  have HX2 : Hid (SB w2 W.heap.size x) := t1.1
  have HR2 : Hid (SB w2 (W.heap.size + 1) c0) := t1.2
  have s2 : w2.heap.size = W.heap.size + 1 + 1 := by rw [hw2, World.size_alloc, World.size_alloc]
  obtain ⟨a0, a1, a2, a3⟩ := HX2.out.cell
  have HF : Hid (Calls Try.prog 35 #[cV x] w2 fun e w' => e = .returned (.bool (x.k == 0)) ∧ Below w2.heap.size w2 w') := isFree_any x w2
  unfold cL c0 at hw2
  have HW2 : Hid (w2 = (W.alloc (.cells #[.int .u8 x.k, .int .u8 x.c, .int .u64 x.a, .int .u64 x.b] 84)).alloc (.cells #[.int .u8 0, .int .u8 0, .int .u64 0, .int .u64 0] 84)) := hw2
  have HNx : Hid (NextOk w f caps x y er) := hN
  have HBW : Hid (Below w.heap.size w W) := hB
  clear t1 hw2 hN hB
  by_cases hf : x.k = 0
  · have z1 : (x.k == 0) = true := by simpa using hf
    have E : Hid (chY x y = c0 ∧ chE x er = 31) := ⟨by unfold chY; rw [if_pos hf], by unfold chE; rw [if_pos hf]⟩
    rw [z1] at HF
    rw [E.out.1, E.out.2]
    clear hf z1 E
    go_enter Try.func43, Try.ntmps43
    go_wp2_with fail
    rw [← HW2.out]
    go_wp2_with fail
    refine Calls.mono HF.out ?_
    rintro e w3 ⟨rfl, hb3⟩
    have HR3 : Hid (SB w3 (W.heap.size + 1) c0) := (hb3.block _ (by omega)).trans HR2.out
    obtain ⟨⟨g0, g1, g2, g3⟩, gf⟩ := zero_cells HR3.out
    have HB3 : Hid (Below W.heap.size W w3) := HB2.out.trans (hb3.mono HB2.out.size)
    have u1 : W.heap.size + 1 < w3.heap.size := by have := hb3.size; omega
    clear hb3
    go_wp2_with fail
    refine bodyPost_ret (results_c1 (x := c0) (g1 := W.heap.size + 1) rfl rfl rfl ?_) rfl ?_
    · exact sb_s4 (x := c0) (y := c0) HR3.out
    · exact ⟨rfl, below_s4 HB3.out (Nat.le_succ _) _ _ _ _⟩
  · have z1 : (x.k == 0) = false := by simpa using hf
    have E : Hid (chY x y = y ∧ chE x er = er) := ⟨by unfold chY; rw [if_neg hf], by unfold chE; rw [if_neg hf]⟩
    rw [z1] at HF
    rw [E.out.1, E.out.2]
    have hen := HNx.out.enter
    clear hf z1 E
    go_enter Try.func43, Try.ntmps43
    go_wp2_with fail
    rw [← HW2.out]
    go_wp2_with fail
    refine Calls.mono HF.out ?_
    rintro e w3 ⟨rfl, hb3⟩
    have HB3 : Hid (Below W.heap.size W w3) := HB2.out.trans (hb3.mono HB2.out.size)
    have HR3 : Hid (SB w3 (W.heap.size + 1) c0) := (hb3.block _ (by omega)).trans HR2.out
    obtain ⟨b0, b1, b2, b3⟩ := SB.cell (w := w3) (q := W.heap.size) (x := x) ((hb3.block _ (by omega)).trans HX2.out)
    have x3 : w3.cell? ⟨bx, 0, none⟩ = some (.func (.func f) #[] caps) := (HB3.out.cell (p := ⟨bx, 0, none⟩) hl).trans hbx
    have HC : Hid (Calls Try.prog f (#[cV x] ++ caps) w3 fun e W' => e = .returned (.tuple #[cV y, .int .i64 er]) ∧ Below w3.heap.size w3 W') := HNx.out.call w3 (HBW.out.trans (HB3.out.mono HBW.out.size))
    have u1 : W.heap.size + 1 < w3.heap.size := by have := hb3.size; omega
    clear hb3 a0 a1 a2 a3 hbx s2
    go_wp2_with fail
    refine Calls.mono HC.out ?_
    rintro e w4 ⟨rfl, hb4⟩
    have HB4 : Hid (Below W.heap.size W w4) := HB3.out.trans (hb4.mono HB3.out.size)
    have HR4 : Hid (SB w4 (W.heap.size + 1) c0) := (hb4.block _ u1).trans HR3.out
    obtain ⟨⟨g0, g1, g2, g3⟩, gf⟩ := zero_cells HR4.out
    clear hb4 b0 b1 b2 b3 x3
    go_wp2_with fail
    refine bodyPost_ret (results_c1 (x := y) (g1 := W.heap.size + 1) rfl rfl rfl ?_) rfl ?_
    · exact sb_s4 (x := c0) (y := y) HR4.out
    · exact ⟨rfl, below_s4 HB4.out (Nat.le_succ _) _ _ _ _⟩
/-- Three blocks that are new. -/
theorem three_new (w : World) (o o' o'' : Obj) : (((w.alloc o).alloc o').alloc o'').heap[w.heap.size]? = some o ∧ (((w.alloc o).alloc o').alloc o'').heap[w.heap.size + 1]? = some o' ∧ (((w.alloc o).alloc o').alloc o'').heap[w.heap.size + 2]? = some o'' := by
  have h1 := heap_alloc_new ((w.alloc o).alloc o') o''
  rw [World.size_alloc, World.size_alloc] at h1
  have h2 := two_new w o o'
  exact ⟨(Below.heap_alloc _ _ _ (by rw [World.size_alloc, World.size_alloc]; omega)).trans h2.1, (Below.heap_alloc _ _ _ (by rw [World.size_alloc, World.size_alloc]; omega)).trans h2.2, h1⟩
theorem s4_size {g : Nat} {w : World} (a b c d : Value) : ((((w.setCell ⟨g, 0, none⟩ a).setCell ⟨g, 1, none⟩ b).setCell ⟨g, 2, none⟩ c).setCell ⟨g, 3, none⟩ d).heap.size = w.heap.size := by simp only [World.size_setCell]
theorem ExR.two {hb ab g1 g2 : Nat} {h L : List Cl} {w w3 w4 : World} (HH : CH w hb ab h) (B3 : Below w.heap.size w w3) (HR : ExR hb ab L w3 w4) (h1 : w.heap.size ≤ g1 ∧ g1 < w3.heap.size) (h2 : w.heap.size ≤ g2 ∧ g2 < w3.heap.size) (a1 a2 a3 a4 b1 b2 b3 b4 : Value) : ExR hb ab L w ((((((((w4.setCell ⟨g1, 0, none⟩ a1).setCell ⟨g1, 1, none⟩ a2).setCell ⟨g1, 2, none⟩ a3).setCell ⟨g1, 3, none⟩ a4).setCell ⟨g2, 0, none⟩ b1).setCell ⟨g2, 1, none⟩ b2).setCell ⟨g2, 2, none⟩ b3).setCell ⟨g2, 3, none⟩ b4) := by
  have l := HH.lt
  have fa : ∀ g, g ≠ g1 → g ≠ g2 → ((((((((w4.setCell ⟨g1, 0, none⟩ a1).setCell ⟨g1, 1, none⟩ a2).setCell ⟨g1, 2, none⟩ a3).setCell ⟨g1, 3, none⟩ a4).setCell ⟨g2, 0, none⟩ b1).setCell ⟨g2, 1, none⟩ b2).setCell ⟨g2, 2, none⟩ b3).setCell ⟨g2, 3, none⟩ b4).heap[g]? = w4.heap[g]? := fun g n1 n2 => (s4_far n2 _ _ _ _).trans (s4_far n1 _ _ _ _)
  have ua : ∀ g, Us w4 ab g → Us w ab g ∨ w3.heap.size ≤ g := fun g hg => by
    rcases HR.2.2 g hg with h | h
    · exact .inl (h.kept (B3.block _ l.2))
    · exact .inr h
  refine ⟨HR.1.us (fa _ (by omega) (by omega)) (fa _ (by omega) (by omega)) (fun g hg => ?_), ⟨?_, fun g hg hl => ?_⟩, fun g hg => ?_⟩
  · rcases ua g hg with h | h
    · have := (HH.used h).1
      exact fa _ (by omega) (by omega)
    · exact fa _ (by omega) (by omega)
  · exact below_s4 (below_s4 ((B3.mono (Nat.zero_le _)).trans HR.2.1.1) (Nat.zero_le _) _ _ _ _) (Nat.zero_le _) _ _ _ _
  · exact (fa _ (by omega) (by omega)).trans ((HR.2.1.2 g hg (Nat.lt_of_lt_of_le hl B3.size)).trans (B3.block g hl))
  · rcases ua g (hg.kept (fa _ (by omega) (by omega))) with h | h
    · exact .inl h
    · exact .inr (Nat.le_trans B3.size h)
set_option maxRecDepth 100000 in
set_option maxHeartbeats 8000000 in
theorem change_any {hb ab k f : Nat} {caps : Array Value} {h : List Cl} {x y : Cl} {er : Int} {w : World} (H : CH w hb ab h) (hx : h[k]? = some x) (hN : NextOk w f caps x y er) (hy : er = 0 → OkK y) :
    Calls Try.prog 37 #[.pointer (some ⟨hb, 0, none⟩), .int .i64 k, .func (.func f) #[] caps] w fun e w' => e = .returned (.tuple #[cV (exA (chE x er) x), cV (exA (chE x er) (chY x y)), .int .i64 (chE x er)]) ∧ ExR hb ab (if chE x er = 0 then h.set k (chY x y) else h) w w' := by
  obtain ⟨w3, hw3⟩ : ∃ w3, w3 = ((w.alloc (.cells #[.func (.func f) #[] caps] 89)).alloc (.cells (cL c0) 84)).alloc (.cells (cL c0) 84) := ⟨_, rfl⟩
  have t1 := three_new w (.cells #[.func (.func f) #[] caps] 89) (.cells (cL c0) 84) (.cells (cL c0) 84)
  rw [← hw3] at t1
  have s3 : w3.heap.size = w.heap.size + 1 + 1 + 1 := by rw [hw3, World.size_alloc, World.size_alloc, World.size_alloc]
  have B3 : Below w.heap.size w w3 := hw3 ▸ (((Below.refl _ w).alloc (Nat.le_refl _) _).alloc (by rw [World.size_alloc]; omega) _).alloc (by rw [World.size_alloc, World.size_alloc]; omega) _
  have H3 := H.below B3
  have hcl : NextOk w3 43 #[.pointer (some ⟨w.heap.size, 0, none⟩)] x (chY x y) (chE x er) := by
    refine ⟨fun args W => by simp [go_sem], fun W hW => ?_⟩
    exact change1_any hN (B3.trans (hW.mono (by omega))) ((hW.cell (p := ⟨w.heap.size, 0, none⟩) (by show w.heap.size < _; omega)).trans (heap_cell t1.1 rfl)) (by have := hW.size; omega)
  have hy' : chE x er = 0 → OkK (chY x y) := fun e => by
    unfold chE at e
    unfold chY
    split at e
    · cases e
    · rename_i h0
      rw [if_neg h0]
      exact hy e
  have HC : Hid (Calls Try.prog 33 #[.pointer (some ⟨hb, 0, none⟩), .int .i64 k, .func (.func 43) #[] #[.pointer (some ⟨w.heap.size, 0, none⟩)]] w3 fun e w' => e = .returned (.tuple #[cV (exA (chE x er) x), cV (exA (chE x er) (chY x y)), .int .i64 (chE x er)]) ∧ ExR hb ab (if chE x er = 0 then h.set k (chY x y) else h) w3 w') := exchange_any H3 hx hcl hy'
  have HB3 : Hid (Below w.heap.size w w3) := B3
  have HH : Hid (CH w hb ab h) := H
  have HS1 : Hid (SB w3 (w.heap.size + 1) c0) := t1.2.1
  have HS2 : Hid (SB w3 (w.heap.size + 2) c0) := t1.2.2
  generalize hX : exA (chE x er) x = X at HC ⊢
  generalize hY : exA (chE x er) (chY x y) = Y at HC ⊢
  generalize hE : chE x er = E at HC ⊢
  generalize hL : (if E = 0 then h.set k (chY x y) else h) = L at HC ⊢
  have HW3 : Hid (w3 = ((w.alloc (.cells #[.func (.func f) #[] caps] 89)).alloc (.cells #[.int .u8 0, .int .u8 0, .int .u64 0, .int .u64 0] 84)).alloc (.cells #[.int .u8 0, .int .u8 0, .int .u64 0, .int .u64 0] 84)) := hw3
  clear hw3 t1 H3 hcl hy' hN hy H hX hY hE hL B3 hx
  go_enter Try.func37, Try.ntmps37
  go_wp2_with fail
  rw [← HW3.out]
  refine Calls.mono HC.out ?_
  rintro e w4 ⟨rfl, hR⟩
  have HR : Hid (ExR hb ab L w3 w4) := hR
  have n1 : w.heap.size + 1 ≠ ab := fun e => by have := HH.out.lt; omega
  have n2 : w.heap.size + 2 ≠ ab := fun e => by have := HH.out.lt; omega
  have HS1' : Hid (SB w4 (w.heap.size + 1) c0) := (hR.2.1.2 _ n1 (by omega)).trans HS1.out
  have HS2' : Hid (SB w4 (w.heap.size + 2) c0) := (hR.2.1.2 _ n2 (by omega)).trans HS2.out
  have u0 : w3.heap.size ≤ w4.heap.size := hR.2.1.1.size
  obtain ⟨⟨e0, e1, e2, e3⟩, ef⟩ := zero_cells HS1'.out
  obtain ⟨⟨g0, g1, g2, g3⟩, gf⟩ := zero_cells HS2'.out
  have u1 : w.heap.size + 1 < w4.heap.size := by omega
  have u2 : w.heap.size + 2 < w4.heap.size := by omega
  have u3 : w.heap.size + 1 ≠ w.heap.size + 2 := by omega
  clear hR
  go_wp2_with fail
  refine bodyPost_ret (results_cc (x := X) (y := Y) (g1 := w.heap.size + 1) (g2 := w.heap.size + 1 + 1) rfl rfl rfl rfl ?_ ?_) rfl ?_
  · refine SB.kept ?_ (s4_far (by omega) _ _ _ _)
    exact sb_s4 (y := X) HS1'.out
  · refine sb_s4 (x := c0) (y := Y) ?_
    exact SB.kept HS2'.out (s4_far (by omega) _ _ _ _)
  · exact ⟨rfl, ExR.two HH.out HB3.out HR.out (by omega) (by omega) _ _ _ _ _ _ _ _⟩
end Go.Proofs.Ytjbfpklbgefacaa
