/- Make, Drop, Swap, Load, Head. -/
import Derived.Test.YtjbfpklbgefacaaHMTurn
namespace Go.Proofs.Ytjbfpklbgefacaa
open Go.RowKit

def maY (y x : Cl) : Cl := if x.k = 0 then y else c0
def maE (x : Cl) : Int := if x.k = 0 then 0 else 31
def makeF (y : Cl) : Bool := (decide (1 ≤ y.k) && decide (y.k ≤ 3)) && decide (y.c ≤ 2)
def makeE (h : List Cl) (i : Int) (y : Cl) : Int := match getC h i with
  | some x => if makeF y = true then maE x else 30
  | none => 1
def makeH (h : List Cl) (i : Int) (y : Cl) : List Cl := if makeE h i y = 0 then h.set i.toNat y else h
theorem four_new (w : World) (o1 o2 o3 o4 : Obj) : ((((w.alloc o1).alloc o2).alloc o3).alloc o4).heap[w.heap.size]? = some o1 ∧ ((((w.alloc o1).alloc o2).alloc o3).alloc o4).heap[w.heap.size + 1]? = some o2 ∧ ((((w.alloc o1).alloc o2).alloc o3).alloc o4).heap[w.heap.size + 2]? = some o3 ∧ ((((w.alloc o1).alloc o2).alloc o3).alloc o4).heap[w.heap.size + 3]? = some o4 := by
  have h1 := two_new w o1 o2
  have h2 := two_new ((w.alloc o1).alloc o2) o3 o4
  rw [World.size_alloc, World.size_alloc] at h2
  have hb := below_two ((w.alloc o1).alloc o2) o3 o4
  rw [World.size_alloc, World.size_alloc] at hb
  exact ⟨(hb.block _ (by omega)).trans h1.1, (hb.block _ (by omega)).trans h1.2, h2.1, h2.2⟩
theorem below_four (w : World) (o1 o2 o3 o4 : Obj) : Below w.heap.size w ((((w.alloc o1).alloc o2).alloc o3).alloc o4) := by
  have hb := below_two ((w.alloc o1).alloc o2) o3 o4
  exact (below_two w o1 o2).trans (hb.mono (by rw [World.size_alloc, World.size_alloc]; omega))
set_option maxRecDepth 100000 in
set_option maxHeartbeats 8000000 in
theorem make1_any {b : Nat} (x y : Cl) {W : World} (h0 : W.cell? ⟨b, 0, none⟩ = some (.int .u8 y.k)) (h1 : W.cell? ⟨b + 1, 0, none⟩ = some (.int .u8 y.c)) (h2 : W.cell? ⟨b + 2, 0, none⟩ = some (.int .u64 y.a)) (h3 : W.cell? ⟨b + 3, 0, none⟩ = some (.int .u64 y.b)) (hl : b + 3 < W.heap.size) :
    Calls Try.prog 34 #[cV x, .pointer (some ⟨b, 0, none⟩), .pointer (some ⟨b + 1, 0, none⟩), .pointer (some ⟨b + 2, 0, none⟩), .pointer (some ⟨b + 3, 0, none⟩)] W fun e W' => e = .returned (.tuple #[cV (maY y x), .int .i64 (maE x)]) ∧ Below W.heap.size W W' := by
  obtain ⟨w2, hw2⟩ : ∃ w2, w2 = (W.alloc (.cells (cL x) 84)).alloc (.cells (cL c0) 84) := ⟨_, rfl⟩
  have t1 := two_new W (.cells (cL x) 84) (.cells (cL c0) 84)
  have HB2 : Hid (Below W.heap.size W w2) := hw2 ▸ below_two W _ _
  rw [← hw2] at t1
  have HX2 : Hid (SB w2 W.heap.size x) := t1.1
  have HR2 : Hid (SB w2 (W.heap.size + 1) c0) := t1.2
  have s2 : w2.heap.size = W.heap.size + 1 + 1 := by rw [hw2, World.size_alloc, World.size_alloc]
  obtain ⟨a0, a1, a2, a3⟩ := HX2.out.cell
  have HF : Hid (Calls Try.prog 35 #[cV x] w2 fun e w' => e = .returned (.bool (x.k == 0)) ∧ Below w2.heap.size w2 w') := isFree_any x w2
  have HW2 : Hid (w2 = (W.alloc (.cells #[.int .u8 x.k, .int .u8 x.c, .int .u64 x.a, .int .u64 x.b] 84)).alloc (.cells #[.int .u8 0, .int .u8 0, .int .u64 0, .int .u64 0] 84)) := hw2
  clear t1 hw2
  by_cases hf : x.k = 0
  · have z1 : (x.k == 0) = true := by simpa using hf
    have E : Hid (maY y x = y ∧ maE x = 0) := ⟨by unfold maY; rw [if_pos hf], by unfold maE; rw [if_pos hf]⟩
    rw [z1] at HF
    rw [E.out.1, E.out.2]
    clear hf z1 E
    go_enter Try.func34, Try.ntmps34
    go_wp2_with fail
    rw [← HW2.out]
    go_wp2_with fail
    refine Calls.mono HF.out ?_
    rintro e w3 ⟨rfl, hb3⟩
    have B3 : Below W.heap.size W w3 := HB2.out.trans (hb3.mono HB2.out.size)
    have HB3 : Hid (Below W.heap.size W w3) := B3
    have HR3 : Hid (SB w3 (W.heap.size + 1) c0) := (hb3.block _ (by omega)).trans HR2.out
    obtain ⟨⟨g0, g1, g2, g3⟩, gf⟩ := zero_cells HR3.out
    have k0 : w3.cell? ⟨b, 0, none⟩ = some (.int .u8 y.k) := (B3.cell (p := ⟨b, 0, none⟩) (by show b < _; omega)).trans h0
    have k1 : w3.cell? ⟨b + 1, 0, none⟩ = some (.int .u8 y.c) := (B3.cell (p := ⟨b + 1, 0, none⟩) (by show b + 1 < _; omega)).trans h1
    have k2 : w3.cell? ⟨b + 2, 0, none⟩ = some (.int .u64 y.a) := (B3.cell (p := ⟨b + 2, 0, none⟩) (by show b + 2 < _; omega)).trans h2
    have k3 : w3.cell? ⟨b + 3, 0, none⟩ = some (.int .u64 y.b) := (B3.cell (p := ⟨b + 3, 0, none⟩) (by show b + 3 < _; omega)).trans h3
    have u1 : W.heap.size + 1 < w3.heap.size := by have := hb3.size; omega
    clear hb3 h0 h1 h2 h3 a0 a1 a2 a3 B3
    go_wp2_with fail
    refine bodyPost_ret (results_c1 (x := y) (g1 := W.heap.size + 1) rfl rfl rfl ?_) rfl ?_
    · exact sb_s4 (x := c0) (y := y) HR3.out
    · exact ⟨rfl, below_s4 HB3.out (Nat.le_succ _) _ _ _ _⟩
  · have z1 : (x.k == 0) = false := by simpa using hf
    have E : Hid (maY y x = c0 ∧ maE x = 31) := ⟨by unfold maY; rw [if_neg hf], by unfold maE; rw [if_neg hf]⟩
    rw [z1] at HF
    rw [E.out.1, E.out.2]
    clear hf z1 E
    go_enter Try.func34, Try.ntmps34
    go_wp2_with fail
    rw [← HW2.out]
    go_wp2_with fail
    refine Calls.mono HF.out ?_
    rintro e w3 ⟨rfl, hb3⟩
    have HB3 : Hid (Below W.heap.size W w3) := HB2.out.trans (hb3.mono HB2.out.size)
    have HR3 : Hid (SB w3 (W.heap.size + 1) c0) := (hb3.block _ (by omega)).trans HR2.out
    obtain ⟨⟨g0, g1, g2, g3⟩, gf⟩ := zero_cells HR3.out
    have u1 : W.heap.size + 1 < w3.heap.size := by have := hb3.size; omega
    clear hb3 h0 h1 h2 h3 a0 a1 a2 a3
    go_wp2_with fail
    refine bodyPost_ret (results_c1 (x := c0) (g1 := W.heap.size + 1) rfl rfl rfl ?_) rfl ?_
    · exact sb_s4 (x := c0) (y := c0) HR3.out
    · exact ⟨rfl, below_s4 HB3.out (Nat.le_succ _) _ _ _ _⟩
set_option maxRecDepth 100000 in
set_option maxHeartbeats 8000000 in
theorem hmake_any {hb ab : Nat} {h : List Cl} (i : Int) (y : Cl) {w : World} (H : CH w hb ab h) (hy : OkK y) :
    Calls Try.prog 22 #[.pointer (some ⟨hb, 0, none⟩), .int .i64 i, .int .u8 y.k, .int .u8 y.c, .int .u64 y.a, .int .u64 y.b] w fun e w' => e = .returned (.int .i64 (makeE h i y)) ∧ ExR hb ab (makeH h i y) w w' := by
  obtain ⟨w2, hw2⟩ : ∃ w2, w2 = (((w.alloc (.cells #[.int .u8 y.k] 34)).alloc (.cells #[.int .u8 y.c] 35)).alloc (.cells #[.int .u64 y.a] 37)).alloc (.cells #[.int .u64 y.b] 37) := ⟨_, rfl⟩
  have t1 := four_new w (.cells #[.int .u8 y.k] 34) (.cells #[.int .u8 y.c] 35) (.cells #[.int .u64 y.a] 37) (.cells #[.int .u64 y.b] 37)
  have B2 : Below w.heap.size w w2 := hw2 ▸ below_four w _ _ _ _
  rw [← hw2] at t1
  have s2 : w2.heap.size = w.heap.size + 1 + 1 + 1 + 1 := by rw [hw2, World.size_alloc, World.size_alloc, World.size_alloc, World.size_alloc]
  have H2 := H.below B2
  have HA : Hid (Calls Try.prog 31 #[.pointer (some ⟨hb, 0, none⟩), .int .i64 i] w2 fun e w' => e = .returned (.bool (inB h.length i)) ∧ w' = w2) := has_any i w2 H2
  have HI : Hid (Calls Try.prog 32 #[.int .u8 y.c] w2 fun e w' => e = .returned (.bool (decide (y.c ≤ 2))) ∧ w' = w2) := isColour_any y.c w2
  have HH : Hid (CH w hb ab h) := H
  have HB2 : Hid (Below w.heap.size w w2) := B2
  have HW2 : Hid (w2 = (((w.alloc (.cells #[.int .u8 y.k] 34)).alloc (.cells #[.int .u8 y.c] 35)).alloc (.cells #[.int .u64 y.a] 37)).alloc (.cells #[.int .u64 y.b] 37)) := hw2
  have k0 : w2.cell? ⟨w.heap.size, 0, none⟩ = some (.int .u8 y.k) := heap_cell t1.1 rfl
  have k1 : w2.cell? ⟨w.heap.size + 1, 0, none⟩ = some (.int .u8 y.c) := heap_cell t1.2.1 rfl
  have k2 : w2.cell? ⟨w.heap.size + 2, 0, none⟩ = some (.int .u64 y.a) := heap_cell t1.2.2.1 rfl
  have k3 : w2.cell? ⟨w.heap.size + 3, 0, none⟩ = some (.int .u64 y.b) := heap_cell t1.2.2.2 rfl
  have l1 : w.heap.size < w2.heap.size := by omega
  have l2 : w.heap.size + 1 < w2.heap.size := by omega
  cases hi : inB h.length i
  · have hg := getC_none hi
    have E : makeE h i y = 1 := by unfold makeE; rw [hg]
    have E' : makeH h i y = h := by unfold makeH; rw [E, if_neg (by decide)]
    rw [E, E']
    rw [hi] at HA
    clear hw2 t1 B2 H2 H hg E E' hi
    go_enter Try.func22, Try.ntmps22
    go_wp2_with fail
    rw [← HW2.out]
    refine Calls.mono HA.out ?_
    rintro e w' ⟨rfl, hw'⟩
    rw [hw']
    clear hw'
    go_wp2_with fail
    go_ret
    exact ⟨rfl, .of HH.out HB2.out⟩
  · obtain ⟨k, x, rfl, hx, hg, hk⟩ := getC_some hi
    rw [hi] at HA
    have bad : makeF y = false → makeE h k y = 30 ∧ makeH h k y = h := fun hf => by
      have E : makeE h k y = 30 := by unfold makeE; rw [hg]; dsimp only; rw [hf]; rfl
      exact ⟨E, by unfold makeH; rw [E, if_neg (by decide)]⟩
    by_cases c1 : y.k < 1
    · have z1 : decide (y.k < 1) = true := by simpa using c1
      obtain ⟨E, E'⟩ := bad (by unfold makeF; simp; omega)
      rw [E, E']
      clear hw2 t1 B2 H2 H hg E E' hi bad
      go_enter Try.func22, Try.ntmps22
      go_wp2_with fail
      rw [← HW2.out]
      refine Calls.mono HA.out ?_
      rintro e w' ⟨rfl, hw'⟩
      rw [hw']
      clear hw'
      go_wp2_with fail
      go_ret
      exact ⟨rfl, .of HH.out HB2.out⟩
    · have z1 : decide (y.k < 1) = false := by simpa using c1
      by_cases c2 : y.k > 3
      · have z2 : decide (y.k > 3) = true := by simpa using c2
        have z3 : decide (3 < y.k) = true := by simpa using c2
        obtain ⟨E, E'⟩ := bad (by unfold makeF; simp; omega)
        rw [E, E']
        clear hw2 t1 B2 H2 H hg E E' hi bad
        go_enter Try.func22, Try.ntmps22
        go_wp2_with fail
        rw [← HW2.out]
        refine Calls.mono HA.out ?_
        rintro e w' ⟨rfl, hw'⟩
        rw [hw']
        clear hw'
        go_wp2_with fail
        go_ret
        exact ⟨rfl, .of HH.out HB2.out⟩
      · have z2 : decide (y.k > 3) = false := by simpa using c2
        have z3 : decide (3 < y.k) = false := by simpa using c2
        by_cases c3 : y.c ≤ 2
        · have z4 : decide (y.c ≤ 2) = true := by simpa using c3
          rw [z4] at HI
          have hf : makeF y = true := by unfold makeF; simp; omega
          have hN : NextOk w2 34 #[.pointer (some ⟨w.heap.size, 0, none⟩), .pointer (some ⟨w.heap.size + 1, 0, none⟩), .pointer (some ⟨w.heap.size + 2, 0, none⟩), .pointer (some ⟨w.heap.size + 3, 0, none⟩)] x (maY y x) (maE x) := by
            refine ⟨fun args W => by simp [go_sem], fun W hW => ?_⟩
            have hl := hW.size
            exact make1_any x y ((hW.cell (p := ⟨w.heap.size, 0, none⟩) (by show w.heap.size < _; omega)).trans k0) ((hW.cell (p := ⟨w.heap.size + 1, 0, none⟩) (by show w.heap.size + 1 < _; omega)).trans k1) ((hW.cell (p := ⟨w.heap.size + 2, 0, none⟩) (by show w.heap.size + 2 < _; omega)).trans k2) ((hW.cell (p := ⟨w.heap.size + 3, 0, none⟩) (by show w.heap.size + 3 < _; omega)).trans k3) (by omega)
          have hy' : maE x = 0 → OkK (maY y x) := fun e => by
            unfold maE at e
            unfold maY
            split at e
            · rename_i h0
              rw [if_pos h0]
              exact hy
            · cases e
          have HC : Hid _ := exchange_any H2 hx hN hy'
          have E1 : makeE h k y = maE x := by unfold makeE; rw [hg]; dsimp only; rw [if_pos hf]
          have E2 : makeH h k y = if maE x = 0 then h.set k (maY y x) else h := by
            unfold makeH
            rw [E1, hk]
            by_cases h0 : x.k = 0
            · unfold maY; rw [if_pos h0]
            · unfold maE; rw [if_neg h0, if_neg (by decide), if_neg (by decide)]
          rw [E1, E2]
          generalize exA (maE x) x = X at HC
          generalize exA (maE x) (maY y x) = Y at HC
          generalize hL : (if maE x = 0 then h.set k (maY y x) else h) = L at HC ⊢
          generalize maE x = E at HC ⊢
          clear hw2 t1 B2 H2 H bad hg hi hN hy' E1 E2 hL hf
          go_enter Try.func22, Try.ntmps22
          go_wp2_with fail
          rw [← HW2.out]
          refine Calls.mono HA.out ?_
          rintro e w' ⟨rfl, hw'⟩
          rw [hw']
          clear hw'
          go_wp2_with fail
          refine Calls.mono HI.out ?_
          rintro e w' ⟨rfl, hw'⟩
          rw [hw']
          clear hw'
          go_wp2_with fail
          refine Calls.mono HC.out ?_
          rintro e w4 ⟨rfl, hR⟩
          have HR : Hid (ExR hb ab L w2 w4) := hR
          clear hR
          go_wp2_with fail
          go_ret
          exact ⟨rfl, ExR.end2 HH.out HB2.out HR.out _ _⟩
        · have z4 : decide (y.c ≤ 2) = false := by simpa using c3
          rw [z4] at HI
          obtain ⟨E, E'⟩ := bad (by unfold makeF; simp; omega)
          rw [E, E']
          clear hw2 t1 B2 H2 H hg E E' hi bad
          go_enter Try.func22, Try.ntmps22
          go_wp2_with fail
          rw [← HW2.out]
          refine Calls.mono HA.out ?_
          rintro e w' ⟨rfl, hw'⟩
          rw [hw']
          clear hw'
          go_wp2_with fail
          refine Calls.mono HI.out ?_
          rintro e w' ⟨rfl, hw'⟩
          rw [hw']
          clear hw'
          go_wp2_with fail
          go_ret
          exact ⟨rfl, .of HH.out HB2.out⟩
end Go.Proofs.Ytjbfpklbgefacaa
