/- Turn, Shade.; Make, Drop, Swap, Load, Head.; Drop, Swap of a first word, Load, Head.; Load, Head. -/
import Derived.Test.YtiglmffnhbegiaaDoorGC
/- Turn, Shade. -/
namespace Go.Proofs.YtiglmffnhbegiaaDoor
open Go.RowKit

def getC (h : List Cl) (i : Int) : Option Cl := if 0 ≤ i then h[i.toNat]? else none
theorem getC_none {h : List Cl} {i : Int} (hi : inB h.length i = false) : getC h i = none := by
  unfold getC
  unfold inB at hi
  split
  · rename_i h0
    simp [h0] at hi
    exact List.getElem?_eq_none (by omega)
  · rfl
theorem getC_some {h : List Cl} {i : Int} (hi : inB h.length i = true) : ∃ (k : Nat) (x : Cl), i = k ∧ h[k]? = some x ∧ getC h i = some x ∧ i.toNat = k := by
  obtain ⟨k, rfl, hk⟩ := inB_iff.1 hi
  refine ⟨k, h[k], rfl, List.getElem?_eq_getElem hk, ?_, by simp⟩
  unfold getC
  rw [if_pos (by omega)]
  simp [hk]
def turnB (h : List Cl) (i f t : Int) : Bool := match getC h i with
  | some x => decide (t ≤ 2) && (!decide (x.k = 0) && decide (x.c = f))
  | none => false
def turnH (h : List Cl) (i f t : Int) : List Cl := match getC h i with
  | some x => if turnB h i f t = true then h.set i.toNat ⟨x.k, t, x.a, x.b⟩ else h
  | none => h
theorem below_two (W : World) (o o' : Obj) : Below W.heap.size W ((W.alloc o).alloc o') := ((Below.refl _ W).alloc (Nat.le_refl _) _).alloc (by rw [World.size_alloc]; omega) _
def tuY (f t : Int) (x : Cl) : Cl := if x.c = f then ⟨x.k, t, x.a, x.b⟩ else c0
def tuE (f : Int) (x : Cl) : Int := if x.c = f then 0 else 30
set_option maxRecDepth 100000 in
set_option maxHeartbeats 8000000 in
theorem turn1_any {b6 b7 : Nat} (f t : Int) (x : Cl) {W : World} (h6 : W.cell? ⟨b6, 0, none⟩ = some (.int .u8 f)) (h7 : W.cell? ⟨b7, 0, none⟩ = some (.int .u8 t)) (l6 : b6 < W.heap.size) (l7 : b7 < W.heap.size) :
    Calls Tryd.prog 84 #[cV x, .pointer (some ⟨b6, 0, none⟩), .pointer (some ⟨b7, 0, none⟩)] W fun e W' => e = .returned (.tuple #[cV (tuY f t x), .int .i64 (tuE f x)]) ∧ Below W.heap.size W W' := by
  have n6 : b6 ≠ W.heap.size := by omega
  have n7 : b7 ≠ W.heap.size := by omega
  have m6 : b6 ≠ W.heap.size + 1 := by omega
  have m7 : b7 ≠ W.heap.size + 1 := by omega
  by_cases hf : x.c = f
  · have z1 : (x.c != f) = false := by simpa using hf
    have E : Hid (tuY f t x = ⟨x.k, t, x.a, x.b⟩ ∧ tuE f x = 0) := ⟨by unfold tuY; rw [if_pos hf], by unfold tuE; rw [if_pos hf]⟩
    rw [E.out.1, E.out.2]
    have HF : Hid (x.c = f) := hf
    clear hf E
    go_enter Tryd.func84, Tryd.ntmps84
    go_wp2_with fail
    exact bodyPost_ret (results_c1 (x := ⟨x.k, t, x.a, x.b⟩) (g1 := W.heap.size + 1) rfl rfl rfl (two_new W _ _).2) rfl ⟨rfl, below_two W _ _⟩
  · have z1 : (x.c != f) = true := by simpa using hf
    have E : Hid (tuY f t x = c0 ∧ tuE f x = 30) := ⟨by unfold tuY; rw [if_neg hf], by unfold tuE; rw [if_neg hf]⟩
    rw [E.out.1, E.out.2]
    clear hf E
    go_enter Tryd.func84, Tryd.ntmps84
    go_wp2_with fail
    exact bodyPost_ret (results_c1 (x := c0) (g1 := W.heap.size + 1) rfl rfl rfl (two_new W _ _).2) rfl ⟨rfl, below_two W _ _⟩
theorem ExR.end2 {hb ab : Nat} {h L : List Cl} {w w2 w4 : World} (H : CH w hb ab h) (B : Below w.heap.size w w2) (HR : ExR hb ab L w2 w4) (o o' : Obj) : ExR hb ab L w ((w4.alloc o).alloc o') :=
  ((ExR.of H B).trans HR).trans (.of HR.1 (below_two w4 o o'))
theorem turn_yes {h : List Cl} {i f t : Int} {k : Nat} {x : Cl} (hg : getC h i = some x) (hk : i.toNat = k) (ht : t ≤ 2) : turnB h i f t = decide (chE x (tuE f x) = 0) ∧ turnH h i f t = if chE x (tuE f x) = 0 then h.set k (chY x (tuY f t x)) else h := by
  unfold turnB turnH turnB chE chY tuE tuY
  rw [hg]
  dsimp only
  rw [hk]
  by_cases h0 : x.k = 0
  · simp [h0]
  · by_cases h1 : x.c = f
    · simp [h0, h1, ht]
    · simp [h0, h1]
set_option maxRecDepth 100000 in
set_option maxHeartbeats 8000000 in
theorem turn_any {hb ab : Nat} {h : List Cl} (i f t : Int) {w : World} (H : CH w hb ab h) (ht : 0 ≤ t ∧ t ≤ 255) :
    Calls Tryd.prog 37 #[.pointer (some ⟨hb, 0, none⟩), .int .i64 i, .int .u8 f, .int .u8 t] w fun e w' => e = .returned (.bool (turnB h i f t)) ∧ ExR hb ab (turnH h i f t) w w' := by
  obtain ⟨w2, hw2⟩ : ∃ w2, w2 = (w.alloc (.cells #[.int .u8 f] 27)).alloc (.cells #[.int .u8 t] 27) := ⟨_, rfl⟩
  have t1 := two_new w (.cells #[.int .u8 f] 27) (.cells #[.int .u8 t] 27)
  have B2 := below_two w (.cells #[.int .u8 f] 27) (.cells #[.int .u8 t] 27)
  rw [← hw2] at t1 B2
  have s2 : w2.heap.size = w.heap.size + 1 + 1 := by rw [hw2, World.size_alloc, World.size_alloc]
  have H2 := H.below B2
  have HA : Hid (Calls Tryd.prog 70 #[.pointer (some ⟨hb, 0, none⟩), .int .i64 i] w2 fun e w' => e = .returned (.bool (inB h.length i)) ∧ w' = w2) := has_any i w2 H2
  have HI : Hid (Calls Tryd.prog 71 #[.int .u8 t] w2 fun e w' => e = .returned (.bool (decide (t ≤ 2))) ∧ w' = w2) := isColour_any t w2
  have HH : Hid (CH w hb ab h) := H
  have HB2 : Hid (Below w.heap.size w w2) := B2
  have HW2 : Hid (w2 = (w.alloc (.cells #[.int .u8 f] 27)).alloc (.cells #[.int .u8 t] 27)) := hw2
  have k7 : w2.cell? ⟨w.heap.size + 1, 0, none⟩ = some (.int .u8 t) := heap_cell t1.2 rfl
  have k6 : w2.cell? ⟨w.heap.size, 0, none⟩ = some (.int .u8 f) := heap_cell t1.1 rfl
  have bad : turnB h i f t = false → turnH h i f t = h := fun hb => by
    unfold turnH
    split
    · rw [hb]; rfl
    · rfl
  cases hi : inB h.length i
  · have hg := getC_none hi
    have E : turnB h i f t = false := by unfold turnB; rw [hg]
    rw [E, bad E]
    rw [hi] at HA
    clear hw2 t1 B2 H2 H bad hg E hi
    go_enter Tryd.func37, Tryd.ntmps37
    go_wp2_with fail
    rw [← HW2.out]
    refine Calls.mono HA.out ?_
    rintro e w' ⟨rfl, hw'⟩
    rw [hw']
    clear hw'
    go_wp2_with fail
    go_ret
    exact ⟨rfl, .of HH.out HB2.out⟩
  · obtain ⟨k, x, rfl, hx, hg, hk⟩ := getC_some hi
    rw [hi] at HA
    by_cases h2 : t ≤ 2
    · have z1 : decide (t ≤ 2) = true := by simpa using h2
      rw [z1] at HI
      obtain ⟨E1, E2⟩ := turn_yes (f := f) hg hk h2
      rw [E1, E2]
      have hx0 : OkK x := H.ok x (List.mem_of_getElem? hx)
      have hN : NextOk w2 84 #[.pointer (some ⟨w.heap.size, 0, none⟩), .pointer (some ⟨w.heap.size + 1, 0, none⟩)] x (tuY f t x) (tuE f x) := by
        refine ⟨fun args W => by simp [go_sem], fun W hW => ?_⟩
        exact turn1_any f t x ((hW.cell (p := ⟨w.heap.size, 0, none⟩) (by show w.heap.size < _; omega)).trans k6) ((hW.cell (p := ⟨w.heap.size + 1, 0, none⟩) (by show w.heap.size + 1 < _; omega)).trans k7) (by have := hW.size; omega) (by have := hW.size; omega)
      have hy : tuE f x = 0 → OkK (tuY f t x) := fun e => by
        unfold tuE at e
        unfold tuY
        split at e
        · rename_i h0
          rw [if_pos h0]
          exact ⟨hx0.k, ht, hx0.a, hx0.b⟩
        · cases e
      have HC : Hid _ := change_any H2 hx hN hy
      generalize exA (chE x (tuE f x)) x = X at HC
      generalize exA (chE x (tuE f x)) (chY x (tuY f t x)) = Y at HC
      generalize hL : (if chE x (tuE f x) = 0 then h.set k (chY x (tuY f t x)) else h) = L at HC ⊢
      generalize chE x (tuE f x) = E at HC ⊢
      rw [show decide (E = 0) = (E == 0) by by_cases h : E = 0 <;> simp [h]]
      clear hw2 t1 B2 H2 H bad hg hi hN hy E1 E2 hx0 hL
      go_enter Tryd.func37, Tryd.ntmps37
      go_wp2_with fail
      rw [← HW2.out]
      refine Calls.mono HA.out ?_
      rintro e w' ⟨rfl, hw'⟩
      rw [hw']
      clear hw'
      go_wp2_with fail
      refine Calls.mono HI.out ?_
      rintro e w' ⟨rfl, hw'⟩
      rw [hw']
      clear hw'
      go_wp2_with fail
      refine Calls.mono HC.out ?_
      rintro e w4 ⟨rfl, hR⟩
      have HR : Hid (ExR hb ab L w2 w4) := hR
      clear hR
      go_wp2_with fail
      go_ret
      exact ⟨rfl, ExR.end2 HH.out HB2.out HR.out _ _⟩
    · have z1 : decide (t ≤ 2) = false := by simpa using h2
      have E : turnB h k f t = false := by unfold turnB; rw [hg]; simp [h2]
      rw [z1] at HI
      rw [E, bad E]
      clear hw2 t1 B2 H2 H bad hg E hi
      go_enter Tryd.func37, Tryd.ntmps37
      go_wp2_with fail
      rw [← HW2.out]
      refine Calls.mono HA.out ?_
      rintro e w' ⟨rfl, hw'⟩
      rw [hw']
      clear hw'
      go_wp2_with fail
      refine Calls.mono HI.out ?_
      rintro e w' ⟨rfl, hw'⟩
      rw [hw']
      clear hw'
      go_wp2_with fail
      go_ret
      exact ⟨rfl, .of HH.out HB2.out⟩
set_option maxRecDepth 100000 in
set_option maxHeartbeats 8000000 in
theorem shade_any {hb ab : Nat} {h : List Cl} (i : Int) {w : World} (H : CH w hb ab h) :
    Calls Tryd.prog 79 #[.pointer (some ⟨hb, 0, none⟩), .int .i64 i] w fun e w' => e = .returned (.bool (turnB h i 0 1)) ∧ ExR hb ab (turnH h i 0 1) w w' := by
  have HC : Hid (Calls Tryd.prog 37 #[.pointer (some ⟨hb, 0, none⟩), .int .i64 i, .int .u8 0, .int .u8 1] w fun e w' => e = .returned (.bool (turnB h i 0 1)) ∧ ExR hb ab (turnH h i 0 1) w w') := turn_any i 0 1 H (by decide)
  clear H
  go_enter Tryd.func79, Tryd.ntmps79
  go_wp2_with fail
  refine Calls.mono HC.out ?_
  rintro e w' ⟨rfl, hR⟩
  have HR : Hid (ExR hb ab (turnH h i 0 1) w w') := hR
  clear hR
  go_wp2_with fail
  go_ret
  exact ⟨rfl, HR.out⟩
end Go.Proofs.YtiglmffnhbegiaaDoor

/- Make, Drop, Swap, Load, Head. -/
namespace Go.Proofs.YtiglmffnhbegiaaDoor
open Go.RowKit

def maY (y x : Cl) : Cl := if x.k = 0 then y else c0
def maE (x : Cl) : Int := if x.k = 0 then 0 else 31
def makeF (y : Cl) : Bool := (decide (1 ≤ y.k) && decide (y.k ≤ 3)) && decide (y.c ≤ 2)
def makeE (h : List Cl) (i : Int) (y : Cl) : Int := match getC h i with
  | some x => if makeF y = true then maE x else 30
  | none => 1
def makeH (h : List Cl) (i : Int) (y : Cl) : List Cl := if makeE h i y = 0 then h.set i.toNat y else h
theorem four_new (w : World) (o1 o2 o3 o4 : Obj) : ((((w.alloc o1).alloc o2).alloc o3).alloc o4).heap[w.heap.size]? = some o1 ∧ ((((w.alloc o1).alloc o2).alloc o3).alloc o4).heap[w.heap.size + 1]? = some o2 ∧ ((((w.alloc o1).alloc o2).alloc o3).alloc o4).heap[w.heap.size + 2]? = some o3 ∧ ((((w.alloc o1).alloc o2).alloc o3).alloc o4).heap[w.heap.size + 3]? = some o4 := by
  have h1 := two_new w o1 o2
  have h2 := two_new ((w.alloc o1).alloc o2) o3 o4
  rw [World.size_alloc, World.size_alloc] at h2
  have hb := below_two ((w.alloc o1).alloc o2) o3 o4
  rw [World.size_alloc, World.size_alloc] at hb
  exact ⟨(hb.block _ (by omega)).trans h1.1, (hb.block _ (by omega)).trans h1.2, h2.1, h2.2⟩
theorem below_four (w : World) (o1 o2 o3 o4 : Obj) : Below w.heap.size w ((((w.alloc o1).alloc o2).alloc o3).alloc o4) := by
  have hb := below_two ((w.alloc o1).alloc o2) o3 o4
  exact (below_two w o1 o2).trans (hb.mono (by rw [World.size_alloc, World.size_alloc]; omega))
set_option maxRecDepth 100000 in
set_option maxHeartbeats 8000000 in
theorem make1_any {b : Nat} (x y : Cl) {W : World} (h0 : W.cell? ⟨b, 0, none⟩ = some (.int .u8 y.k)) (h1 : W.cell? ⟨b + 1, 0, none⟩ = some (.int .u8 y.c)) (h2 : W.cell? ⟨b + 2, 0, none⟩ = some (.int .u64 y.a)) (h3 : W.cell? ⟨b + 3, 0, none⟩ = some (.int .u64 y.b)) (hl : b + 3 < W.heap.size) :
    Calls Tryd.prog 73 #[cV x, .pointer (some ⟨b, 0, none⟩), .pointer (some ⟨b + 1, 0, none⟩), .pointer (some ⟨b + 2, 0, none⟩), .pointer (some ⟨b + 3, 0, none⟩)] W fun e W' => e = .returned (.tuple #[cV (maY y x), .int .i64 (maE x)]) ∧ Below W.heap.size W W' := by
  obtain ⟨w2, hw2⟩ : ∃ w2, w2 = (W.alloc (.cells (cL x) 142)).alloc (.cells (cL c0) 142) := ⟨_, rfl⟩
  have t1 := two_new W (.cells (cL x) 142) (.cells (cL c0) 142)
  have HB2 : Hid (Below W.heap.size W w2) := hw2 ▸ below_two W _ _
  rw [← hw2] at t1
  have HX2 : Hid (SB w2 W.heap.size x) := t1.1
  have HR2 : Hid (SB w2 (W.heap.size + 1) c0) := t1.2
  have s2 : w2.heap.size = W.heap.size + 1 + 1 := by rw [hw2, World.size_alloc, World.size_alloc]
  obtain ⟨a0, a1, a2, a3⟩ := HX2.out.cell
  have HF : Hid (Calls Tryd.prog 74 #[cV x] w2 fun e w' => e = .returned (.bool (x.k == 0)) ∧ Below w2.heap.size w2 w') := isFree_any x w2
  have HW2 : Hid (w2 = (W.alloc (.cells #[.int .u8 x.k, .int .u8 x.c, .int .u64 x.a, .int .u64 x.b] 142)).alloc (.cells #[.int .u8 0, .int .u8 0, .int .u64 0, .int .u64 0] 142)) := hw2
  clear t1 hw2
  by_cases hf : x.k = 0
  · have z1 : (x.k == 0) = true := by simpa using hf
    have E : Hid (maY y x = y ∧ maE x = 0) := ⟨by unfold maY; rw [if_pos hf], by unfold maE; rw [if_pos hf]⟩
    rw [z1] at HF
    rw [E.out.1, E.out.2]
    clear hf z1 E
    go_enter Tryd.func73, Tryd.ntmps73
    go_wp2_with fail
    rw [← HW2.out]
    go_wp2_with fail
    refine Calls.mono HF.out ?_
    rintro e w3 ⟨rfl, hb3⟩
    have B3 : Below W.heap.size W w3 := HB2.out.trans (hb3.mono HB2.out.size)
    have HB3 : Hid (Below W.heap.size W w3) := B3
    have HR3 : Hid (SB w3 (W.heap.size + 1) c0) := (hb3.block _ (by omega)).trans HR2.out
    obtain ⟨⟨g0, g1, g2, g3⟩, gf⟩ := zero_cells HR3.out
    have k0 : w3.cell? ⟨b, 0, none⟩ = some (.int .u8 y.k) := (B3.cell (p := ⟨b, 0, none⟩) (by show b < _; omega)).trans h0
    have k1 : w3.cell? ⟨b + 1, 0, none⟩ = some (.int .u8 y.c) := (B3.cell (p := ⟨b + 1, 0, none⟩) (by show b + 1 < _; omega)).trans h1
    have k2 : w3.cell? ⟨b + 2, 0, none⟩ = some (.int .u64 y.a) := (B3.cell (p := ⟨b + 2, 0, none⟩) (by show b + 2 < _; omega)).trans h2
    have k3 : w3.cell? ⟨b + 3, 0, none⟩ = some (.int .u64 y.b) := (B3.cell (p := ⟨b + 3, 0, none⟩) (by show b + 3 < _; omega)).trans h3
    have u1 : W.heap.size + 1 < w3.heap.size := by have := hb3.size; omega
    clear hb3 h0 h1 h2 h3 a0 a1 a2 a3 B3
    go_wp2_with fail
    refine bodyPost_ret (results_c1 (x := y) (g1 := W.heap.size + 1) rfl rfl rfl ?_) rfl ?_
    · exact sb_s4 (x := c0) (y := y) HR3.out
    · exact ⟨rfl, below_s4 HB3.out (Nat.le_succ _) _ _ _ _⟩
  · have z1 : (x.k == 0) = false := by simpa using hf
    have E : Hid (maY y x = c0 ∧ maE x = 31) := ⟨by unfold maY; rw [if_neg hf], by unfold maE; rw [if_neg hf]⟩
    rw [z1] at HF
    rw [E.out.1, E.out.2]
    clear hf z1 E
    go_enter Tryd.func73, Tryd.ntmps73
    go_wp2_with fail
    rw [← HW2.out]
    go_wp2_with fail
    refine Calls.mono HF.out ?_
    rintro e w3 ⟨rfl, hb3⟩
    have HB3 : Hid (Below W.heap.size W w3) := HB2.out.trans (hb3.mono HB2.out.size)
    have HR3 : Hid (SB w3 (W.heap.size + 1) c0) := (hb3.block _ (by omega)).trans HR2.out
    obtain ⟨⟨g0, g1, g2, g3⟩, gf⟩ := zero_cells HR3.out
    have u1 : W.heap.size + 1 < w3.heap.size := by have := hb3.size; omega
    clear hb3 h0 h1 h2 h3 a0 a1 a2 a3
    go_wp2_with fail
    refine bodyPost_ret (results_c1 (x := c0) (g1 := W.heap.size + 1) rfl rfl rfl ?_) rfl ?_
    · exact sb_s4 (x := c0) (y := c0) HR3.out
    · exact ⟨rfl, below_s4 HB3.out (Nat.le_succ _) _ _ _ _⟩
set_option maxRecDepth 100000 in
set_option maxHeartbeats 8000000 in
theorem hmake_any {hb ab : Nat} {h : List Cl} (i : Int) (y : Cl) {w : World} (H : CH w hb ab h) (hy : OkK y) :
    Calls Tryd.prog 19 #[.pointer (some ⟨hb, 0, none⟩), .int .i64 i, .int .u8 y.k, .int .u8 y.c, .int .u64 y.a, .int .u64 y.b] w fun e w' => e = .returned (.int .i64 (makeE h i y)) ∧ ExR hb ab (makeH h i y) w w' := by
  obtain ⟨w2, hw2⟩ : ∃ w2, w2 = (((w.alloc (.cells #[.int .u8 y.k] 78)).alloc (.cells #[.int .u8 y.c] 27)).alloc (.cells #[.int .u64 y.a] 29)).alloc (.cells #[.int .u64 y.b] 29) := ⟨_, rfl⟩
  have t1 := four_new w (.cells #[.int .u8 y.k] 78) (.cells #[.int .u8 y.c] 27) (.cells #[.int .u64 y.a] 29) (.cells #[.int .u64 y.b] 29)
  have B2 : Below w.heap.size w w2 := hw2 ▸ below_four w _ _ _ _
  rw [← hw2] at t1
  have s2 : w2.heap.size = w.heap.size + 1 + 1 + 1 + 1 := by rw [hw2, World.size_alloc, World.size_alloc, World.size_alloc, World.size_alloc]
  have H2 := H.below B2
  have HA : Hid (Calls Tryd.prog 70 #[.pointer (some ⟨hb, 0, none⟩), .int .i64 i] w2 fun e w' => e = .returned (.bool (inB h.length i)) ∧ w' = w2) := has_any i w2 H2
  have HI : Hid (Calls Tryd.prog 71 #[.int .u8 y.c] w2 fun e w' => e = .returned (.bool (decide (y.c ≤ 2))) ∧ w' = w2) := isColour_any y.c w2
  have HH : Hid (CH w hb ab h) := H
  have HB2 : Hid (Below w.heap.size w w2) := B2
  have HW2 : Hid (w2 = (((w.alloc (.cells #[.int .u8 y.k] 78)).alloc (.cells #[.int .u8 y.c] 27)).alloc (.cells #[.int .u64 y.a] 29)).alloc (.cells #[.int .u64 y.b] 29)) := hw2
  have k0 : w2.cell? ⟨w.heap.size, 0, none⟩ = some (.int .u8 y.k) := heap_cell t1.1 rfl
  have k1 : w2.cell? ⟨w.heap.size + 1, 0, none⟩ = some (.int .u8 y.c) := heap_cell t1.2.1 rfl
  have k2 : w2.cell? ⟨w.heap.size + 2, 0, none⟩ = some (.int .u64 y.a) := heap_cell t1.2.2.1 rfl
  have k3 : w2.cell? ⟨w.heap.size + 3, 0, none⟩ = some (.int .u64 y.b) := heap_cell t1.2.2.2 rfl
  have l1 : w.heap.size < w2.heap.size := by omega
  have l2 : w.heap.size + 1 < w2.heap.size := by omega
  cases hi : inB h.length i
  · have hg := getC_none hi
    have E : makeE h i y = 1 := by unfold makeE; rw [hg]
    have E' : makeH h i y = h := by unfold makeH; rw [E, if_neg (by decide)]
    rw [E, E']
    rw [hi] at HA
    clear hw2 t1 B2 H2 H hg E E' hi
    go_enter Tryd.func19, Tryd.ntmps19
    go_wp2_with fail
    rw [← HW2.out]
    refine Calls.mono HA.out ?_
    rintro e w' ⟨rfl, hw'⟩
    rw [hw']
    clear hw'
    go_wp2_with fail
    go_ret
    exact ⟨rfl, .of HH.out HB2.out⟩
  · obtain ⟨k, x, rfl, hx, hg, hk⟩ := getC_some hi
    rw [hi] at HA
    have bad : makeF y = false → makeE h k y = 30 ∧ makeH h k y = h := fun hf => by
      have E : makeE h k y = 30 := by unfold makeE; rw [hg]; dsimp only; rw [hf]; rfl
      exact ⟨E, by unfold makeH; rw [E, if_neg (by decide)]⟩
    by_cases c1 : y.k < 1
    · have z1 : decide (y.k < 1) = true := by simpa using c1
      obtain ⟨E, E'⟩ := bad (by unfold makeF; simp; omega)
      rw [E, E']
      clear hw2 t1 B2 H2 H hg E E' hi bad
      go_enter Tryd.func19, Tryd.ntmps19
      go_wp2_with fail
      rw [← HW2.out]
      refine Calls.mono HA.out ?_
      rintro e w' ⟨rfl, hw'⟩
      rw [hw']
      clear hw'
      go_wp2_with fail
      go_ret
      exact ⟨rfl, .of HH.out HB2.out⟩
    · have z1 : decide (y.k < 1) = false := by simpa using c1
      by_cases c2 : y.k > 3
      · have z2 : decide (y.k > 3) = true := by simpa using c2
        have z3 : decide (3 < y.k) = true := by simpa using c2
        obtain ⟨E, E'⟩ := bad (by unfold makeF; simp; omega)
        rw [E, E']
        clear hw2 t1 B2 H2 H hg E E' hi bad
        go_enter Tryd.func19, Tryd.ntmps19
        go_wp2_with fail
        rw [← HW2.out]
        refine Calls.mono HA.out ?_
        rintro e w' ⟨rfl, hw'⟩
        rw [hw']
        clear hw'
        go_wp2_with fail
        go_ret
        exact ⟨rfl, .of HH.out HB2.out⟩
      · have z2 : decide (y.k > 3) = false := by simpa using c2
        have z3 : decide (3 < y.k) = false := by simpa using c2
        by_cases c3 : y.c ≤ 2
        · have z4 : decide (y.c ≤ 2) = true := by simpa using c3
          rw [z4] at HI
          have hf : makeF y = true := by unfold makeF; simp; omega
          have hN : NextOk w2 73 #[.pointer (some ⟨w.heap.size, 0, none⟩), .pointer (some ⟨w.heap.size + 1, 0, none⟩), .pointer (some ⟨w.heap.size + 2, 0, none⟩), .pointer (some ⟨w.heap.size + 3, 0, none⟩)] x (maY y x) (maE x) := by
            refine ⟨fun args W => by simp [go_sem], fun W hW => ?_⟩
            have hl := hW.size
            exact make1_any x y ((hW.cell (p := ⟨w.heap.size, 0, none⟩) (by show w.heap.size < _; omega)).trans k0) ((hW.cell (p := ⟨w.heap.size + 1, 0, none⟩) (by show w.heap.size + 1 < _; omega)).trans k1) ((hW.cell (p := ⟨w.heap.size + 2, 0, none⟩) (by show w.heap.size + 2 < _; omega)).trans k2) ((hW.cell (p := ⟨w.heap.size + 3, 0, none⟩) (by show w.heap.size + 3 < _; omega)).trans k3) (by omega)
          have hy' : maE x = 0 → OkK (maY y x) := fun e => by
            unfold maE at e
            unfold maY
            split at e
            · rename_i h0
              rw [if_pos h0]
              exact hy
            · cases e
          have HC : Hid _ := exchange_any H2 hx hN hy'
          have E1 : makeE h k y = maE x := by unfold makeE; rw [hg]; dsimp only; rw [if_pos hf]
          have E2 : makeH h k y = if maE x = 0 then h.set k (maY y x) else h := by
            unfold makeH
            rw [E1, hk]
            by_cases h0 : x.k = 0
            · unfold maY; rw [if_pos h0]
            · unfold maE; rw [if_neg h0, if_neg (by decide), if_neg (by decide)]
          rw [E1, E2]
          generalize exA (maE x) x = X at HC
          generalize exA (maE x) (maY y x) = Y at HC
          generalize hL : (if maE x = 0 then h.set k (maY y x) else h) = L at HC ⊢
          generalize maE x = E at HC ⊢
          clear hw2 t1 B2 H2 H bad hg hi hN hy' E1 E2 hL hf
          go_enter Tryd.func19, Tryd.ntmps19
          go_wp2_with fail
          rw [← HW2.out]
          refine Calls.mono HA.out ?_
          rintro e w' ⟨rfl, hw'⟩
          rw [hw']
          clear hw'
          go_wp2_with fail
          refine Calls.mono HI.out ?_
          rintro e w' ⟨rfl, hw'⟩
          rw [hw']
          clear hw'
          go_wp2_with fail
          refine Calls.mono HC.out ?_
          rintro e w4 ⟨rfl, hR⟩
          have HR : Hid (ExR hb ab L w2 w4) := hR
          clear hR
          go_wp2_with fail
          go_ret
          exact ⟨rfl, ExR.end2 HH.out HB2.out HR.out _ _⟩
        · have z4 : decide (y.c ≤ 2) = false := by simpa using c3
          rw [z4] at HI
          obtain ⟨E, E'⟩ := bad (by unfold makeF; simp; omega)
          rw [E, E']
          clear hw2 t1 B2 H2 H hg E E' hi bad
          go_enter Tryd.func19, Tryd.ntmps19
          go_wp2_with fail
          rw [← HW2.out]
          refine Calls.mono HA.out ?_
          rintro e w' ⟨rfl, hw'⟩
          rw [hw']
          clear hw'
          go_wp2_with fail
          refine Calls.mono HI.out ?_
          rintro e w' ⟨rfl, hw'⟩
          rw [hw']
          clear hw'
          go_wp2_with fail
          go_ret
          exact ⟨rfl, .of HH.out HB2.out⟩
end Go.Proofs.YtiglmffnhbegiaaDoor

/- Drop, Swap of a first word, Load, Head. -/
namespace Go.Proofs.YtiglmffnhbegiaaDoor
open Go.RowKit

def dropE (h : List Cl) (i : Int) : Int := match getC h i with
  | some x => chE x 0
  | none => 1
def dropH (h : List Cl) (i : Int) : List Cl := if dropE h i = 0 then h.set i.toNat c0 else h
set_option maxRecDepth 100000 in
set_option maxHeartbeats 8000000 in
theorem drop1_any (x : Cl) (W : World) : Calls Tryd.prog 86 #[cV x] W fun e W' => e = .returned (.tuple #[cV c0, .int .i64 0]) ∧ Below W.heap.size W W' := by
  go_enter Tryd.func86, Tryd.ntmps86
  go_wp2_with fail
  exact bodyPost_ret (results_c1 (x := c0) (g1 := W.heap.size + 1) rfl rfl rfl (two_new W _ _).2) rfl ⟨rfl, below_two W _ _⟩
set_option maxRecDepth 100000 in
set_option maxHeartbeats 8000000 in
theorem drop_any {hb ab : Nat} {h : List Cl} (i : Int) {w : World} (H : CH w hb ab h) :
    Calls Tryd.prog 39 #[.pointer (some ⟨hb, 0, none⟩), .int .i64 i] w fun e w' => e = .returned (.int .i64 (dropE h i)) ∧ ExR hb ab (dropH h i) w w' := by
  have HA : Hid (Calls Tryd.prog 70 #[.pointer (some ⟨hb, 0, none⟩), .int .i64 i] w fun e w' => e = .returned (.bool (inB h.length i)) ∧ w' = w) := has_any i w H
  have HH : Hid (CH w hb ab h) := H
  cases hi : inB h.length i
  · have hg := getC_none hi
    have E : dropE h i = 1 := by unfold dropE; rw [hg]
    have E' : dropH h i = h := by unfold dropH; rw [E, if_neg (by decide)]
    rw [E, E']
    rw [hi] at HA
    clear H hg E E' hi
    go_enter Tryd.func39, Tryd.ntmps39
    go_wp2_with fail
    refine Calls.mono HA.out ?_
    rintro e w' ⟨rfl, hw'⟩
    rw [hw']
    clear hw'
    go_wp2_with fail
    go_ret
    exact ⟨rfl, .of HH.out (Below.refl _ _)⟩
  · obtain ⟨k, x, rfl, hx, hg, hk⟩ := getC_some hi
    rw [hi] at HA
    have hN : NextOk w 86 #[] x c0 0 := ⟨fun args W => by simp [go_sem], fun W _ => drop1_any x W⟩
    have HC : Hid _ := change_any H hx hN (fun _ => c0_ok)
    have E1 : dropE h k = chE x 0 := by unfold dropE; rw [hg]
    have E2 : dropH h k = if chE x 0 = 0 then h.set k (chY x c0) else h := by
      unfold dropH
      rw [E1, hk]
      unfold chY
      rw [ite_self]
    rw [E1, E2]
    generalize exA (chE x 0) x = X at HC
    generalize exA (chE x 0) (chY x c0) = Y at HC
    generalize hL : (if chE x 0 = 0 then h.set k (chY x c0) else h) = L at HC ⊢
    generalize chE x 0 = E at HC ⊢
    clear H hg hi hN E1 E2 hL
    go_enter Tryd.func39, Tryd.ntmps39
    go_wp2_with fail
    refine Calls.mono HA.out ?_
    rintro e w' ⟨rfl, hw'⟩
    rw [hw']
    clear hw'
    go_wp2_with fail
    refine Calls.mono HC.out ?_
    rintro e w4 ⟨rfl, hR⟩
    have HR : Hid (ExR hb ab L w w4) := hR
    clear hR
    go_wp2_with fail
    go_ret
    exact ⟨rfl, ExR.end2 HH.out (Below.refl _ _) HR.out _ _⟩
def swapE (h : List Cl) (i : Int) : Int := match getC h i with
  | some x => chE x 0
  | none => 1
def swapH (h : List Cl) (i a : Int) : List Cl := match getC h i with
  | some x => if chE x 0 = 0 then h.set i.toNat ⟨x.k, x.c, a, x.b⟩ else h
  | none => h
set_option maxRecDepth 100000 in
set_option maxHeartbeats 8000000 in
theorem swap1_any {b6 b7 : Nat} (a : Int) (x : Cl) {W : World} (h6 : W.cell? ⟨b6, 0, none⟩ = some (.int .i64 0)) (h7 : W.cell? ⟨b7, 0, none⟩ = some (.int .u64 a)) (l6 : b6 < W.heap.size) (l7 : b7 < W.heap.size) :
    Calls Tryd.prog 88 #[cV x, .pointer (some ⟨b7, 0, none⟩), .pointer (some ⟨b6, 0, none⟩)] W fun e W' => e = .returned (.tuple #[cV ⟨x.k, x.c, a, x.b⟩, .int .i64 0]) ∧ Below W.heap.size W W' := by
  have n6 : b6 ≠ W.heap.size := by omega
  have n7 : b7 ≠ W.heap.size := by omega
  have m6 : b6 ≠ W.heap.size + 1 := by omega
  have m7 : b7 ≠ W.heap.size + 1 := by omega
  go_enter Tryd.func88, Tryd.ntmps88
  go_wp2_with fail
  exact bodyPost_ret (results_c1 (x := ⟨x.k, x.c, a, x.b⟩) (g1 := W.heap.size + 1) rfl rfl rfl (two_new W _ _).2) rfl ⟨rfl, below_two W _ _⟩
def SwR (hb ab : Nat) (h : List Cl) (w : World) (e : Ending) (w' : World) : Prop := (∃ a b : Int, e = .returned (.tuple #[.int .u64 a, .int .i64 b])) ∧ ExR hb ab h w w'
set_option maxRecDepth 100000 in
set_option maxHeartbeats 8000000 in
theorem swap_any {hb ab : Nat} {h : List Cl} (i a : Int) {w : World} (H : CH w hb ab h) (ha : Rng a) :
    Calls Tryd.prog 41 #[.pointer (some ⟨hb, 0, none⟩), .int .i64 i, .int .i64 0, .int .u64 a] w fun e w' => SwR hb ab (swapH h i a) w e w' := by
  obtain ⟨w2, hw2⟩ : ∃ w2, w2 = (w.alloc (.cells #[.int .i64 0] 3)).alloc (.cells #[.int .u64 a] 29) := ⟨_, rfl⟩
  have t1 := two_new w (.cells #[.int .i64 0] 3) (.cells #[.int .u64 a] 29)
  have B2 := below_two w (.cells #[.int .i64 0] 3) (.cells #[.int .u64 a] 29)
  rw [← hw2] at t1 B2
  have s2 : w2.heap.size = w.heap.size + 1 + 1 := by rw [hw2, World.size_alloc, World.size_alloc]
  have H2 := H.below B2
  have HA : Hid (Calls Tryd.prog 87 #[.pointer (some ⟨hb, 0, none⟩), .int .i64 i, .int .i64 0] w2 fun e w' => e = .returned (.bool (inB h.length i && inB 2 0)) ∧ w' = w2) := hasField_any i 0 w2 H2
  rw [show inB 2 0 = true from rfl, Bool.and_true] at HA
  have HH : Hid (CH w hb ab h) := H
  have HB2 : Hid (Below w.heap.size w w2) := B2
  have HW2 : Hid (w2 = (w.alloc (.cells #[.int .i64 0] 3)).alloc (.cells #[.int .u64 a] 29)) := hw2
  have k7 : w2.cell? ⟨w.heap.size + 1, 0, none⟩ = some (.int .u64 a) := heap_cell t1.2 rfl
  have k6 : w2.cell? ⟨w.heap.size, 0, none⟩ = some (.int .i64 0) := heap_cell t1.1 rfl
  have l1 : w.heap.size < w2.heap.size := by omega
  cases hi : inB h.length i
  · have hg := getC_none hi
    have E : swapH h i a = h := by unfold swapH; rw [hg]
    rw [E]
    rw [hi] at HA
    clear hw2 t1 B2 H2 H hg E hi
    go_enter Tryd.func41, Tryd.ntmps41
    go_wp2_with fail
    rw [← HW2.out]
    go_wp2_with fail
    refine Calls.mono HA.out ?_
    rintro e w' ⟨rfl, hw'⟩
    rw [hw']
    clear hw'
    go_wp2_with fail
    go_ret2
    exact ⟨⟨_, _, rfl⟩, .of HH.out HB2.out⟩
  · obtain ⟨k, x, rfl, hx, hg, hk⟩ := getC_some hi
    rw [hi] at HA
    have hx0 : OkK x := H.ok x (List.mem_of_getElem? hx)
    have hN : NextOk w2 88 #[.pointer (some ⟨w.heap.size + 1, 0, none⟩), .pointer (some ⟨w.heap.size, 0, none⟩)] x ⟨x.k, x.c, a, x.b⟩ 0 := by
      refine ⟨fun args W => by simp [go_sem], fun W hW => ?_⟩
      exact swap1_any a x ((hW.cell (p := ⟨w.heap.size, 0, none⟩) (by show w.heap.size < _; omega)).trans k6) ((hW.cell (p := ⟨w.heap.size + 1, 0, none⟩) (by show w.heap.size + 1 < _; omega)).trans k7) (by have := hW.size; omega) (by have := hW.size; omega)
    have HC : Hid _ := change_any H2 hx hN (fun _ => ⟨hx0.k, hx0.c, ha, hx0.b⟩)
    have E2 : swapH h k a = if chE x 0 = 0 then h.set k (chY x ⟨x.k, x.c, a, x.b⟩) else h := by
      unfold swapH
      rw [hg]
      dsimp only
      rw [hk]
      unfold chY chE
      by_cases h0 : x.k = 0 <;> simp [h0]
    rw [E2]
    generalize exA (chE x 0) x = X at HC
    generalize exA (chE x 0) (chY x ⟨x.k, x.c, a, x.b⟩) = Y at HC
    generalize hL : (if chE x 0 = 0 then h.set k (chY x ⟨x.k, x.c, a, x.b⟩) else h) = L at HC ⊢
    generalize chE x 0 = E at HC
    clear hw2 t1 B2 H2 H hg hi hN E2 hL hx0
    go_enter Tryd.func41, Tryd.ntmps41
    go_wp2_with fail
    rw [← HW2.out]
    go_wp2_with fail
    refine Calls.mono HA.out ?_
    rintro e w' ⟨rfl, hw'⟩
    rw [hw']
    clear hw'
    go_wp2_with fail
    refine Calls.mono HC.out ?_
    rintro e w4 ⟨rfl, hR⟩
    have HR : Hid (ExR hb ab L w2 w4) := hR
    have n1 : w.heap.size ≠ ab := fun e => by have := HH.out.lt; omega
    have k9 : w4.cell? ⟨w.heap.size, 0, none⟩ = some (.int .i64 0) := by
      have := hR.2.1.2 _ n1 l1
      rw [World.cell?, this]
      exact k6
    have l9 : w.heap.size < w4.heap.size := by have := hR.2.1.1.size; omega
    have l10 : w.heap.size ≠ w4.heap.size := by omega
    have l11 : w.heap.size ≠ w4.heap.size + 1 := by omega
    clear hR
    go_wp2_with fail
    go_ret2
    exact ⟨⟨_, _, rfl⟩, ExR.end2 HH.out HB2.out HR.out _ _⟩
def ldW (h : List Cl) (i f : Int) : Int := match getC h i with
  | some x => if x.k = 0 then 0 else if f = 0 then x.a else x.b
  | none => 0
def ldE (h : List Cl) (i : Int) : Int := match getC h i with
  | some x => chE x 0
  | none => 1
end Go.Proofs.YtiglmffnhbegiaaDoor

/- Load, Head. -/
namespace Go.Proofs.YtiglmffnhbegiaaDoor
open Go.RowKit

def LdR (h : List Cl) (i f : Int) (w : World) (e : Ending) (w' : World) : Prop := e = .returned (.tuple #[.int .u64 (ldW h i f), .int .i64 (ldE h i)]) ∧ Below w.heap.size w w'
set_option maxRecDepth 100000 in
set_option maxHeartbeats 8000000 in
theorem load_any {hb ab : Nat} {h : List Cl} (i f : Int) {w : World} (H : CH w hb ab h) (hf : f = 0 ∨ f = 1) :
    Calls Tryd.prog 65 #[.pointer (some ⟨hb, 0, none⟩), .int .i64 i, .int .i64 f] w fun e w' => LdR h i f w e w' := by
  have HA : Hid (Calls Tryd.prog 87 #[.pointer (some ⟨hb, 0, none⟩), .int .i64 i, .int .i64 f] w fun e w' => e = .returned (.bool (inB h.length i && inB 2 f)) ∧ w' = w) := hasField_any i f w H
  rw [show inB 2 f = true by rcases hf with rfl | rfl <;> rfl, Bool.and_true] at HA
  cases hi : inB h.length i
  · have hg := getC_none hi
    have E : Hid (ldW h i f = 0 ∧ ldE h i = 1) := ⟨by unfold ldW; rw [hg], by unfold ldE; rw [hg]⟩
    unfold LdR
    rw [E.out.1, E.out.2]
    rw [hi] at HA
    clear H hg E hi
    go_enter Tryd.func65, Tryd.ntmps65
    go_wp2_with fail
    refine Calls.mono HA.out ?_
    rintro e w' ⟨rfl, hw'⟩
    rw [hw']
    clear hw'
    go_wp2_with fail
    go_ret2
    exact ⟨rfl, Below.refl _ _⟩
  · obtain ⟨k, x, rfl, hx, hg, hk⟩ := getC_some hi
    rw [hi] at HA
    obtain ⟨a1, a2, q, a3, a4⟩ := H.at hx
    have hkl : k < h.length := (List.getElem?_eq_some_iff.1 hx).1
    have i1 : (k : Int) < (h.length : Int) := by omega
    have HL : Hid (Calls Tryd.prog 75 #[.pointer (some ⟨ab, k, none⟩)] w fun e w' => e = .returned (.pointer (some ⟨q, 0, none⟩)) ∧ w' = w) := pload_any a3 a4
    have HF : Hid (Calls Tryd.prog 74 #[cV x] w fun e w' => e = .returned (.bool (x.k == 0)) ∧ Below w.heap.size w w') := isFree_any x w
    obtain ⟨d0, d1, d2, d3⟩ := a4.cell
    have lq := a4.lt
    have HQ : Hid (SB w q x) := a4
    clear H a2 a3 a4 hi hx
    by_cases h0 : x.k = 0
    · have z1 : (x.k == 0) = true := by simpa using h0
      rw [z1] at HF
      have E : Hid (ldW h k f = 0 ∧ ldE h k = 31) := ⟨by unfold ldW; rw [hg]; simp [h0], by unfold ldE chE; rw [hg]; simp [h0]⟩
      unfold LdR
      rw [E.out.1, E.out.2]
      clear h0 z1 E hg
      go_enter Tryd.func65, Tryd.ntmps65
      go_wp2_with fail
      refine Calls.mono HA.out ?_
      rintro e w' ⟨rfl, hw'⟩
      rw [hw']
      clear hw'
      go_wp2_with fail
      refine Calls.mono HL.out ?_
      rintro e w' ⟨rfl, hw'⟩
      rw [hw']
      clear hw'
      go_wp2_with fail
      refine Calls.mono HF.out ?_
      rintro e w4 ⟨rfl, hb4⟩
      have HB : Hid (Below w.heap.size w w4) := hb4
      clear hb4
      go_wp2_with fail
      go_ret2
      exact ⟨rfl, HB.out⟩
    · have z1 : (x.k == 0) = false := by simpa using h0
      rw [z1] at HF
      have E : Hid (ldW h k f = (if f = 0 then x.a else x.b) ∧ ldE h k = 0) := ⟨by unfold ldW; rw [hg]; simp [h0], by unfold ldE chE; rw [hg]; simp [h0]⟩
      unfold LdR
      rw [E.out.1, E.out.2]
      clear h0 z1 E hg
      rcases hf with rfl | rfl
      all_goals
        simp only [if_true, show ((1 : Int) = 0) = False by simp, if_false]
        go_enter Tryd.func65, Tryd.ntmps65
        go_wp2_with fail
        refine Calls.mono HA.out ?_
        rintro e w' ⟨rfl, hw'⟩
        rw [hw']
        clear hw'
        go_wp2_with fail
        refine Calls.mono HL.out ?_
        rintro e w' ⟨rfl, hw'⟩
        rw [hw']
        clear hw'
        go_wp2_with fail
        refine Calls.mono HF.out ?_
        rintro e w4 ⟨rfl, hb4⟩
        have HB : Hid (Below w.heap.size w w4) := hb4
        obtain ⟨c0', c1, c2, c3⟩ := SB.cell (w := w4) (HQ.out.kept (hb4.block _ lq))
        clear hb4
        go_wp2_with fail
        go_ret2
        exact ⟨rfl, HB.out⟩
def hdK (h : List Cl) (i : Int) : Int := match getC h i with
  | some x => x.k
  | none => 0
def hdC (h : List Cl) (i : Int) : Int := match getC h i with
  | some x => x.c
  | none => 0
def hdE (h : List Cl) (i : Int) : Int := match getC h i with
  | some _ => 0
  | none => 1
def HdR (h : List Cl) (i : Int) (w : World) (e : Ending) (w' : World) : Prop := e = .returned (.tuple #[.int .u8 (hdK h i), .int .u8 (hdC h i), .int .i64 (hdE h i)]) ∧ Below w.heap.size w w'
set_option maxRecDepth 100000 in
set_option maxHeartbeats 8000000 in
theorem head_any {hb ab : Nat} {h : List Cl} (i : Int) {w : World} (H : CH w hb ab h) :
    Calls Tryd.prog 22 #[.pointer (some ⟨hb, 0, none⟩), .int .i64 i] w fun e w' => HdR h i w e w' := by
  have HA : Hid (Calls Tryd.prog 70 #[.pointer (some ⟨hb, 0, none⟩), .int .i64 i] w fun e w' => e = .returned (.bool (inB h.length i)) ∧ w' = w) := has_any i w H
  cases hi : inB h.length i
  · have hg := getC_none hi
    have E : Hid (hdK h i = 0 ∧ hdC h i = 0 ∧ hdE h i = 1) := ⟨by unfold hdK; rw [hg], by unfold hdC; rw [hg], by unfold hdE; rw [hg]⟩
    unfold HdR
    rw [E.out.1, E.out.2.1, E.out.2.2]
    rw [hi] at HA
    clear H hg E hi
    go_enter Tryd.func22, Tryd.ntmps22
    go_wp2_with fail
    refine Calls.mono HA.out ?_
    rintro e w' ⟨rfl, hw'⟩
    rw [hw']
    clear hw'
    go_wp2_with fail
    exact bodyPost_ret (results_tmp3 rfl _ _ _) rfl ⟨rfl, Below.refl _ _⟩
  · obtain ⟨k, x, rfl, hx, hg, hk⟩ := getC_some hi
    rw [hi] at HA
    obtain ⟨a1, a2, q, a3, a4⟩ := H.at hx
    have hkl : k < h.length := (List.getElem?_eq_some_iff.1 hx).1
    have i1 : (k : Int) < (h.length : Int) := by omega
    have HL : Hid (Calls Tryd.prog 75 #[.pointer (some ⟨ab, k, none⟩)] w fun e w' => e = .returned (.pointer (some ⟨q, 0, none⟩)) ∧ w' = w) := pload_any a3 a4
    obtain ⟨d0, d1, d2, d3⟩ := a4.cell
    have lq := a4.lt
    have E : Hid (hdK h k = x.k ∧ hdC h k = x.c ∧ hdE h k = 0) := ⟨by unfold hdK; rw [hg], by unfold hdC; rw [hg], by unfold hdE; rw [hg]⟩
    unfold HdR
    rw [E.out.1, E.out.2.1, E.out.2.2]
    clear H a2 a3 a4 hi hx hg E
    go_enter Tryd.func22, Tryd.ntmps22
    go_wp2_with fail
    refine Calls.mono HA.out ?_
    rintro e w' ⟨rfl, hw'⟩
    rw [hw']
    clear hw'
    go_wp2_with fail
    refine Calls.mono HL.out ?_
    rintro e w' ⟨rfl, hw'⟩
    rw [hw']
    clear hw'
    go_wp2_with fail
    go_region
    go_wp2_with fail
    exact bodyPost_ret (results_tmp3 rfl _ _ _) rfl ⟨rfl, (Below.refl _ _).drew⟩
end Go.Proofs.YtiglmffnhbegiaaDoor
