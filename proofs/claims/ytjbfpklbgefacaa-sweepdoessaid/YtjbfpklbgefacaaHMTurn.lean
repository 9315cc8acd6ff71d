/- Turn, Shade. -/
import Derived.Test.YtjbfpklbgefacaaHMChange
namespace Go.Proofs.Ytjbfpklbgefacaa
open Go.RowKit

def getC (h : List Cl) (i : Int) : Option Cl := if 0 ≤ i then h[i.toNat]? else none
theorem getC_none {h : List Cl} {i : Int} (hi : inB h.length i = false) : getC h i = none := by
  unfold getC
  unfold inB at hi
  split
  · rename_i h0
    simp [h0] at hi
    exact List.getElem?_eq_none (by omega)
  · rfl
theorem getC_some {h : List Cl} {i : Int} (hi : inB h.length i = true) : ∃ (k : Nat) (x : Cl), i = k ∧ h[k]? = some x ∧ getC h i = some x ∧ i.toNat = k := by
  obtain ⟨k, rfl, hk⟩ := inB_iff.1 hi
  refine ⟨k, h[k], rfl, List.getElem?_eq_getElem hk, ?_, by simp⟩
  unfold getC
  rw [if_pos (by omega)]
  simp [hk]
def turnB (h : List Cl) (i f t : Int) : Bool := match getC h i with
  | some x => decide (t ≤ 2) && (!decide (x.k = 0) && decide (x.c = f))
  | none => false
def turnH (h : List Cl) (i f t : Int) : List Cl := match getC h i with
  | some x => if turnB h i f t = true then h.set i.toNat ⟨x.k, t, x.a, x.b⟩ else h
  | none => h
theorem below_two (W : World) (o o' : Obj) : Below W.heap.size W ((W.alloc o).alloc o') := ((Below.refl _ W).alloc (Nat.le_refl _) _).alloc (by rw [World.size_alloc]; omega) _
def tuY (f t : Int) (x : Cl) : Cl := if x.c = f then ⟨x.k, t, x.a, x.b⟩ else c0
def tuE (f : Int) (x : Cl) : Int := if x.c = f then 0 else 30
set_option maxRecDepth 100000 in
set_option maxHeartbeats 8000000 in
theorem turn1_any {b6 b7 : Nat} (f t : Int) (x : Cl) {W : World} (h6 : W.cell? ⟨b6, 0, none⟩ = some (.int .u8 f)) (h7 : W.cell? ⟨b7, 0, none⟩ = some (.int .u8 t)) (l6 : b6 < W.heap.size) (l7 : b7 < W.heap.size) :
    Calls Try.prog 39 #[cV x, .pointer (some ⟨b6, 0, none⟩), .pointer (some ⟨b7, 0, none⟩)] W fun e W' => e = .returned (.tuple #[cV (tuY f t x), .int .i64 (tuE f x)]) ∧ Below W.heap.size W W' := by
  have n6 : b6 ≠ W.heap.size := by omega
  have n7 : b7 ≠ W.heap.size := by omega
  have m6 : b6 ≠ W.heap.size + 1 := by omega
  have m7 : b7 ≠ W.heap.size + 1 := by omega
  by_cases hf : x.c = f
  · have z1 : (x.c != f) = false := by simpa using hf
    have E : Hid (tuY f t x = ⟨x.k, t, x.a, x.b⟩ ∧ tuE f x = 0) := ⟨by unfold tuY; rw [if_pos hf], by unfold tuE; rw [if_pos hf]⟩
    rw [E.out.1, E.out.2]
    have HF : Hid (x.c = f) := hf
    clear hf E
    go_enter Try.func39, Try.ntmps39
    go_wp2_with fail
    exact bodyPost_ret (results_c1 (x := ⟨x.k, t, x.a, x.b⟩) (g1 := W.heap.size + 1) rfl rfl rfl (two_new W _ _).2) rfl ⟨rfl, below_two W _ _⟩
  · have z1 : (x.c != f) = true := by simpa using hf
    have E : Hid (tuY f t x = c0 ∧ tuE f x = 30) := ⟨by unfold tuY; rw [if_neg hf], by unfold tuE; rw [if_neg hf]⟩
    rw [E.out.1, E.out.2]
    clear hf E
    go_enter Try.func39, Try.ntmps39
    go_wp2_with fail
    exact bodyPost_ret (results_c1 (x := c0) (g1 := W.heap.size + 1) rfl rfl rfl (two_new W _ _).2) rfl ⟨rfl, below_two W _ _⟩
theorem ExR.end2 {hb ab : Nat} {h L : List Cl} {w w2 w4 : World} (H : CH w hb ab h) (B : Below w.heap.size w w2) (HR : ExR hb ab L w2 w4) (o o' : Obj) : ExR hb ab L w ((w4.alloc o).alloc o') :=
  ((ExR.of H B).trans HR).trans (.of HR.1 (below_two w4 o o'))
theorem turn_yes {h : List Cl} {i f t : Int} {k : Nat} {x : Cl} (hg : getC h i = some x) (hk : i.toNat = k) (ht : t ≤ 2) : turnB h i f t = decide (chE x (tuE f x) = 0) ∧ turnH h i f t = if chE x (tuE f x) = 0 then h.set k (chY x (tuY f t x)) else h := by
  unfold turnB turnH turnB chE chY tuE tuY
  rw [hg]
  dsimp only
  rw [hk]
  by_cases h0 : x.k = 0
  · simp [h0]
  · by_cases h1 : x.c = f
    · simp [h0, h1, ht]
    · simp [h0, h1]
set_option maxRecDepth 100000 in
set_option maxHeartbeats 8000000 in
theorem turn_any {hb ab : Nat} {h : List Cl} (i f t : Int) {w : World} (H : CH w hb ab h) (ht : 0 ≤ t ∧ t ≤ 255) :
    Calls Try.prog 27 #[.pointer (some ⟨hb, 0, none⟩), .int .i64 i, .int .u8 f, .int .u8 t] w fun e w' => e = .returned (.bool (turnB h i f t)) ∧ ExR hb ab (turnH h i f t) w w' := by
  obtain ⟨w2, hw2⟩ : ∃ w2, w2 = (w.alloc (.cells #[.int .u8 f] 35)).alloc (.cells #[.int .u8 t] 35) := ⟨_, rfl⟩
  have t1 := two_new w (.cells #[.int .u8 f] 35) (.cells #[.int .u8 t] 35)
  have B2 := below_two w (.cells #[.int .u8 f] 35) (.cells #[.int .u8 t] 35)
  rw [← hw2] at t1 B2
  have s2 : w2.heap.size = w.heap.size + 1 + 1 := by rw [hw2, World.size_alloc, World.size_alloc]
  have H2 := H.below B2
  have HA : Hid (Calls Try.prog 31 #[.pointer (some ⟨hb, 0, none⟩), .int .i64 i] w2 fun e w' => e = .returned (.bool (inB h.length i)) ∧ w' = w2) := has_any i w2 H2
  have HI : Hid (Calls Try.prog 32 #[.int .u8 t] w2 fun e w' => e = .returned (.bool (decide (t ≤ 2))) ∧ w' = w2) := isColour_any t w2
  have HH : Hid (CH w hb ab h) := H
  have HB2 : Hid (Below w.heap.size w w2) := B2
  have HW2 : Hid (w2 = (w.alloc (.cells #[.int .u8 f] 35)).alloc (.cells #[.int .u8 t] 35)) := hw2
  have k7 : w2.cell? ⟨w.heap.size + 1, 0, none⟩ = some (.int .u8 t) := heap_cell t1.2 rfl
  have k6 : w2.cell? ⟨w.heap.size, 0, none⟩ = some (.int .u8 f) := heap_cell t1.1 rfl
  have bad : turnB h i f t = false → turnH h i f t = h := fun hb => by
    unfold turnH
    split
    · rw [hb]; rfl
    · rfl
  cases hi : inB h.length i
  · have hg := getC_none hi
    have E : turnB h i f t = false := by unfold turnB; rw [hg]
    rw [E, bad E]
    rw [hi] at HA
    clear hw2 t1 B2 H2 H bad hg E hi
    go_enter Try.func27, Try.ntmps27
    go_wp2_with fail
    rw [← HW2.out]
    refine Calls.mono HA.out ?_
    rintro e w' ⟨rfl, hw'⟩
    rw [hw']
    clear hw'
    go_wp2_with fail
    go_ret
    exact ⟨rfl, .of HH.out HB2.out⟩
  · obtain ⟨k, x, rfl, hx, hg, hk⟩ := getC_some hi
    rw [hi] at HA
    by_cases h2 : t ≤ 2
    · have z1 : decide (t ≤ 2) = true := by simpa using h2
      rw [z1] at HI
      obtain ⟨E1, E2⟩ := turn_yes (f := f) hg hk h2
      rw [E1, E2]
      have hx0 : OkK x := H.ok x (List.mem_of_getElem? hx)
      have hN : NextOk w2 39 #[.pointer (some ⟨w.heap.size, 0, none⟩), .pointer (some ⟨w.heap.size + 1, 0, none⟩)] x (tuY f t x) (tuE f x) := by
        refine ⟨fun args W => by simp [go_sem], fun W hW => ?_⟩
        exact turn1_any f t x ((hW.cell (p := ⟨w.heap.size, 0, none⟩) (by show w.heap.size < _; omega)).trans k6) ((hW.cell (p := ⟨w.heap.size + 1, 0, none⟩) (by show w.heap.size + 1 < _; omega)).trans k7) (by have := hW.size; omega) (by have := hW.size; omega)
      have hy : tuE f x = 0 → OkK (tuY f t x) := fun e => by
        unfold tuE at e
        unfold tuY
        split at e
        · rename_i h0
          rw [if_pos h0]
          exact ⟨hx0.k, ht, hx0.a, hx0.b⟩
        · cases e
      have HC : Hid _ := change_any H2 hx hN hy
      generalize exA (chE x (tuE f x)) x = X at HC
      generalize exA (chE x (tuE f x)) (chY x (tuY f t x)) = Y at HC
      generalize hL : (if chE x (tuE f x) = 0 then h.set k (chY x (tuY f t x)) else h) = L at HC ⊢
      generalize chE x (tuE f x) = E at HC ⊢
      rw [show decide (E = 0) = (E == 0) by by_cases h : E = 0 <;> simp [h]]
      clear hw2 t1 B2 H2 H bad hg hi hN hy E1 E2 hx0 hL
      go_enter Try.func27, Try.ntmps27
      go_wp2_with fail
      rw [← HW2.out]
      refine Calls.mono HA.out ?_
      rintro e w' ⟨rfl, hw'⟩
      rw [hw']
      clear hw'
      go_wp2_with fail
      refine Calls.mono HI.out ?_
      rintro e w' ⟨rfl, hw'⟩
      rw [hw']
      clear hw'
      go_wp2_with fail
      refine Calls.mono HC.out ?_
      rintro e w4 ⟨rfl, hR⟩
      have HR : Hid (ExR hb ab L w2 w4) := hR
      clear hR
      go_wp2_with fail
      go_ret
      exact ⟨rfl, ExR.end2 HH.out HB2.out HR.out _ _⟩
    · have z1 : decide (t ≤ 2) = false := by simpa using h2
      have E : turnB h k f t = false := by unfold turnB; rw [hg]; simp [h2]
      rw [z1] at HI
      rw [E, bad E]
      clear hw2 t1 B2 H2 H bad hg E hi
      go_enter Try.func27, Try.ntmps27
      go_wp2_with fail
      rw [← HW2.out]
      refine Calls.mono HA.out ?_
      rintro e w' ⟨rfl, hw'⟩
      rw [hw']
      clear hw'
      go_wp2_with fail
      refine Calls.mono HI.out ?_
      rintro e w' ⟨rfl, hw'⟩
      rw [hw']
      clear hw'
      go_wp2_with fail
      go_ret
      exact ⟨rfl, .of HH.out HB2.out⟩
set_option maxRecDepth 100000 in
set_option maxHeartbeats 8000000 in
theorem shade_any {hb ab : Nat} {h : List Cl} (i : Int) {w : World} (H : CH w hb ab h) :
    Calls Try.prog 28 #[.pointer (some ⟨hb, 0, none⟩), .int .i64 i] w fun e w' => e = .returned (.bool (turnB h i 0 1)) ∧ ExR hb ab (turnH h i 0 1) w w' := by
  have HC : Hid (Calls Try.prog 27 #[.pointer (some ⟨hb, 0, none⟩), .int .i64 i, .int .u8 0, .int .u8 1] w fun e w' => e = .returned (.bool (turnB h i 0 1)) ∧ ExR hb ab (turnH h i 0 1) w w') := turn_any i 0 1 H (by decide)
  clear H
  go_enter Try.func28, Try.ntmps28
  go_wp2_with fail
  refine Calls.mono HC.out ?_
  rintro e w' ⟨rfl, hR⟩
  have HR : Hid (ExR hb ab (turnH h i 0 1) w w') := hR
  clear hR
  go_wp2_with fail
  go_ret
  exact ⟨rfl, HR.out⟩
end Go.Proofs.Ytjbfpklbgefacaa
