/- Drop, Swap of a first word, Load, Head. -/
import Derived.Test.YtiglmffnhbegiaaDoorHMMake
namespace Go.Proofs.YtiglmffnhbegiaaDoor
open Go.RowKit

def dropE (h : List Cl) (i : Int) : Int := match getC h i with
  | some x => chE x 0
  | none => 1
def dropH (h : List Cl) (i : Int) : List Cl := if dropE h i = 0 then h.set i.toNat c0 else h
set_option maxRecDepth 100000 in
set_option maxHeartbeats 8000000 in
theorem drop1_any (x : Cl) (W : World) : Calls Tryd.prog 86 #[cV x] W fun e W' => e = .returned (.tuple #[cV c0, .int .i64 0]) ∧ Below W.heap.size W W' := by
  go_enter Tryd.func86, Tryd.ntmps86
  go_wp2_with fail
  exact bodyPost_ret (results_c1 (x := c0) (g1 := W.heap.size + 1) rfl rfl rfl (two_new W _ _).2) rfl ⟨rfl, below_two W _ _⟩
set_option maxRecDepth 100000 in
set_option maxHeartbeats 8000000 in
theorem drop_any {hb ab : Nat} {h : List Cl} (i : Int) {w : World} (H : CH w hb ab h) :
    Calls Tryd.prog 39 #[.pointer (some ⟨hb, 0, none⟩), .int .i64 i] w fun e w' => e = .returned (.int .i64 (dropE h i)) ∧ ExR hb ab (dropH h i) w w' := by
  have HA : Hid (Calls Tryd.prog 70 #[.pointer (some ⟨hb, 0, none⟩), .int .i64 i] w fun e w' => e = .returned (.bool (inB h.length i)) ∧ w' = w) := has_any i w H
  have HH : Hid (CH w hb ab h) := H
  cases hi : inB h.length i
  · have hg := getC_none hi
    have E : dropE h i = 1 := by unfold dropE; rw [hg]
    have E' : dropH h i = h := by unfold dropH; rw [E, if_neg (by decide)]
    rw [E, E']
    rw [hi] at HA
    clear H hg E E' hi
    go_enter Tryd.func39, Tryd.ntmps39
    go_wp2_with fail
    refine Calls.mono HA.out ?_
    rintro e w' ⟨rfl, hw'⟩
    rw [hw']
    clear hw'
    go_wp2_with fail
    go_ret
    exact ⟨rfl, .of HH.out (Below.refl _ _)⟩
  · obtain ⟨k, x, rfl, hx, hg, hk⟩ := getC_some hi
    rw [hi] at HA
    have hN : NextOk w 86 #[] x c0 0 := ⟨fun args W => by simp [go_sem], fun W _ => drop1_any x W⟩
    have HC : Hid _ := change_any H hx hN (fun _ => c0_ok)
    have E1 : dropE h k = chE x 0 := by unfold dropE; rw [hg]
    have E2 : dropH h k = if chE x 0 = 0 then h.set k (chY x c0) else h := by
      unfold dropH
      rw [E1, hk]
      unfold chY
      rw [ite_self]
    rw [E1, E2]
    generalize exA (chE x 0) x = X at HC
    generalize exA (chE x 0) (chY x c0) = Y at HC
    generalize hL : (if chE x 0 = 0 then h.set k (chY x c0) else h) = L at HC ⊢
    generalize chE x 0 = E at HC ⊢
    clear H hg hi hN E1 E2 hL
    go_enter Tryd.func39, Tryd.ntmps39
    go_wp2_with fail
    refine Calls.mono HA.out ?_
    rintro e w' ⟨rfl, hw'⟩
    rw [hw']
    clear hw'
    go_wp2_with fail
    refine Calls.mono HC.out ?_
    rintro e w4 ⟨rfl, hR⟩
    have HR : Hid (ExR hb ab L w w4) := hR
    clear hR
    go_wp2_with fail
    go_ret
    exact ⟨rfl, ExR.end2 HH.out (Below.refl _ _) HR.out _ _⟩
def swapE (h : List Cl) (i : Int) : Int := match getC h i with
  | some x => chE x 0
  | none => 1
def swapH (h : List Cl) (i a : Int) : List Cl := match getC h i with
  | some x => if chE x 0 = 0 then h.set i.toNat ⟨x.k, x.c, a, x.b⟩ else h
  | none => h
set_option maxRecDepth 100000 in
set_option maxHeartbeats 8000000 in
theorem swap1_any {b6 b7 : Nat} (a : Int) (x : Cl) {W : World} (h6 : W.cell? ⟨b6, 0, none⟩ = some (.int .i64 0)) (h7 : W.cell? ⟨b7, 0, none⟩ = some (.int .u64 a)) (l6 : b6 < W.heap.size) (l7 : b7 < W.heap.size) :
    Calls Tryd.prog 88 #[cV x, .pointer (some ⟨b7, 0, none⟩), .pointer (some ⟨b6, 0, none⟩)] W fun e W' => e = .returned (.tuple #[cV ⟨x.k, x.c, a, x.b⟩, .int .i64 0]) ∧ Below W.heap.size W W' := by
  have n6 : b6 ≠ W.heap.size := by omega
  have n7 : b7 ≠ W.heap.size := by omega
  have m6 : b6 ≠ W.heap.size + 1 := by omega
  have m7 : b7 ≠ W.heap.size + 1 := by omega
  go_enter Tryd.func88, Tryd.ntmps88
  go_wp2_with fail
  exact bodyPost_ret (results_c1 (x := ⟨x.k, x.c, a, x.b⟩) (g1 := W.heap.size + 1) rfl rfl rfl (two_new W _ _).2) rfl ⟨rfl, below_two W _ _⟩
def SwR (hb ab : Nat) (h : List Cl) (w : World) (e : Ending) (w' : World) : Prop := (∃ a b : Int, e = .returned (.tuple #[.int .u64 a, .int .i64 b])) ∧ ExR hb ab h w w'
set_option maxRecDepth 100000 in
set_option maxHeartbeats 8000000 in
theorem swap_any {hb ab : Nat} {h : List Cl} (i a : Int) {w : World} (H : CH w hb ab h) (ha : Rng a) :
    Calls Tryd.prog 41 #[.pointer (some ⟨hb, 0, none⟩), .int .i64 i, .int .i64 0, .int .u64 a] w fun e w' => SwR hb ab (swapH h i a) w e w' := by
  obtain ⟨w2, hw2⟩ : ∃ w2, w2 = (w.alloc (.cells #[.int .i64 0] 3)).alloc (.cells #[.int .u64 a] 29) := ⟨_, rfl⟩
  have t1 := two_new w (.cells #[.int .i64 0] 3) (.cells #[.int .u64 a] 29)
  have B2 := below_two w (.cells #[.int .i64 0] 3) (.cells #[.int .u64 a] 29)
  rw [← hw2] at t1 B2
  have s2 : w2.heap.size = w.heap.size + 1 + 1 := by rw [hw2, World.size_alloc, World.size_alloc]
  have H2 := H.below B2
  have HA : Hid (Calls Tryd.prog 87 #[.pointer (some ⟨hb, 0, none⟩), .int .i64 i, .int .i64 0] w2 fun e w' => e = .returned (.bool (inB h.length i && inB 2 0)) ∧ w' = w2) := hasField_any i 0 w2 H2
  rw [show inB 2 0 = true from rfl, Bool.and_true] at HA
  have HH : Hid (CH w hb ab h) := H
  have HB2 : Hid (Below w.heap.size w w2) := B2
  have HW2 : Hid (w2 = (w.alloc (.cells #[.int .i64 0] 3)).alloc (.cells #[.int .u64 a] 29)) := hw2
  have k7 : w2.cell? ⟨w.heap.size + 1, 0, none⟩ = some (.int .u64 a) := heap_cell t1.2 rfl
  have k6 : w2.cell? ⟨w.heap.size, 0, none⟩ = some (.int .i64 0) := heap_cell t1.1 rfl
  have l1 : w.heap.size < w2.heap.size := by omega
  cases hi : inB h.length i
  · have hg := getC_none hi
    have E : swapH h i a = h := by unfold swapH; rw [hg]
    rw [E]
    rw [hi] at HA
    clear hw2 t1 B2 H2 H hg E hi
    go_enter Tryd.func41, Tryd.ntmps41
    go_wp2_with fail
    rw [← HW2.out]
    go_wp2_with fail
    refine Calls.mono HA.out ?_
    rintro e w' ⟨rfl, hw'⟩
    rw [hw']
    clear hw'
    go_wp2_with fail
    go_ret2
    exact ⟨⟨_, _, rfl⟩, .of HH.out HB2.out⟩
  · obtain ⟨k, x, rfl, hx, hg, hk⟩ := getC_some hi
    rw [hi] at HA
    have hx0 : OkK x := H.ok x (List.mem_of_getElem? hx)
    have hN : NextOk w2 88 #[.pointer (some ⟨w.heap.size + 1, 0, none⟩), .pointer (some ⟨w.heap.size, 0, none⟩)] x ⟨x.k, x.c, a, x.b⟩ 0 := by
      refine ⟨fun args W => by simp [go_sem], fun W hW => ?_⟩
      exact swap1_any a x ((hW.cell (p := ⟨w.heap.size, 0, none⟩) (by show w.heap.size < _; omega)).trans k6) ((hW.cell (p := ⟨w.heap.size + 1, 0, none⟩) (by show w.heap.size + 1 < _; omega)).trans k7) (by have := hW.size; omega) (by have := hW.size; omega)
    have HC : Hid _ := change_any H2 hx hN (fun _ => ⟨hx0.k, hx0.c, ha, hx0.b⟩)
    have E2 : swapH h k a = if chE x 0 = 0 then h.set k (chY x ⟨x.k, x.c, a, x.b⟩) else h := by
      unfold swapH
      rw [hg]
      dsimp only
      rw [hk]
      unfold chY chE
      by_cases h0 : x.k = 0 <;> simp [h0]
    rw [E2]
    generalize exA (chE x 0) x = X at HC
    generalize exA (chE x 0) (chY x ⟨x.k, x.c, a, x.b⟩) = Y at HC
    generalize hL : (if chE x 0 = 0 then h.set k (chY x ⟨x.k, x.c, a, x.b⟩) else h) = L at HC ⊢
    generalize chE x 0 = E at HC
    clear hw2 t1 B2 H2 H hg hi hN E2 hL hx0
    go_enter Tryd.func41, Tryd.ntmps41
    go_wp2_with fail
    rw [← HW2.out]
    go_wp2_with fail
    refine Calls.mono HA.out ?_
    rintro e w' ⟨rfl, hw'⟩
    rw [hw']
    clear hw'
    go_wp2_with fail
    refine Calls.mono HC.out ?_
    rintro e w4 ⟨rfl, hR⟩
    have HR : Hid (ExR hb ab L w2 w4) := hR
    have n1 : w.heap.size ≠ ab := fun e => by have := HH.out.lt; omega
    have k9 : w4.cell? ⟨w.heap.size, 0, none⟩ = some (.int .i64 0) := by
      have := hR.2.1.2 _ n1 l1
      rw [World.cell?, this]
      exact k6
    have l9 : w.heap.size < w4.heap.size := by have := hR.2.1.1.size; omega
    have l10 : w.heap.size ≠ w4.heap.size := by omega
    have l11 : w.heap.size ≠ w4.heap.size + 1 := by omega
    clear hR
    go_wp2_with fail
    go_ret2
    exact ⟨⟨_, _, rfl⟩, ExR.end2 HH.out HB2.out HR.out _ _⟩
def ldW (h : List Cl) (i f : Int) : Int := match getC h i with
  | some x => if x.k = 0 then 0 else if f = 0 then x.a else x.b
  | none => 0
def ldE (h : List Cl) (i : Int) : Int := match getC h i with
  | some x => chE x 0
  | none => 1
end Go.Proofs.YtiglmffnhbegiaaDoor
