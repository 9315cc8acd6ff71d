/- The barrier's small functions. -/
import Derived.Test.YtigcpbndmiefhaaDoorHBBase
namespace Go.Proofs.YtigcpbndmiefhaaDoor
open Go.RowKit

abbrev cV (x : Cl) : Value := .agg #[.int .u8 x.k, .int .u8 x.c, .int .u64 x.a, .int .u64 x.b]
def onB (p : Int) : Bool := decide (p = 1) || decide (p = 2)
def birthC (p c s : Int) : Int := if onB p || (decide (p = 3) && decide (s ≤ c)) then 2 else 0
set_option maxRecDepth 100000 in
set_option maxHeartbeats 4000000 in
theorem isUsed_any (x : Cl) (w : World) : Calls Tryd.prog 70 #[cV x] w fun e w' => e = .returned (.bool (usedB x)) ∧ Below w.heap.size w w' := by
  have HB : Hid (Below w.heap.size w (w.alloc (.cells #[.int .u8 x.k, .int .u8 x.c, .int .u64 x.a, .int .u64 x.b] 58))) := (Below.refl _ w).alloc (Nat.le_refl _) _
  have HE : Hid (usedB x = (x.k != 0)) := by show _ = _; unfold usedB; by_cases h : x.k = 0 <;> simp [h]
  rw [HE.out]
  clear HE
  go_enter Tryd.func70, Tryd.ntmps70
  go_wp2
  go_ret
  exact ⟨rfl, HB.out⟩
set_option maxRecDepth 100000 in
set_option maxHeartbeats 4000000 in
theorem isOn_any (p : Int) (w : World) : Calls Tryd.prog 35 #[.int .u8 p] w fun e w' => e = .returned (.bool (onB p)) ∧ w' = w := by
  unfold onB
  by_cases h1 : p = 1
  · subst h1
    go_enter Tryd.func35, Tryd.ntmps35
    go_wp2
    go_ret
    exact ⟨rfl, rfl⟩
  · by_cases h2 : p = 2
    · subst h2
      go_enter Tryd.func35, Tryd.ntmps35
      go_wp2
      go_ret
      exact ⟨rfl, rfl⟩
    · have z1 : (p == 1) = false := by simpa using h1
      have z2 : (p == 2) = false := by simpa using h2
      have HE : Hid ((decide (p = 1) || decide (p = 2)) = false) := by show _ = _; simp [h1, h2]
      rw [HE.out]
      clear h1 h2 HE
      go_enter Tryd.func35, Tryd.ntmps35
      go_wp2
      go_ret
      exact ⟨rfl, rfl⟩
set_option maxRecDepth 100000 in
set_option maxHeartbeats 4000000 in
theorem birth_any (p c s : Int) (w : World) : Calls Tryd.prog 19 #[.int .u8 p, .int .i64 c, .int .i64 s] w fun e w' => e = .returned (.int .u8 (birthC p c s)) ∧ w' = w := by
  have HO : Hid _ := isOn_any p w
  unfold birthC
  cases ho : onB p
  · rw [ho] at HO
    by_cases h3 : p = 3
    · by_cases h4 : s ≤ c
      · have HE : Hid ((if (false || (decide (p = 3) && decide (s ≤ c))) = true then (2 : Int) else 0) = 2) := by show _ = _; simp [h3, h4]
        rw [HE.out]
        subst h3
        clear HE ho
        go_enter Tryd.func19, Tryd.ntmps19
        go_wp2_with fail
        refine Calls.mono HO.out ?_
        rintro e w1 ⟨rfl, hw1⟩
        rw [hw1]
        clear hw1 HO
        go_wp2
        all_goals
          go_ret
          exact ⟨rfl, rfl⟩
      · have HE : Hid ((if (false || (decide (p = 3) && decide (s ≤ c))) = true then (2 : Int) else 0) = 0) := by show _ = _; simp [h4]
        rw [HE.out]
        subst h3
        have z4 : ¬ c ≥ s := h4
        clear HE ho
        go_enter Tryd.func19, Tryd.ntmps19
        go_wp2_with fail
        refine Calls.mono HO.out ?_
        rintro e w1 ⟨rfl, hw1⟩
        rw [hw1]
        clear hw1 HO
        go_wp2
        all_goals
          go_ret
          exact ⟨rfl, rfl⟩
    · have HE : Hid ((if (false || (decide (p = 3) && decide (s ≤ c))) = true then (2 : Int) else 0) = 0) := by show _ = _; simp [h3]
      rw [HE.out]
      have z3 : (p == 3) = false := by simpa using h3
      clear HE ho
      go_enter Tryd.func19, Tryd.ntmps19
      go_wp2_with fail
      refine Calls.mono HO.out ?_
      rintro e w1 ⟨rfl, hw1⟩
      rw [hw1]
      clear hw1 HO
      go_wp2
      all_goals
        go_ret
        exact ⟨rfl, rfl⟩
  · rw [ho] at HO
    have HE : Hid ((if (true || (decide (p = 3) && decide (s ≤ c))) = true then (2 : Int) else 0) = 2) := by show _ = _; simp
    rw [HE.out]
    clear HE ho
    go_enter Tryd.func19, Tryd.ntmps19
    go_wp2_with fail
    refine Calls.mono HO.out ?_
    rintro e w1 ⟨rfl, hw1⟩
    rw [hw1]
    clear hw1 HO
    go_wp2
    all_goals
      go_ret
      exact ⟨rfl, rfl⟩
set_option maxRecDepth 100000 in
set_option maxHeartbeats 4000000 in
theorem isWhite_any (x : Cl) (w : World) : Calls Tryd.prog 68 #[cV x] w fun e w' => e = .returned (.bool (whiteB x)) ∧ Below w.heap.size w w' := by
  have a1 := (Below.refl _ w).alloc (Nat.le_refl w.heap.size) (.cells #[.int .u8 x.k, .int .u8 x.c, .int .u64 x.a, .int .u64 x.b] 58)
  have n1 := heap_alloc_new w (.cells #[.int .u8 x.k, .int .u8 x.c, .int .u64 x.a, .int .u64 x.b] 58)
  obtain ⟨w1, hw1⟩ : ∃ w1, w1 = w.alloc (.cells #[.int .u8 x.k, .int .u8 x.c, .int .u64 x.a, .int .u64 x.b] 58) := ⟨_, rfl⟩
  rw [← hw1] at a1 n1
  have c0 := heap_cell (j := 0) n1 rfl
  have c1 := heap_cell (j := 1) n1 rfl
  have c2 := heap_cell (j := 2) n1 rfl
  have c3 := heap_cell (j := 3) n1 rfl
  have l1 := heap_lt n1
  have HU : Hid _ := isUsed_any x w1
  have HB1 : Hid (Below w.heap.size w w1) := a1
  have HN1 : Hid (w1.heap[w.heap.size]? = some (.cells #[.int .u8 x.k, .int .u8 x.c, .int .u64 x.a, .int .u64 x.b] 58 (0, 0))) := n1
  unfold whiteB
  go_enter Tryd.func68, Tryd.ntmps68
  go_upto_region 1 with fail
  rw [← hw1]
  clear hw1 a1 n1
  go_wp2_with fail
  refine Calls.mono HU.out ?_
  rintro e w2 ⟨rfl, hb2⟩
  have d1 := (hb2.cell (p := ⟨w.heap.size, 1, none⟩) l1).trans c1
  have l2 : w.heap.size < w2.heap.size := Nat.lt_of_lt_of_le l1 hb2.size
  have HB2 : Hid (Below w.heap.size w w2) := HB1.out.trans (hb2.mono HB1.out.size)
  clear hb2 HU HB1 HN1 c0 c1 c2 c3 l1
  cases hu : usedB x
  · have HU0 : Hid (usedB x = false) := hu
    clear hu
    go_wp2
    go_ret
    exact ⟨ret_bool (by rw [HU0.out]; rfl), HB2.out⟩
  · have HU0 : Hid (usedB x = true) := hu
    clear hu
    go_wp2
    go_ret
    exact ⟨ret_bool (by rw [HU0.out]; by_cases h : x.c = 0 <;> simp [h]), HB2.out⟩
end Go.Proofs.YtigcpbndmiefhaaDoor
