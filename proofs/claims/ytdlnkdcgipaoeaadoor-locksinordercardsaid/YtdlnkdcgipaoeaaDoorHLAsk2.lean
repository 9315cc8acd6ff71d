/- What a book is asked, further. -/
import Derived.Test.YtdlnkdcgipaoeaaDoorHLAsk
namespace Go.Proofs.YtdlnkdcgipaoeaaDoor
open Go.RowKit

section
variable {w : World} {b : Nat} {pt pl pg : Sl} {T : List (Sl × Th)} {L : List (Sl × Lk)} {G : List Int}
def awX (T : List (Sl × Th)) (L : List (Sl × Lk)) (x : Int) : Int := awM (T.map (·.2)) (L.map (·.2)) x
def wtX (T : List (Sl × Th)) (L : List (Sl × Lk)) (x : Int) : Bool := decide (awX T L x ≠ 0)
set_option maxRecDepth 100000 in
set_option maxHeartbeats 4000000 in
theorem waits_any (h : BX w b pt pl pg T L G) (hS : ShT T L) (x : Int) :
    Calls Tryd.prog 16 #[.pointer (some ⟨b, 0, none⟩), .int .i64 x] w fun e w' => e = .returned (.bool (wtX T L x)) ∧ w' = w := by
  have HA : Hid (Calls Tryd.prog 65 #[.pointer (some ⟨b, 0, none⟩), .int .i64 x] w fun e w' => e = .returned (.int .i64 (awX T L x)) ∧ w' = w) := awaited_any h hS x
  unfold wtX
  generalize awX T L x = a at HA ⊢
  clear h hS
  by_cases ha : a = 0
  · subst ha
    go_enter Tryd.func16, Tryd.ntmps16
    go_wp2_with fail
    refine Calls.mono HA.out ?_
    rintro e w2 ⟨rfl, hw2⟩
    rw [hw2]
    clear hw2 HA
    go_wp2
    go_ret
    exact ⟨rfl, rfl⟩
  · rw [show decide (a ≠ 0) = true from decide_eq_true ha]
    go_enter Tryd.func16, Tryd.ntmps16
    go_wp2_with fail
    refine Calls.mono HA.out ?_
    rintro e w2 ⟨rfl, hw2⟩
    rw [hw2]
    clear hw2 HA
    go_wp2
    go_ret
    exact ⟨ret_bool (by simpa using ha), rfl⟩
/-- May it do something: the error. -/
def goX (T : List (Sl × Th)) (L : List (Sl × Lk)) (x : Int) : Int := if isB T.length x = true then (match T[(x - 1).toNat]? with
  | some t => if t.2.en || wtX T L x then 192 else 0
  | none => 190) else 190
theorem isB_at {n : Nat} {x : Int} (h : isB n x = true) : ∃ i : Nat, x = (i : Int) + 1 ∧ i < n := by
  simp [isB] at h
  exact ⟨(x - 1).toNat, by omega, by omega⟩
theorem isL_at {n : Nat} {x : Int} (h : isL n x = true) : ∃ i : Nat, x = (i : Int) ∧ i < n := by
  simp [isL] at h
  exact ⟨x.toNat, by omega, by omega⟩
set_option maxRecDepth 100000 in
set_option maxHeartbeats 4000000 in
theorem going_any (h : BX w b pt pl pg T L G) (hS : ShT T L) (x : Int) :
    Calls Tryd.prog 67 #[.pointer (some ⟨b, 0, none⟩), .int .i64 x] w fun e w' => e = .returned (.int .i64 (goX T L x)) ∧ w' = w := by
  have HI : Hid _ := isThread_any h x
  have HW : Hid _ := waits_any h hS x
  cases hB : isB T.length x
  · have HE : Hid (goX T L x = 190) := by show _ = _; unfold goX; rw [hB]; rfl
    rw [HE.out]
    rw [hB] at HI
    clear h hS HW HE hB
    go_enter Tryd.func67, Tryd.ntmps67
    go_wp2_with fail
    refine Calls.mono HI.out ?_
    rintro e w2 ⟨rfl, hw2⟩
    rw [hw2]
    clear hw2
    go_wp2
    go_ret
    exact ⟨rfl, rfl⟩
  · obtain ⟨i, rfl, hi⟩ := isB_at hB
    obtain ⟨t, ht⟩ : ∃ t, T[i]? = some t := ⟨_, List.getElem?_eq_getElem hi⟩
    obtain ⟨gt, hp, -, lg, cs, hcs, -, hc1, -⟩ := h.tf ht
    have HT : Hid _ := thread_any h hi hp lg
    have c1 := heap_cell hcs hc1
    have HE : goX T L ((i : Int) + 1) = if t.2.en || wtX T L ((i : Int) + 1) then 192 else 0 := by
      unfold goX
      rw [hB, if_pos rfl, show ((i : Int) + 1 - 1).toNat = i by omega, ht]
    rw [hB] at HI
    generalize wtX T L ((i : Int) + 1) = wt at HW HE
    rw [HE]
    generalize t.2.en = en at c1 ⊢
    clear h hS HE hB hcs hc1 hp
    cases en
    · cases wt
      all_goals
        go_enter Tryd.func67, Tryd.ntmps67
        go_wp2_with fail
        refine Calls.mono HI.out ?_
        rintro e w2 ⟨rfl, hw2⟩
        rw [hw2]
        clear hw2
        go_wp2_with fail
        refine Calls.mono HT.out ?_
        rintro e w2 ⟨rfl, hw2⟩
        rw [hw2]
        clear hw2
        go_wp2_with fail
        refine Calls.mono HW.out ?_
        rintro e w2 ⟨rfl, hw2⟩
        rw [hw2]
        clear hw2
        go_wp2
        go_ret
        exact ⟨rfl, rfl⟩
    · go_enter Tryd.func67, Tryd.ntmps67
      go_wp2_with fail
      refine Calls.mono HI.out ?_
      rintro e w2 ⟨rfl, hw2⟩
      rw [hw2]
      clear hw2
      go_wp2_with fail
      refine Calls.mono HT.out ?_
      rintro e w2 ⟨rfl, hw2⟩
      rw [hw2]
      clear hw2
      go_wp2
      go_ret
      exact ⟨rfl, rfl⟩
/-- Does one wait, over others, for oneself? -/
def ringX (T : List (Sl × Th)) (L : List (Sl × Lk)) (x : Int) : Nat → Int → Bool
  | 0, _ => false
  | n + 1, a => decide (awX T L a = x) || ringX T L x n (awX T L a)
set_option maxRecDepth 100000 in
set_option maxHeartbeats 4000000 in
theorem inRing_any (h : BX w b pt pl pg T L G) (hS : ShT T L) (x : Int) :
    Calls Tryd.prog 69 #[.pointer (some ⟨b, 0, none⟩), .int .i64 x] w fun e w' => e = .returned (.bool (ringX T L x T.length x)) ∧ w' = w := by
  have c0 := h.c0
  have lb := heap_lt h.obj
  have tn := h.tn
  have HA : Hid (∀ y, Calls Tryd.prog 65 #[.pointer (some ⟨b, 0, none⟩), .int .i64 y] w fun e w' => e = .returned (.int .i64 (awX T L y)) ∧ w' = w) := awaited_any h hS
  clear h hS
  go_enter Tryd.func69, Tryd.ntmps69
  go_wp2
  go_loopw [5, 12] (fun a i wr => ∃ (j : Nat) (y : Int), i = .int .i64 j ∧ a = .int .i64 y ∧ j ≤ T.length ∧ wr = w ∧ Hid (ringX T L x (T.length - j) y = ringX T L x T.length x)) (fun _ i _ => T.length - (intOf i).toNat)
  case atStart => exact ⟨0, x, rfl, rfl, Nat.zero_le _, rfl, rfl⟩
  case round =>
    obtain ⟨j, y, rfl, rfl, hj, rfl, HN⟩ := hrel
    by_cases hlt : j < T.length
    · have k1 : (j : Int) < (T.length : Int) := by omega
      have HN2 : Hid ((decide (awX T L y = x) || ringX T L x (T.length - (j + 1)) (awX T L y)) = ringX T L x T.length x) := by
        have := HN.out
        rw [show T.length - j = (T.length - (j + 1)) + 1 by omega] at this
        exact this
      have HAy : Hid _ := HA.out y
      clear HN
      generalize awX T L y = z at HAy HN2
      go_wp2_with fail
      refine Calls.mono HAy.out ?_
      rintro e w2 ⟨rfl, hw2⟩
      rw [hw2]
      clear hw2 HAy
      by_cases hz : z = x
      · have HR : Hid (ringX T L x T.length x = true) := by
          rw [← HN2.out, show decide (z = x) = true from decide_eq_true hz, Bool.true_or]
          exact rfl
        clear HN2 HA
        go_wp2
        go_ret
        refine ⟨?_, rfl⟩
        rw [HR.out]
        rfl
      · have HR : Hid (ringX T L x (T.length - (j + 1)) z = ringX T L x T.length x) := by
          show _ = _
          rw [← HN2.out, show decide (z = x) = false from decide_eq_false hz, Bool.false_or]
        clear HN2
        go_wp2
        go_roundw
        case rel => exact ⟨j + 1, z, by go_num, rfl, by omega, trivial, HR⟩
        case measure => simp [intOf]; omega
    · have k1 : ¬ (j : Int) < (T.length : Int) := by omega
      have HR : Hid (ringX T L x T.length x = false) := by
        show _ = _
        rw [← HN.out, show T.length - j = 0 by omega]
        rfl
      clear HN HA
      go_wp2
      go_ret
      refine ⟨?_, rfl⟩
      rw [HR.out]
      rfl
end
end Go.Proofs.YtdlnkdcgipaoeaaDoor
