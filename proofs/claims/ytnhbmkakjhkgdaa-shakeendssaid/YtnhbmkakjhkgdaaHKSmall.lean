/- Is there such a thread? Is it left, asked, scanned? -/
import Derived.Test.YtnhbmkakjhkgdaaHKMath
namespace Go.Proofs.Ytnhbmkakjhkgdaa
open Go.RowKit

set_option maxRecDepth 100000 in
set_option maxHeartbeats 4000000 in
theorem isThread_any (b : Nat) (s : Sk) (t : Int) (w : World) (h : SL w b s) : Calls Try.prog 27 #[.pointer (some ⟨b, 0, none⟩), .int .i64 t] w fun e w' => e = .returned (.bool (isT s t)) ∧ w' = w := by
  have c0 := h.c0
  have lb := h.lt
  clear h
  unfold isT
  by_cases h1 : 1 ≤ t
  · go_enter Try.func27, Try.ntmps27
    go_wp2
    go_ret
    exact ⟨by simp [h1], rfl⟩
  · go_enter Try.func27, Try.ntmps27
    go_wp2
    go_ret
    exact ⟨by rw [decide_eq_false (by omega : ¬ 1 ≤ t)]; rfl, rfl⟩
set_option maxRecDepth 100000 in
set_option maxHeartbeats 4000000 in
theorem isLeft_any (b : Nat) (s : Sk) (t : Int) (w : World) (h : SL w b s) (h8 : s.n ≤ 8) : Calls Try.prog 28 #[.pointer (some ⟨b, 0, none⟩), .int .i64 t] w fun e w' => e = .returned (.bool (isL s t)) ∧ w' = w := by
  have HC : Hid _ := isThread_any b s t w h
  have lb := h.lt
  unfold isL
  cases ht : isT s t
  · rw [ht] at HC
    clear ht h
    go_enter Try.func28, Try.ntmps28
    go_wp2_with fail
    refine Calls.mono HC.out ?_
    rintro e w1 ⟨rfl, rfl⟩
    clear HC
    go_wp2
    go_ret
    exact ⟨rfl, rfl⟩
  · rw [ht] at HC
    obtain ⟨h1, h2⟩ := isT_iff.1 ht
    obtain ⟨i, rfl⟩ := Int.eq_ofNat_of_zero_le (show 0 ≤ t by omega)
    have c1 := h.cl (i := i) (by omega)
    have k1 : (i : Int) < 9 := by omega
    have k0 : (0 : Int) ≤ (i : Int) := by omega
    clear ht h h1 h2
    go_enter Try.func28, Try.ntmps28
    go_wp2_with fail
    refine Calls.mono HC.out ?_
    rintro e w1 ⟨rfl, rfl⟩
    clear HC
    go_wp2
    go_ret
    exact ⟨rfl, rfl⟩
set_option maxRecDepth 100000 in
set_option maxHeartbeats 4000000 in
theorem asked_any (b : Nat) (s : Sk) (t : Int) (w : World) (h : SL w b s) (h8 : s.n ≤ 8) : Calls Try.prog 23 #[.pointer (some ⟨b, 0, none⟩), .int .i64 t] w fun e w' => e = .returned (.bool (askedB s t)) ∧ w' = w := by
  have HC : Hid _ := isThread_any b s t w h
  have lb := h.lt
  unfold askedB
  cases ht : isT s t
  · rw [ht] at HC
    clear ht h
    go_enter Try.func23, Try.ntmps23
    go_wp2_with fail
    refine Calls.mono HC.out ?_
    rintro e w1 ⟨rfl, rfl⟩
    clear HC
    go_wp2
    go_ret
    exact ⟨rfl, rfl⟩
  · rw [ht] at HC
    obtain ⟨h1, h2⟩ := isT_iff.1 ht
    obtain ⟨i, rfl⟩ := Int.eq_ofNat_of_zero_le (show 0 ≤ t by omega)
    have c1 := h.ca (i := i) (by omega)
    have k1 : (i : Int) < 9 := by omega
    have k0 : (0 : Int) ≤ (i : Int) := by omega
    clear ht h h1 h2
    go_enter Try.func23, Try.ntmps23
    go_wp2_with fail
    refine Calls.mono HC.out ?_
    rintro e w1 ⟨rfl, rfl⟩
    clear HC
    go_wp2
    go_ret
    exact ⟨rfl, rfl⟩
set_option maxRecDepth 100000 in
set_option maxHeartbeats 4000000 in
theorem scanned_any (b : Nat) (s : Sk) (t : Int) (w : World) (h : SL w b s) (h8 : s.n ≤ 8) : Calls Try.prog 14 #[.pointer (some ⟨b, 0, none⟩), .int .i64 t] w fun e w' => e = .returned (.bool (scanB s t)) ∧ w' = w := by
  have HC : Hid _ := isThread_any b s t w h
  have lb := h.lt
  unfold scanB
  cases ht : isT s t
  · rw [ht] at HC
    clear ht h
    go_enter Try.func14, Try.ntmps14
    go_wp2_with fail
    refine Calls.mono HC.out ?_
    rintro e w1 ⟨rfl, rfl⟩
    clear HC
    go_wp2
    go_ret
    exact ⟨rfl, rfl⟩
  · rw [ht] at HC
    obtain ⟨h1, h2⟩ := isT_iff.1 ht
    obtain ⟨i, rfl⟩ := Int.eq_ofNat_of_zero_le (show 0 ≤ t by omega)
    have c1 := h.cl (i := i) (by omega)
    have k1 : (i : Int) < 9 := by omega
    have k0 : (0 : Int) ≤ (i : Int) := by omega
    clear ht h h1 h2
    go_enter Try.func14, Try.ntmps14
    go_wp2_with fail
    refine Calls.mono HC.out ?_
    rintro e w1 ⟨rfl, rfl⟩
    clear HC
    go_wp2
    go_ret
    exact ⟨rfl, rfl⟩
end Go.Proofs.Ytnhbmkakjhkgdaa
