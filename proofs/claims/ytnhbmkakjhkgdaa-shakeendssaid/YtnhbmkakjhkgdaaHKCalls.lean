/- The calls of a shake. -/
import Derived.Test.YtnhbmkakjhkgdaaHKSmall
namespace Go.Proofs.Ytnhbmkakjhkgdaa
open Go.RowKit

theorem least_step {f : Nat → Bool} {i k : Nat} (h : f i = false) : least f i (k + 1) = least f (i + 1) k := by
  show (if f i then i else least f (i + 1) k) = _
  rw [h]; rfl
theorem least_here {f : Nat → Bool} {i k : Nat} (h : f i = true) : least f i (k + 1) = i := by
  show (if f i then i else least f (i + 1) k) = _
  rw [h]; rfl
set_option maxRecDepth 100000 in
set_option maxHeartbeats 4000000 in
theorem left_any (b : Nat) (s : Sk) (w : World) (h : SL w b s) (h8 : s.n ≤ 8) : Calls Try.prog 13 #[.pointer (some ⟨b, 0, none⟩)] w fun e w' => e = .returned (.int .i64 (leftM s)) ∧ w' = w := by
  have HS : Hid (SL w b s) := h
  have c0 := h.c0
  have lb := h.lt
  clear h
  go_enter Try.func13, Try.ntmps13
  go_wp2
  go_loopw [9, 3] (fun i _ wr => ∃ j : Nat, i = .int .i64 j ∧ j ≤ s.n + 1 ∧ Hid (leftM s = least s.l j (s.n + 1 - j)) ∧ wr = w) (fun i _ _ => s.n + 1 - (intOf i).toNat)
  case atStart => exact ⟨0, rfl, Nat.zero_le _, rfl, rfl⟩
  case round =>
    obtain ⟨j, rfl, hj, HN, rfl⟩ := hrel
    by_cases hjl : j < s.n + 1
    · have k1 : (j : Int) < (s.n : Int) + 1 := by omega
      have k2 : (j : Int) < 9 := by omega
      have c1 := HS.out.cl (i := j) (by omega)
      obtain ⟨k, hk⟩ : ∃ k, s.n + 1 - j = k + 1 := ⟨s.n - j, by omega⟩
      cases hl : s.l j
      · rw [hl] at c1
        have HN1 : Hid (leftM s = least s.l (j + 1) (s.n + 1 - (j + 1))) := by
          have := HN.out
          rw [hk, least_step hl] at this
          rw [show s.n + 1 - (j + 1) = k by omega]; exact this
        clear hl hk
        go_wp2
        go_roundw
        case rel => exact ⟨j + 1, by go_num, by omega, HN1, trivial⟩
        case measure => simp [intOf]; omega
      · rw [hl] at c1
        have HN1 : Hid (leftM s = j) := by
          have := HN.out
          rw [hk, least_here hl] at this
          exact this
        clear hl hk
        go_wp2
        go_ret
        exact ⟨by rw [HN1.out]; rfl, rfl⟩
    · have k1 : ¬ (j : Int) < (s.n : Int) + 1 := by omega
      have HN1 : Hid (leftM s = 0) := by
        have := HN.out
        rw [show s.n + 1 - j = 0 by omega] at this
        exact this
      go_wp2
      go_ret
      exact ⟨by rw [HN1.out]; rfl, rfl⟩
set_option maxRecDepth 100000 in
set_option maxHeartbeats 4000000 in
theorem ask_any (b : Nat) (s : Sk) (t : Int) (w : World) (h : SL w b s) (h8 : s.n ≤ 8) : Calls Try.prog 16 #[.pointer (some ⟨b, 0, none⟩), .int .i64 t] w fun e w' => e = .returned (.int .i64 (askM s t).1) ∧ KR b (askM s t).2 w w' := by
  have HC : Hid _ := isLeft_any b s t w h h8
  have HS : Hid (SL w b s) := h
  have lb := h.lt
  cases ht : isL s t
  · rw [ht] at HC
    have e : askM s t = (140, s) := by unfold askM; rw [if_pos (.inl ht)]
    rw [e]
    dsimp only
    clear ht h e
    go_enter Try.func16, Try.ntmps16
    go_wp2_with fail
    refine Calls.mono HC.out ?_
    rintro e w1 ⟨rfl, rfl⟩
    clear HC
    go_wp2
    go_ret
    exact ⟨rfl, HS.out.same⟩
  · rw [ht] at HC
    obtain ⟨h1, h2⟩ := isT_iff.1 (Bool.and_eq_true_iff.1 ht).1
    obtain ⟨i, rfl⟩ := Int.eq_ofNat_of_zero_le (show 0 ≤ t by omega)
    have c1 := h.ca (i := i) (by omega)
    have k1 : (i : Int) < 9 := by omega
    have k0 : (0 : Int) ≤ (i : Int) := by omega
    cases ha : s.a i
    · have e : askM s (i : Int) = (0, ⟨s.n, s.c, s.l, put s.a i true⟩) := by
        unfold askM
        rw [if_neg (fun hh => by rcases hh with hh | hh; · rw [ht] at hh; cases hh
                                 · rw [Int.toNat_natCast, ha] at hh; cases hh)]
        rfl
      rw [e]
      dsimp only
      rw [ha] at c1
      have HE : Hid (KR b ⟨s.n, s.c, s.l, put s.a i true⟩ w (w.setCell ⟨b, 2 + i * 2 + 1, none⟩ (.bool true))) := h.same.set (h.setA (by omega) true)
      have fz := h.fz (2 + i * 2 + 1)
      clear ht h h1 h2 e ha
      go_enter Try.func16, Try.ntmps16
      go_wp2_with fail
      refine Calls.mono HC.out ?_
      rintro e w1 ⟨rfl, rfl⟩
      clear HC
      go_wp2
      go_ret
      exact ⟨rfl, HE.out⟩
    · have e : askM s (i : Int) = (140, s) := by unfold askM; rw [if_pos (.inr ha)]
      rw [e]
      dsimp only
      rw [ha] at c1
      clear ht h h1 h2 e ha
      go_enter Try.func16, Try.ntmps16
      go_wp2_with fail
      refine Calls.mono HC.out ?_
      rintro e w1 ⟨rfl, rfl⟩
      clear HC
      go_wp2
      go_ret
      exact ⟨rfl, HS.out.same⟩
set_option maxRecDepth 100000 in
set_option maxHeartbeats 4000000 in
theorem lay_any (b : Nat) (s : Sk) (t : Int) (w : World) (h : SL w b s) (h8 : s.n ≤ 8) : Calls Try.prog 17 #[.pointer (some ⟨b, 0, none⟩), .int .i64 t] w fun e w' => e = .returned (.int .i64 (layM s t).1) ∧ KR b (layM s t).2 w w' := by
  have HC : Hid _ := isLeft_any b s t w h h8
  have HS : Hid (SL w b s) := h
  have lb := h.lt
  cases ht : isL s t
  · rw [ht] at HC
    have e : layM s t = (140, s) := by unfold layM; rw [if_pos ht]
    rw [e]
    dsimp only
    clear ht h e
    go_enter Try.func17, Try.ntmps17
    go_wp2_with fail
    refine Calls.mono HC.out ?_
    rintro e w1 ⟨rfl, rfl⟩
    clear HC
    go_wp2
    go_ret
    exact ⟨rfl, HS.out.same⟩
  · rw [ht] at HC
    obtain ⟨h1, h2⟩ := isT_iff.1 (Bool.and_eq_true_iff.1 ht).1
    obtain ⟨i, rfl⟩ := Int.eq_ofNat_of_zero_le (show 0 ≤ t by omega)
    have c1 := h.cl (i := i) (by omega)
    have c2 := h.ca (i := i) (by omega)
    have k1 : (i : Int) < 9 := by omega
    have k0 : (0 : Int) ≤ (i : Int) := by omega
    have e : layM s (i : Int) = (0, ⟨s.n, s.c, put s.l i false, put s.a i false⟩) := by
      unfold layM
      rw [if_neg (by rw [ht]; decide)]
      rfl
    rw [e]
    dsimp only
    have HE : Hid (KR b ⟨s.n, s.c, put s.l i false, put s.a i false⟩ w ((w.setCell ⟨b, 2 + i * 2, none⟩ (.bool false)).setCell ⟨b, 2 + i * 2 + 1, none⟩ (.bool false))) := (h.same.set (h.setL (by omega) false)).set ((h.setL (by omega) false).setA (by omega) false)
    have fz := h.fz (2 + i * 2)
    have fz2 := h.fz (2 + i * 2 + 1)
    clear ht h h1 h2 e
    go_enter Try.func17, Try.ntmps17
    go_wp2_with fail
    refine Calls.mono HC.out ?_
    rintro e w1 ⟨rfl, rfl⟩
    clear HC
    go_wp2
    go_ret
    exact ⟨rfl, HE.out⟩
set_option maxRecDepth 100000 in
set_option maxHeartbeats 4000000 in
theorem end_any (b : Nat) (s : Sk) (w : World) (h : SL w b s) (h8 : s.n ≤ 8) : Calls Try.prog 15 #[.pointer (some ⟨b, 0, none⟩)] w fun e w' => e = .returned (.int .i64 (endM s).1) ∧ KR b (endM s).2 w w' := by
  have HC : Hid _ := left_any b s w h h8
  have HS : Hid (SL w b s) := h
  have lb := h.lt
  have c1 := h.c1
  cases hc : s.c
  · have e : endM s = (140, s) := by unfold endM; rw [if_pos (.inl hc)]
    rw [e]
    dsimp only
    rw [hc] at c1
    clear h e hc
    go_enter Try.func15, Try.ntmps15
    go_wp2
    go_ret
    exact ⟨rfl, HS.out.same⟩
  · rw [hc] at c1
    by_cases hl : leftM s = 0
    · have e : endM s = (0, ⟨s.n, false, s.l, s.a⟩) := by
        unfold endM
        rw [if_neg (fun hh => by rcases hh with hh | hh; · rw [hc] at hh; cases hh
                                 · exact hh hl)]
      rw [e]
      dsimp only
      have HE : Hid (KR b ⟨s.n, false, s.l, s.a⟩ w (w.setCell ⟨b, 1, none⟩ (.bool false))) := h.same.set (h.setC false)
      have fz := h.fz 1
      rw [hl] at HC
      clear h hc hl e
      go_enter Try.func15, Try.ntmps15
      go_wp2_with fail
      refine Calls.mono HC.out ?_
      rintro e w1 ⟨rfl, rfl⟩
      clear HC
      go_wp2
      go_ret
      exact ⟨rfl, HE.out⟩
    · have e : endM s = (140, s) := by unfold endM; rw [if_pos (.inr hl)]
      rw [e]
      dsimp only
      have k1 : ¬ (leftM s : Int) = 0 := by omega
      clear h hc e hl
      go_enter Try.func15, Try.ntmps15
      go_wp2_with fail
      refine Calls.mono HC.out ?_
      rintro e w1 ⟨rfl, rfl⟩
      clear HC
      go_wp2
      go_ret
      exact ⟨rfl, HS.out.same⟩
end Go.Proofs.Ytnhbmkakjhkgdaa
