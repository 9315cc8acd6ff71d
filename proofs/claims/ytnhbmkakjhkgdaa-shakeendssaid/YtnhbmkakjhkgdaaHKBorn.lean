/- New, Born, Begin. -/
import Derived.Test.YtnhbmkakjhkgdaaHKCalls
namespace Go.Proofs.Ytnhbmkakjhkgdaa
open Go.RowKit

set_option maxRecDepth 100000 in
set_option maxHeartbeats 4000000 in
theorem new_any (w : World) : Calls Try.prog 7 #[] w fun e w' => e = .returned (.pointer (some ⟨w.heap.size, 0, none⟩)) ∧ SL w' w.heap.size sk0 ∧ Below w.heap.size w w' ∧ w'.heap.size = w.heap.size + 1 := by
  have HE : Hid (SL (w.alloc (.cells #[.int .i64 0, .bool false, .bool false, .bool false, .bool false, .bool false, .bool false, .bool false, .bool false, .bool false, .bool false, .bool false, .bool false, .bool false, .bool false, .bool false, .bool false, .bool false, .bool false, .bool false] 52)) w.heap.size sk0 ∧ Below w.heap.size w (w.alloc (.cells #[.int .i64 0, .bool false, .bool false, .bool false, .bool false, .bool false, .bool false, .bool false, .bool false, .bool false, .bool false, .bool false, .bool false, .bool false, .bool false, .bool false, .bool false, .bool false, .bool false, .bool false] 52)) ∧ (w.alloc (.cells #[.int .i64 0, .bool false, .bool false, .bool false, .bool false, .bool false, .bool false, .bool false, .bool false, .bool false, .bool false, .bool false, .bool false, .bool false, .bool false, .bool false, .bool false, .bool false, .bool false, .bool false] 52)).heap.size = w.heap.size + 1) := by
    refine ⟨⟨_, heap_alloc_new _ _, rfl, rfl, rfl, fun i hi => ?_⟩, (Below.refl _ w).alloc (Nat.le_refl _) _, World.size_alloc ..⟩
    match i, hi with
    | 0, _ | 1, _ | 2, _ | 3, _ | 4, _ | 5, _ | 6, _ | 7, _ | 8, _ => exact ⟨rfl, rfl⟩
  go_enter Try.func7, Try.ntmps7
  go_wp2
  go_ret
  exact ⟨rfl, HE.out⟩
theorem put2 {f : Nat → Bool} {v : Bool} : ∀ j n, j ≤ n → ∀ k, (if 1 ≤ k ∧ k ≤ j + 1 then v else f k) = put (fun k => if 1 ≤ k ∧ k ≤ j then v else f k) (j + 1) v k := fun j n _ k => by
  unfold put
  dsimp only
  by_cases e : k = j + 1
  · rw [if_pos e, if_pos (by omega)]
  · rw [if_neg e]
    by_cases e2 : 1 ≤ k ∧ k ≤ j
    · rw [if_pos e2, if_pos (by omega)]
    · rw [if_neg e2, if_neg (by omega)]
/-- A cycle has begun, as far as thread j. -/
def bg (s : Sk) (j : Nat) : Sk := ⟨s.n, true, fun k => if 1 ≤ k ∧ k ≤ j then true else s.l k, fun k => if 1 ≤ k ∧ k ≤ j then false else s.a k⟩
theorem bg_step (s : Sk) (j : Nat) : (⟨(bg s j).n, (bg s j).c, put (bg s j).l (j + 1) true, put (bg s j).a (j + 1) false⟩ : Sk) = bg s (j + 1) := by
  unfold bg
  simp only [Sk.mk.injEq, true_and]
  exact ⟨funext fun k => (put2 j j (Nat.le_refl _) k).symm, funext fun k => (put2 j j (Nat.le_refl _) k).symm⟩
theorem bg_zero (s : Sk) : bg s 0 = ⟨s.n, true, s.l, s.a⟩ := by
  unfold bg
  simp only [Sk.mk.injEq, true_and]
  exact ⟨funext fun k => if_neg (by omega), funext fun k => if_neg (by omega)⟩
set_option maxRecDepth 100000 in
set_option maxHeartbeats 4000000 in
theorem begin_any (b : Nat) (s : Sk) (w : World) (h : SL w b s) (h8 : s.n ≤ 8) : Calls Try.prog 12 #[.pointer (some ⟨b, 0, none⟩)] w fun e w' => e = .returned (.int .i64 (begM s).1) ∧ KR b (begM s).2 w w' := by
  have HS : Hid (SL w b s) := h
  have lb := h.lt
  have c1 := h.c1
  cases hc : s.c
  · have e : begM s = (0, bg s s.n) := by unfold begM; rw [if_neg (by rw [hc]; decide)]; rfl
    rw [e]
    dsimp only
    rw [hc] at c1
    have HK : Hid (KR b (bg s 0) w (w.setCell ⟨b, 1, none⟩ (.bool true))) := by
      show KR _ _ _ _
      rw [bg_zero]
      exact h.same.set (h.setC true)
    have fz := h.fz 1
    have c0 := (h.setC true).c0
    obtain ⟨W, hW⟩ : ∃ W, W = w.setCell ⟨b, 1, none⟩ (.bool true) := ⟨_, rfl⟩
    have lW : b < W.heap.size := by rw [hW, World.size_setCell]; exact lb
    go_enter Try.func12, Try.ntmps12
    go_upto_region 4 with fail
    rw [← hW] at HK c0 ⊢
    clear h hc e hW fz c1
    go_wp2
    go_loopw [15, 3] (fun i _ wr => ∃ j : Nat, i = .int .i64 j ∧ j ≤ s.n ∧ Hid (KR b (bg s j) w wr)) (fun i _ _ => s.n - (intOf i).toNat)
    case atStart => exact ⟨0, rfl, Nat.zero_le _, HK⟩
    case round =>
      obtain ⟨j, rfl, hj, HN⟩ := hrel
      by_cases hjl : j < s.n
      · have k1 : (j : Int) < (s.n : Int) := by omega
        have k2 : (j : Int) + 1 < 9 := by omega
        have k3 : ((j : Int) + 1).toNat = j + 1 := by omega
        have hs := HN.out.1
        have d1 := hs.cl (i := j + 1) (by omega)
        have d2 := hs.ca (i := j + 1) (by omega)
        have f1 := hs.fz (2 + (j + 1) * 2)
        have f2 := hs.fz (2 + (j + 1) * 2 + 1)
        have l2 := hs.lt
        have HE : Hid (KR b (bg s (j + 1)) w ((wr.setCell ⟨b, 2 + (j + 1) * 2, none⟩ (.bool true)).setCell ⟨b, 2 + (j + 1) * 2 + 1, none⟩ (.bool false))) := by
          show KR _ _ _ _
          rw [← bg_step]
          exact (HN.out.set (hs.setL (by omega) true)).set ((hs.setL (by omega) true).setA (by omega) false)
        clear hs HN
        go_wp2
        go_roundw
        case rel => exact ⟨j + 1, by go_num, by omega, HE⟩
        case measure => simp [intOf]; omega
      · have k1 : ¬ (j : Int) < (s.n : Int) := by omega
        obtain rfl : j = s.n := by omega
        go_wp2
        go_ret
        exact ⟨rfl, HN.out⟩
  · have e : begM s = (140, s) := by unfold begM; rw [if_pos hc]
    rw [e]
    dsimp only
    rw [hc] at c1
    clear h e hc
    go_enter Try.func12, Try.ntmps12
    go_wp2
    go_ret
    exact ⟨rfl, HS.out.same⟩
theorem KR.drew {w w' : World} {b : Nat} {s : Sk} (h : KR b s w w') : KR b s w w'.drew := ⟨h.1.kept rfl, h.2.1, h.2.2.1.drew, h.2.2.2⟩
set_option maxRecDepth 100000 in
set_option maxHeartbeats 4000000 in
theorem born_any (b : Nat) (s : Sk) (p : Int) (w : World) (h : SL w b s) (h8 : s.n ≤ 8) : Calls Try.prog 11 #[.pointer (some ⟨b, 0, none⟩), .int .i64 p] w fun e w' => e = .returned (.tuple #[.int .i64 (bornM s p).1.1, .int .i64 (bornM s p).1.2]) ∧ KR b (bornM s p).2 w w' := by
  have HS : Hid (SL w b s) := h
  have lb := h.lt
  have c0 := h.c0
  by_cases hn : s.n = 8
  · have e : bornM s p = ((0, 2), s) := by unfold bornM; rw [if_pos hn]
    rw [e]
    dsimp only
    rw [hn] at c0
    clear h e hn
    go_enter Try.func11, Try.ntmps11
    go_wp2
    go_ret2
    exact ⟨rfl, HS.out.same⟩
  · have k1 : ¬ (s.n : Int) = 8 := by omega
    have HC : Hid _ := isThread_any b s p w h
    by_cases hp : p ≠ 0 ∧ isT s p = false
    · have e : bornM s p = ((0, 140), s) := by unfold bornM; rw [if_neg hn, if_pos hp]
      rw [e]
      dsimp only
      obtain ⟨hp0, hpt⟩ := hp
      rw [hpt] at HC
      clear h e hn hpt
      go_enter Try.func11, Try.ntmps11
      go_wp2_with fail
      refine Calls.mono HC.out ?_
      rintro e w1 ⟨rfl, rfl⟩
      clear HC
      go_wp2
      go_ret2
      exact ⟨rfl, HS.out.same⟩
    · have e : bornM s p = ((((s.n + 1 : Nat) : Int), 0), ⟨s.n + 1, s.c, put s.l (s.n + 1) (s.l p.toNat), s.a⟩) := by unfold bornM; rw [if_neg hn, if_neg hp]
      rw [e]
      dsimp only
      obtain ⟨i, rfl⟩ : ∃ i : Nat, p = i := Int.eq_ofNat_of_zero_le (by
        by_cases e0 : p = 0
        · omega
        · have : isT s p = true := by
            cases e : isT s p
            · exact absurd ⟨e0, e⟩ hp
            · rfl
          have := isT_iff.1 this
          omega)
      have hi : i ≤ s.n := by
        by_cases e0 : (i : Int) = 0
        · omega
        · have : isT s i = true := by
            cases e : isT s i
            · exact absurd ⟨e0, e⟩ hp
            · rfl
          have := isT_iff.1 this
          omega
      have d0 := (h.setN (s.n + 1)).c0
      have hs1 := h.setN (s.n + 1)
      have d1 := hs1.cl (i := i) (by omega)
      have d2 := hs1.cl (i := s.n + 1) (by omega)
      have HE : Hid (KR b ⟨s.n + 1, s.c, put s.l (s.n + 1) (s.l i), s.a⟩ w ((w.setCell ⟨b, 0, none⟩ (.int .i64 ((s.n + 1 : Nat) : Int))).setCell ⟨b, 2 + (s.n + 1) * 2, none⟩ (.bool (s.l i)))) := (h.same.set hs1).set (hs1.setL (by omega) _)
      have d3 := (hs1.setL (i := s.n + 1) (by omega) (s.l i)).c0
      have f0 := h.fz 0
      have f1 := hs1.fz (2 + (s.n + 1) * 2)
      have l1 := hs1.lt
      have l2 := (hs1.setL (i := s.n + 1) (by omega) (s.l i)).lt
      obtain ⟨W, hW⟩ : ∃ W, W = w.setCell ⟨b, 0, none⟩ (.int .i64 ((s.n + 1 : Nat) : Int)) := ⟨_, rfl⟩
      have HW' : Hid (w.setCell ⟨b, 0, none⟩ (.int .i64 ((s.n : Int) + 1)) = W) := by show _ = _; rw [hW]; rfl
      rw [← hW] at d0 d1 d2 HE d3 f1 l1 l2
      have k2 : (i : Int) < 9 := by omega
      have k3 : ((s.n + 1 : Nat) : Int) < 9 := by omega
      have hmx : Try.prog.follows .mixedOrders = true := by kernel_rfl
      have c0' := c0
      have k6 : (0 : Int) ≤ (s.n : Int) + 1 := by omega
      clear h HS hs1 hn hp e hW
      have e1 : ((s.n + 1 : Nat) : Int) = (s.n : Int) + 1 := by omega
      have k5 : ((s.n : Int) + 1).toNat = s.n + 1 := by omega
      rw [e1] at d0 d3 k3
      by_cases e0 : (i : Int) = 0
      · go_enter Try.func11, Try.ntmps11
        go_upto_region 6 with fail
        rw [HW'.out]
        clear HW' c0 c0' f0 e0 HC
        go_region
        generalize hW2 : W.setCell ⟨b, 2 + (s.n + 1) * 2, none⟩ (.bool (s.l i)) = W2 at *
        clear d0 d1 f1 l1
        go_wp2
        go_ret2
        exact ⟨by first | rfl | (rw [e1]; rfl), HE.out.drew⟩
      · go_enter Try.func11, Try.ntmps11
        have ht : isT s i = true := isT_iff.2 ⟨by omega, by omega⟩
        rw [ht] at HC
        clear ht
        go_wp2_with fail
        refine Calls.mono HC.out ?_
        rintro e w1 ⟨rfl, rfl⟩
        clear HC
        go_upto_region 6 with fail
        rw [HW'.out]
        clear HW' c0 c0' f0 e0
        go_region
        generalize hW2 : W.setCell ⟨b, 2 + (s.n + 1) * 2, none⟩ (.bool (s.l i)) = W2 at *
        clear d0 d1 f1 l1
        go_wp2
        go_ret2
        exact ⟨by first | rfl | (rw [e1]; rfl), HE.out.drew⟩
end Go.Proofs.Ytnhbmkakjhkgdaa
