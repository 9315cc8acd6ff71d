/- ShakeDoes. -/
import Derived.Test.YtnhbmkakjhkgdaaHKDoes
namespace Go.Proofs.Ytnhbmkakjhkgdaa
open Go.RowKit

set_option maxRecDepth 100000 in
set_option maxHeartbeats 16000000 in
theorem shakeDoes_walk (l : List (Int × Int)) (ra : Option Addr) (ca : Nat) (w : World) (hA : AX w ra l) :
    Calls Try.prog 4 #[.slice ra l.length ca] w fun e w' => e = .returned (.bool true) ∧ Below w.heap.size w w' := by
  have HA : Hid (AX w ra l) := hA
  clear hA
  go_enter Try.func4, Try.ntmps4
  go_wp2_with fail
  refine Calls.mono (works_any w) ?_
  rintro e w1 ⟨rfl, hb⟩
  have HB1 : Hid (Below w.heap.size w w1) := hb
  clear hb
  go_wp2_with fail
  refine Calls.mono (new_any w1) ?_
  rintro e w2 ⟨rfl, hs2, hb2, hz2⟩
  have H2 : Hid (SL w2 w1.heap.size sk0 ∧ Below w1.heap.size w1 w2 ∧ w2.heap.size = w1.heap.size + 1) := ⟨hs2, hb2, hz2⟩
  clear hs2 hb2 hz2
  go_wp2_with fail
  refine Calls.mono (new_any w2) ?_
  rintro e w3 ⟨rfl, hs3, hb3, hz3⟩
  have H3 : Hid (SL w3 w2.heap.size sk0 ∧ Below w2.heap.size w2 w3 ∧ w3.heap.size = w2.heap.size + 1) := ⟨hs3, hb3, hz3⟩
  clear hs3 hb3 hz3
  go_upto_region 4 with fail
  have HT : Hid _ := tx_new HB1.out H2.out.1 H2.out.2.1 H2.out.2.2 H3.out.1 H3.out.2.1 H3.out.2.2
  clear HB1 H2 H3
  obtain ⟨W, hW⟩ : ∃ W, W = ((((w3.alloc (.cells #[.pointer (some ⟨w1.heap.size, 0, none⟩), .pointer (some ⟨w2.heap.size, 0, none⟩)] 26)).alloc (.cells #[.slice none 0 0, .bool false] 30)).alloc (.cells #[.slice none 0 0, .bool false] 30)).alloc (.cells #[.pointer (some ⟨w3.heap.size + 1, 0, none⟩), .pointer (some ⟨w3.heap.size + 1 + 1, 0, none⟩)] 31)) := ⟨_, rfl⟩
  rw [← hW] at HT ⊢
  clear hW
  generalize w1.heap.size = b0 at HT ⊢
  generalize w2.heap.size = b1 at HT ⊢
  generalize w3.heap.size + 1 + 1 + 1 = q5 at HT ⊢
  generalize w3.heap.size + 1 + 1 = r1 at HT ⊢
  generalize w3.heap.size + 1 = r0 at HT ⊢
  generalize w3.heap.size = q4 at HT ⊢
  have hrd : ((W.cell? ⟨q4, 0, none⟩ = some (.pointer (some ⟨b0, 0, none⟩)) ∧ W.cell? ⟨q4, 1, none⟩ = some (.pointer (some ⟨b1, 0, none⟩)))) ∧ q4 < W.heap.size := by
    obtain ⟨v0, v1, s0, s1, p0, p1, h1, h2, h3, h4, h5, h6⟩ := HT.out
    exact ⟨⟨heap_cell h4 rfl, heap_cell h4 rfl⟩, heap_lt h4⟩
  obtain ⟨⟨e1, e2⟩, lq⟩ := hrd
  have hmx : Try.prog.follows .mixedOrders = true := by kernel_rfl
  go_wp2
  clear e1 e2 lq
  go_loopw [6, 7, 8, 9] (fun i _ _ _ wr => ∃ j : Nat, i = .int .i64 j ∧ j ≤ l.length ∧ Hid (TX w wr b0 b1 r0 r1 q4 q5)) (fun i _ _ _ _ => l.length - (intOf i).toNat)
  case atStart => exact ⟨0, rfl, Nat.zero_le _, HT⟩
  case round =>
    clear HT
    obtain ⟨j, rfl, hj, HT⟩ := hrel
    by_cases hlt : j < l.length ∧ j < 100000
    · have k1 : (j : Int) < (l.length : Int) := by omega
      have k2 : (j : Int) < 100000 := by omega
      obtain ⟨x, hx⟩ : ∃ x, l[j]? = some x := ⟨_, List.getElem?_eq_getElem hlt.1⟩
      obtain ⟨bb, oo, q1, q2⟩ := HA.out.at
      have q1' := q1 (by omega)
      subst q1'
      obtain ⟨q3, c1, c2⟩ := q2 j x hx
      have HQ : Hid (bb < w.heap.size ∧ w.cell? ⟨bb, oo + j * 2, none⟩ = some (.int .i64 x.1) ∧ w.cell? ⟨bb, oo + j * 2 + 1, none⟩ = some (.int .i64 x.2)) := ⟨q3, c1, c2⟩
      clear q1 q2 q3 c1 c2 hx
      obtain ⟨⟨⟨e1, e2⟩, ⟨e3, e4⟩, e5, e6⟩, l1, l2, l3⟩ := tx_reads HT.out HQ.out.1 HQ.out.2.1 HQ.out.2.2
      by_cases hz : j % 4 = 3
      · have z3 : (j : Int) % 4 = 3 := by omega
        have z4 : (j : Int).tmod 4 = 3 := by rw [Int.tmod_eq_emod_of_nonneg (by omega)]; omega
        clear hz
        have HD : Hid (∀ W, TX w W b0 b1 r0 r1 q4 q5 → Calls Try.prog 8 #[.pointer (some ⟨b1, 0, none⟩), .pointer (some ⟨r1, 0, none⟩), .agg #[.int .i64 x.1, .int .i64 x.2]] W fun e w' => e = .returned (.bool true) ∧ TX w w' b0 b1 r0 r1 q4 q5) := fun W hW => tx_does1 hW x.1 x.2
        go_upto_region 12 with fail
        go_region_held3 (fun wx => ((wx.cell? ⟨q4, 0, none⟩ = some (.pointer (some ⟨b0, 0, none⟩)) ∧ wx.cell? ⟨q4, 1, none⟩ = some (.pointer (some ⟨b1, 0, none⟩))) ∧ (wx.cell? ⟨q5, 0, none⟩ = some (.pointer (some ⟨r0, 0, none⟩)) ∧ wx.cell? ⟨q5, 1, none⟩ = some (.pointer (some ⟨r1, 0, none⟩))) ∧ (wx.cell? ⟨bb, oo + j * 2, none⟩ = some (.int .i64 x.1) ∧ wx.cell? ⟨bb, oo + j * 2 + 1, none⟩ = some (.int .i64 x.2))) ∧ q4 < wx.heap.size ∧ q5 < wx.heap.size ∧ bb < wx.heap.size) (first | (go_keep; done) | exact tx_reads ht9 HQ.out.1 HQ.out.2.1 HQ.out.2.2)
          (first
          | (go_at_call 8; refine (HD.out _ HT.out.drew).mono ?_; rintro e w9 ⟨rfl, ht9⟩))
        have HT9 : Hid (TX w w9 b0 b1 r0 r1 q4 q5) := ht9
        have HK : Hid (∀ n, Calls Try.prog 9 #[.pointer (some ⟨b1, 0, none⟩), .pointer (some ⟨r1, 0, none⟩), .int .i64 x.2] (w9.drewN n) fun e w' => e = .returned (.bool true) ∧ w' = w9.drewN n) := fun n => tx_looks1 (ht9.drewN n) x.2
        obtain ⟨⟨⟨f1, f2⟩, ⟨f3, f4⟩, f5, f6⟩, m1, m2, m3⟩ := tx_reads ht9 HQ.out.1 HQ.out.2.1 HQ.out.2.2
        clear ht9 HD HT e1 e2 e3 e4 e5 e6 l1 l2 l3
        go_upto_region 13 with fail
        go_quiet (first | (go_at_call 9; exact Calls.quiet_of_same (HK.out _)))
        clear HK f1 f2 f3 f4 f5 f6 m1 m2 m3
        go_wp2
        go_roundw
        case rel => exact ⟨j + 1, by go_num, by omega, HT9.out.drewN _⟩
        case measure => simp [intOf]; omega
      · have z3 : ((j : Int) % 4 == 3) = false := by simp; omega
        have z4 : ((j : Int).tmod 4 == 3) = false := by rw [Int.tmod_eq_emod_of_nonneg (by omega)]; simp; omega
        clear hz
        have HD : Hid (∀ W, TX w W b0 b1 r0 r1 q4 q5 → Calls Try.prog 8 #[.pointer (some ⟨b0, 0, none⟩), .pointer (some ⟨r0, 0, none⟩), .agg #[.int .i64 x.1, .int .i64 x.2]] W fun e w' => e = .returned (.bool true) ∧ TX w w' b0 b1 r0 r1 q4 q5) := fun W hW => tx_does0 hW x.1 x.2
        go_upto_region 12 with fail
        go_region_held3 (fun wx => ((wx.cell? ⟨q4, 0, none⟩ = some (.pointer (some ⟨b0, 0, none⟩)) ∧ wx.cell? ⟨q4, 1, none⟩ = some (.pointer (some ⟨b1, 0, none⟩))) ∧ (wx.cell? ⟨q5, 0, none⟩ = some (.pointer (some ⟨r0, 0, none⟩)) ∧ wx.cell? ⟨q5, 1, none⟩ = some (.pointer (some ⟨r1, 0, none⟩))) ∧ (wx.cell? ⟨bb, oo + j * 2, none⟩ = some (.int .i64 x.1) ∧ wx.cell? ⟨bb, oo + j * 2 + 1, none⟩ = some (.int .i64 x.2))) ∧ q4 < wx.heap.size ∧ q5 < wx.heap.size ∧ bb < wx.heap.size) (first | (go_keep; done) | exact tx_reads ht9 HQ.out.1 HQ.out.2.1 HQ.out.2.2)
          (first
          | (go_at_call 8; refine (HD.out _ HT.out.drew).mono ?_; rintro e w9 ⟨rfl, ht9⟩))
        have HT9 : Hid (TX w w9 b0 b1 r0 r1 q4 q5) := ht9
        have HK : Hid (∀ n, Calls Try.prog 9 #[.pointer (some ⟨b0, 0, none⟩), .pointer (some ⟨r0, 0, none⟩), .int .i64 x.2] (w9.drewN n) fun e w' => e = .returned (.bool true) ∧ w' = w9.drewN n) := fun n => tx_looks0 (ht9.drewN n) x.2
        obtain ⟨⟨⟨f1, f2⟩, ⟨f3, f4⟩, f5, f6⟩, m1, m2, m3⟩ := tx_reads ht9 HQ.out.1 HQ.out.2.1 HQ.out.2.2
        clear ht9 HD HT e1 e2 e3 e4 e5 e6 l1 l2 l3
        go_upto_region 13 with fail
        go_quiet (first | (go_at_call 9; exact Calls.quiet_of_same (HK.out _)))
        clear HK f1 f2 f3 f4 f5 f6 m1 m2 m3
        go_wp2
        go_roundw
        case rel => exact ⟨j + 1, by go_num, by omega, HT9.out.drewN _⟩
        case measure => simp [intOf]; omega
    · have HE : Hid (Below w.heap.size w wr) := HT.out.below
      clear HT HA
      by_cases k1 : j < l.length
      · have k2 : (j : Int) < (l.length : Int) := by omega
        have k3 : ¬ (j : Int) < 100000 := by omega
        clear hlt
        go_wp2
        go_ret
        exact ⟨rfl, HE.out⟩
      · have k2 : ¬ (j : Int) < (l.length : Int) := by omega
        clear hlt
        go_wp2
        go_ret
        exact ⟨rfl, HE.out⟩
end Go.Proofs.Ytnhbmkakjhkgdaa
