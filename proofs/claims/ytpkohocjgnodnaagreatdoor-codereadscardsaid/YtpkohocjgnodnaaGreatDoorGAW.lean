/- The document's proc.; The document's words. -/
import Derived.Test.YtpkohocjgnodnaaGreatDoorGAF
import Derived.Test.YtpkohocjgnodnaaGreatDoorHZW1
/- The document's proc. -/
namespace Go.Proofs.YtpkohocjgnodnaaGreatDoor
open Go.RowKit

set_option maxRecDepth 100000 in
set_option maxHeartbeats 8000000 in
theorem dProc_any (nc np ng : Nat) (p : Prc) (r1 r2 r3 ra : Option Addr) (c1 c2 c3 cp : Nat) (w : World) (hl : nc ≤ maxLen ∧ np ≤ maxLen ∧ ng ≤ maxLen ∧ p.code.length ≤ maxLen) (hR : NR w ra p.code) :
    Calls Tryz.prog 24 #[.agg #[.slice r1 nc c1, .slice r2 np c2, .slice r3 ng c3], .agg #[.int .i64 p.params, .slice ra p.code.length cp]] w fun e w' => e = .returned (epV (chkP nc ng np p)) ∧ Below w.heap.size w w' := by
  obtain ⟨pm, code⟩ := p
  obtain ⟨n1, n2, n3, n4⟩ := hl
  have Hl : Hid (nc ≤ maxLen ∧ np ≤ maxLen ∧ ng ≤ maxLen ∧ code.length ≤ maxLen) := ⟨n1, n2, n3, n4⟩
  simp only at n4 hR ⊢
  unfold maxLen at n1 n2 n3 n4
  have hal : Below w.heap.size w ((w.alloc (.cells #[.slice r1 nc c1, .slice r2 np c2, .slice r3 ng c3] 26)).alloc (.cells #[.int .i64 pm, .slice ra code.length cp] 64)) := ((Below.refl _ w).alloc (Nat.le_refl _) _).alloc (by simp) _
  have HB : Hid _ := hal
  by_cases h1 : 4096 < code.length
  · have HV : Hid (chkP nc ng np ⟨pm, code⟩ = (2, 0)) := by show _ = _; unfold chkP; rw [if_pos h1]
    have a1 : decide ((code.length : Int) > 4096) = true := decide_eq_true (by omega)
    clear hal hR h1
    go_enter Tryz.func24, Tryz.ntmps24
    go_wp2
    go_ret2
    exact ⟨by rw [HV.out]; rfl, HB.out⟩
  have a1 : decide ((code.length : Int) > 4096) = false := decide_eq_false (by omega)
  by_cases h2 : pm < 0 ∨ 256 < pm ∨ code.length = 0
  · have HV : Hid (chkP nc ng np ⟨pm, code⟩ = (80, 0)) := by show _ = _; unfold chkP; rw [if_neg h1, if_pos h2]
    have hm' : decide (pm < 0) = true ∨ (decide (pm < 0) = false ∧ decide (pm > 256) = true) ∨ (decide (pm < 0) = false ∧ decide (pm > 256) = false ∧ ((code.length : Int) == 0) = true) := by
      by_cases q1 : pm < 0
      · exact .inl (decide_eq_true q1)
      · by_cases q2 : 256 < pm
        · exact .inr (.inl ⟨decide_eq_false q1, decide_eq_true q2⟩)
        · rcases h2 with h | h | h
          · exact absurd h q1
          · exact absurd h q2
          · exact .inr (.inr ⟨decide_eq_false q1, decide_eq_false q2, by simp [h]⟩)
    clear hal hR h2
    rcases hm' with b1 | ⟨b1, b2⟩ | ⟨b1, b2, b3⟩
    all_goals
      go_enter Tryz.func24, Tryz.ntmps24
      go_wp2
      go_ret2
      exact ⟨by rw [HV.out]; rfl, HB.out⟩
  have b1 : decide (pm < 0) = false := decide_eq_false (fun h => h2 (.inl h))
  have b2 : decide (pm > 256) = false := decide_eq_false (fun h => h2 (.inr (.inl h)))
  have hn0 : 0 < code.length := by omega
  have hlc : code.length ≤ 4096 := by omega
  have b3 : ((code.length : Int) == 0) = false := by simp; intro h; rw [h] at hn0; simp at hn0
  have HV : Hid (chkP nc ng np ⟨pm, code⟩ = match badI nc ng np code.length code 0 with | some j => (80, j) | none => chkEnd code) := by show _ = _; unfold chkP; rw [if_neg h1, if_neg h2]; rfl
  obtain ⟨b, o, q1, q2⟩ := NR.at hR
  have hra := q1 (by omega)
  subst hra
  have Q2 : Hid (∀ j x, code[j]? = some x → b < w.heap.size ∧ w.cell? ⟨b, o + j * 2, none⟩ = some (.int .u8 x.op) ∧ w.cell? ⟨b, o + j * 2 + 1, none⟩ = some (.int .i64 x.a)) := q2
  have HR : Hid (NR w (some ⟨b, o, none⟩) code) := hR
  have HQ0 : Hid (((w.alloc (.cells #[.slice r1 nc c1, .slice r2 np c2, .slice r3 ng c3] 26)).alloc (.cells #[.int .i64 pm, .slice (some ⟨b, o, none⟩) code.length cp] 64)).heap[w.heap.size]? = some (.cells #[.slice r1 nc c1, .slice r2 np c2, .slice r3 ng c3] 26 (0, 0))) := (Below.heap_alloc _ _ _ (by simp)).trans (heap_alloc_new _ _)
  have HQ1 : Hid (((w.alloc (.cells #[.slice r1 nc c1, .slice r2 np c2, .slice r3 ng c3] 26)).alloc (.cells #[.int .i64 pm, .slice (some ⟨b, o, none⟩) code.length cp] 64)).heap[w.heap.size + 1]? = some (.cells #[.int .i64 pm, .slice (some ⟨b, o, none⟩) code.length cp] 64 (0, 0))) := by
    have := heap_alloc_new (w.alloc (.cells #[.slice r1 nc c1, .slice r2 np c2, .slice r3 ng c3] 26)) (.cells #[.int .i64 pm, .slice (some ⟨b, o, none⟩) code.length cp] 64)
    rwa [World.size_alloc] at this
  have HS : Hid (((w.alloc (.cells #[.slice r1 nc c1, .slice r2 np c2, .slice r3 ng c3] 26)).alloc (.cells #[.int .i64 pm, .slice (some ⟨b, o, none⟩) code.length cp] 64)).heap.size = w.heap.size + 2) := by show _ = _; rw [World.size_alloc, World.size_alloc]
  clear hal hR h1 h2 q1 q2
  go_enter Tryz.func24, Tryz.ntmps24
  go_wp2
  go_loopw [6, 7] (fun i _ wr => ∃ j : Nat, i = .int .i64 j ∧ j ≤ code.length ∧ Hid (badI nc ng np code.length code 0 = badI nc ng np code.length (code.drop j) j) ∧ Hid (Below (w.heap.size + 2) ((w.alloc (.cells #[.slice r1 nc c1, .slice r2 np c2, .slice r3 ng c3] 26)).alloc (.cells #[.int .i64 pm, .slice (some ⟨b, o, none⟩) code.length cp] 64)) wr)) (fun i _ _ => code.length - (intOf i).toNat)
  case atStart => exact ⟨0, rfl, Nat.zero_le _, by show _ = _; simp, Below.refl _ _⟩
  case round =>
    obtain ⟨j, rfl, hj, HN, HW⟩ := hrel
    have HBr : Hid (Below w.heap.size w wr) := HB.out.trans (HW.out.mono (by omega))
    have hsz : w.heap.size + 2 ≤ wr.heap.size := by have := HW.out.size; rw [HS.out] at this; exact this
    have e0 : wr.heap[w.heap.size]? = some (.cells #[.slice r1 nc c1, .slice r2 np c2, .slice r3 ng c3] 26 (0, 0)) := (HW.out.block _ (by omega)).trans HQ0.out
    have e1 : wr.heap[w.heap.size + 1]? = some (.cells #[.int .i64 pm, .slice (some ⟨b, o, none⟩) code.length cp] 64 (0, 0)) := (HW.out.block _ (by omega)).trans HQ1.out
    have u0 : wr.cell? ⟨w.heap.size, 0, none⟩ = some (.slice r1 nc c1) := by simp [World.cell?, e0]
    have u1 : wr.cell? ⟨w.heap.size, 1, none⟩ = some (.slice r2 np c2) := by simp [World.cell?, e0]
    have u2 : wr.cell? ⟨w.heap.size, 2, none⟩ = some (.slice r3 ng c3) := by simp [World.cell?, e0]
    have v0 : wr.cell? ⟨w.heap.size + 1, 0, none⟩ = some (.int .i64 pm) := by simp [World.cell?, e1]
    have v1 : wr.cell? ⟨w.heap.size + 1, 1, none⟩ = some (.slice (some ⟨b, o, none⟩) code.length cp) := by simp [World.cell?, e1]
    have s0 : w.heap.size < wr.heap.size := by omega
    have s1 : w.heap.size + 1 < wr.heap.size := by omega
    clear e0 e1
    by_cases hlt : j < code.length
    · have i1 : (j : Int) < (code.length : Int) := by omega
      have hx : code[j]? = some code[j] := List.getElem?_eq_getElem hlt
      have hdr : code.drop j = code[j] :: code.drop (j + 1) := List.drop_eq_getElem_cons hlt
      generalize code[j] = x at hx hdr
      obtain ⟨k0, k1, k2⟩ := Q2.out j x hx
      have f1 : wr.cell? ⟨b, o + j * 2, none⟩ = some (.int .u8 x.op) := (HBr.out.cell (p := ⟨b, o + j * 2, none⟩) k0).trans k1
      have f2 : wr.cell? ⟨b, o + j * 2 + 1, none⟩ = some (.int .i64 x.a) := (HBr.out.cell (p := ⟨b, o + j * 2 + 1, none⟩) k0).trans k2
      have f0 : b < wr.heap.size := Nat.lt_of_lt_of_le k0 HBr.out.size
      have HN2 : Hid (badI nc ng np code.length code 0 = if isOpB x.op && fitsB nc ng np code.length x then badI nc ng np code.length (code.drop (j + 1)) (j + 1) else some j) := by show _ = _; rw [HN.out, hdr]; rfl
      have s0' : w.heap.size < wr.heap.size + 1 := by omega
      have s1' : w.heap.size + 1 < wr.heap.size + 1 := by omega
      have HWa : Hid (Below (w.heap.size + 2) ((w.alloc (.cells #[.slice r1 nc c1, .slice r2 np c2, .slice r3 ng c3] 26)).alloc (.cells #[.int .i64 pm, .slice (some ⟨b, o, none⟩) code.length cp] 64)) (wr.alloc (.cells #[.int .u8 x.op, .int .i64 x.a] 79))) := HW.out.alloc hsz _
      have HBa : Hid (Below w.heap.size w (wr.alloc (.cells #[.int .u8 x.op, .int .i64 x.a] 79))) := HBr.out.alloc (by omega) _
      clear hx hdr k0 k1 k2
      by_cases ho1 : x.op < 1
      · have z1 : decide (x.op < 1) = true := decide_eq_true ho1
        have HN3 : Hid (chkP nc ng np ⟨pm, code⟩ = (80, j)) := by
          have hop : isOpB x.op = false := by unfold isOpB; exact decide_eq_false (by omega)
          show _ = _; rw [HV.out, HN2.out, hop]; rfl
        clear ho1
        go_wp2
        go_ret2
        exact ⟨by rw [HN3.out]; rfl, HBa.out⟩
      · have z1 : decide (x.op < 1) = false := decide_eq_false ho1
        by_cases ho2 : x.op > 18
        · have z2 : decide (x.op > 18) = true := decide_eq_true ho2
          have HN3 : Hid (chkP nc ng np ⟨pm, code⟩ = (80, j)) := by
            have hop : isOpB x.op = false := by unfold isOpB; exact decide_eq_false (by omega)
            show _ = _; rw [HV.out, HN2.out, hop]; rfl
          clear ho1 ho2
          go_wp2
          go_ret2
          exact ⟨by rw [HN3.out]; rfl, HBa.out⟩
        · have z2 : decide (x.op > 18) = false := decide_eq_false ho2
          have HO : Hid (isOpB x.op = true) := by show _ = _; unfold isOpB; exact decide_eq_true (by omega)
          have HAr : Hid (∀ W, Calls Tryz.prog 75 #[.agg #[.slice r1 nc c1, .slice r2 np c2, .slice r3 ng c3], .agg #[.int .i64 pm, .slice (some ⟨b, o, none⟩) code.length cp], .agg #[.int .u8 x.op, .int .i64 x.a]] W fun e w' => e = .returned (.bool (fitsB nc ng np code.length x)) ∧ Below W.heap.size W w') := fun W => dArg_any nc np ng code.length pm x.op x.a r1 r2 r3 (some ⟨b, o, none⟩) c1 c2 c3 cp W (by omega) (by omega)
          clear ho1 ho2
          go_wp2_with fail
          refine (HAr.out _).mono ?_
          rintro e w4 ⟨rfl, hb4⟩
          have HW4 : Hid (Below (w.heap.size + 2) ((w.alloc (.cells #[.slice r1 nc c1, .slice r2 np c2, .slice r3 ng c3] 26)).alloc (.cells #[.int .i64 pm, .slice (some ⟨b, o, none⟩) code.length cp] 64)) w4) := HWa.out.trans (hb4.mono (by rw [World.size_alloc]; omega))
          have HB4 : Hid (Below w.heap.size w w4) := HBa.out.trans (hb4.mono HBa.out.size)
          clear hb4 u0 u1 u2 v0 v1 f1 f2 HAr
          cases hft : fitsB nc ng np code.length x
          · have HN3 : Hid (chkP nc ng np ⟨pm, code⟩ = (80, j)) := by show _ = _; rw [HV.out, HN2.out, HO.out, hft]; rfl
            clear hft
            go_wp2
            go_ret2
            exact ⟨by rw [HN3.out]; rfl, HB4.out⟩
          · have HN3 : Hid (badI nc ng np code.length code 0 = badI nc ng np code.length (code.drop (j + 1)) (j + 1)) := by show _ = _; rw [HN2.out, HO.out, hft]; rfl
            clear hft
            go_wp2
            go_roundw
            case rel => exact ⟨j + 1, by go_num, by omega, HN3, HW4⟩
            case measure => simp [intOf]; omega
    · have i1 : ¬ (j : Int) < (code.length : Int) := by omega
      have hbn : badI nc ng np code.length code 0 = none := by rw [HN.out, List.drop_of_length_le (by omega)]; rfl
      have HBn : Hid (badI nc ng np code.length code 0 = none) := hbn
      obtain ⟨l, hnl⟩ : ∃ l, code.length = l + 1 := ⟨code.length - 1, by omega⟩
      have hxl : code[code.length - 1]? = some (code[code.length - 1]'(by omega)) := List.getElem?_eq_getElem _
      generalize (code[code.length - 1]'(by omega)) = y at hxl
      have HXL : Hid (code[code.length - 1]? = some y) := hxl
      have HV2 : Hid (chkP nc ng np ⟨pm, code⟩ = if endsB y.op then endP (wrongAt (endM code).met code 0) else ((80 : Int), code.length - 1)) := by
        show _ = _
        rw [HV.out, hbn]
        simp only [chkEnd, hxl]
      obtain ⟨k0, k1, k2⟩ := Q2.out (code.length - 1) y hxl
      rw [hnl, Nat.add_sub_cancel] at k1
      have f1 : wr.cell? ⟨b, o + l * 2, none⟩ = some (.int .u8 y.op) := (HBr.out.cell (p := ⟨b, o + l * 2, none⟩) k0).trans k1
      have f0 : b < wr.heap.size := Nat.lt_of_lt_of_le k0 HBr.out.size
      have Hnl : Hid (code.length = l + 1) := hnl
      rw [hnl] at v1
      have hll : (l : Int) < (l : Int) + 1 := by omega
      have i2 : ¬ (j : Int) < (l : Int) + 1 := by omega
      have hlb : l ≤ 4096 := by omega
      clear hnl
      clear hbn hxl k0 k1 k2
      have hey : endsB y.op = (y.op == 12 || (y.op == 11 || y.op == 8)) := rfl
      cases hen : endsB y.op
      · have HN3 : Hid (chkP nc ng np ⟨pm, code⟩ = (80, l)) := by show _ = _; rw [HV2.out, hen, Hnl.out]; rfl
        rw [hen] at hey
        have z12 : (y.op != 12) = true := by
          have := hey.symm; simp only [Bool.or_eq_false_iff] at this; simp [bne, this.1]
        have z11 : (y.op != 11) = true := by
          have := hey.symm; simp only [Bool.or_eq_false_iff] at this; simp [bne, this.2.1]
        have z8 : (y.op != 8) = true := by
          have := hey.symm; simp only [Bool.or_eq_false_iff] at this; simp [bne, this.2.2]
        clear hen hey
        go_upto_region 13 with fail
        go_quiet (fail)
        go_wp2
        go_ret2
        exact ⟨by rw [HN3.out]; rfl, below_drewN HBr.out _⟩
      · have HN3 : Hid (chkP nc ng np ⟨pm, code⟩ = endP (wrongAt (endM code).met code 0)) := by show _ = _; rw [HV2.out, hen]; rfl
        have HLw : Hid (∀ W, Below w.heap.size w W → Calls Tryz.prog 76 #[.agg #[.int .i64 pm, .slice (some ⟨b, o, none⟩) (l + 1 : Nat) cp]] W fun e w5 => e = .returned (.int .i64 (wrI code)) ∧ Below W.heap.size W w5) := fun W hW =>
          Hnl.out ▸ dWrong_any pm code (some ⟨b, o, none⟩) cp W hn0 (by omega) (HR.out.below hW) (fun p x hx => fit_of HBn.out HXL.out hen p x hx) (fun x hx => by have := (badI_none code 0 HBn.out x hx).1; unfold isOpB at this; simpa using this)
        have hcase : ((y.op != 12) = false) ∨ ((y.op != 12) = true ∧ (y.op != 11) = false) ∨ ((y.op != 12) = true ∧ (y.op != 11) = true ∧ (y.op != 8) = false) := by
          rw [hen] at hey
          by_cases q12 : y.op = 12
          · exact .inl (by simp [q12])
          · by_cases q11 : y.op = 11
            · exact .inr (.inl ⟨by simp [q11], by simp [q11]⟩)
            · have q8 : y.op = 8 := by
                have := hey.symm
                simp only [Bool.or_eq_true, beq_iff_eq] at this
                omega
              exact .inr (.inr ⟨by simp [q8], by simp [q8], by simp [q8]⟩)
        have HWv : Hid ((∃ q : Nat, wrI code = (q : Int) ∧ wrongAt (endM code).met code 0 = some q) ∨ (wrI code = -1 ∧ wrongAt (endM code).met code 0 = none)) := by
          unfold wrI
          cases wrongAt (endM code).met code 0 with
          | none => exact .inr ⟨rfl, rfl⟩
          | some q => exact .inl ⟨q, rfl, rfl⟩
        clear hen hey
        rcases hcase with z12 | ⟨z12, z11⟩ | ⟨z12, z11, z8⟩
        all_goals
          go_wp2_with fail
          refine (HLw.out _ HBr.out).mono ?_
          rintro e w5 ⟨rfl, hb5⟩
          have HB5 : Hid (Below w.heap.size w w5) := HBr.out.trans (hb5.mono HBr.out.size)
          clear hb5 HLw
          rcases HWv.out with ⟨q, hq, hw⟩ | ⟨hq, hw⟩
          · have HN4 : Hid (chkP nc ng np ⟨pm, code⟩ = (80, q)) := by show _ = _; rw [HN3.out, hw]; rfl
            rw [hq]
            clear hq hw
            go_wp2
            go_ret2
            exact ⟨by rw [HN4.out]; rfl, HB5.out⟩
          · have HN4 : Hid (chkP nc ng np ⟨pm, code⟩ = (0, 0)) := by show _ = _; rw [HN3.out, hw]; rfl
            rw [hq]
            clear hq hw
            go_wp2
            go_ret2
            exact ⟨by rw [HN4.out]; rfl, HB5.out⟩
end Go.Proofs.YtpkohocjgnodnaaGreatDoor

/- The document's words. -/
namespace Go.Proofs.YtpkohocjgnodnaaGreatDoor
open Go.RowKit

theorem mayB_of (t n : Int) (b : Bool) (h : (lo t ≤ n ∧ n ≤ hi t) ↔ b = true) : b = mayB t n := by
  unfold mayB; rw [Bool.eq_iff_iff]; simp only [decide_eq_true_eq]; exact h.symm
set_option maxHeartbeats 1000000 in
theorem may_any (t n : Int) (w : World) (h0 : 0 ≤ t) (h1 : t ≤ 255) :
    Calls Tryz.prog 72 #[.int .u8 t, .int .i64 n] w fun e w' => e = .returned (.bool (isTagB t && mayB t n)) ∧ w' = w := by
  by_cases ht : 1 ≤ t ∧ t ≤ 8
  · obtain ⟨ha, hb⟩ := ht
    have hd : t = 1 ∨ t = 2 ∨ t = 3 ∨ t = 4 ∨ t = 5 ∨ t = 6 ∨ t = 7 ∨ t = 8 := by omega
    rcases hd with rfl | rfl | rfl | rfl | rfl | rfl | rfl | rfl
    all_goals
      go_enter Tryz.func72, Tryz.ntmps72
      go_wp2
      all_goals go_ret
      all_goals exact ⟨ret_bool (by rw [show isTagB _ = true from rfl, Bool.true_and]; refine mayB_of _ _ _ ?_; simp [lo, hi]; omega), rfl⟩
  · have hf : isTagB t = false := by unfold isTagB; simpa using ht
    have e1 : (t == 1) = false := beq_eq_false_iff_ne.2 (by omega)
    have e2 : (t == 2) = false := beq_eq_false_iff_ne.2 (by omega)
    have e3 : (t == 3) = false := beq_eq_false_iff_ne.2 (by omega)
    have e4 : (t == 4) = false := beq_eq_false_iff_ne.2 (by omega)
    have e5 : (t == 5) = false := beq_eq_false_iff_ne.2 (by omega)
    have e6 : (t == 6) = false := beq_eq_false_iff_ne.2 (by omega)
    have e7 : (t == 7) = false := beq_eq_false_iff_ne.2 (by omega)
    have e8 : (t == 8) = false := beq_eq_false_iff_ne.2 (by omega)
    clear ht
    go_enter Tryz.func72, Tryz.ntmps72
    go_wp2
    go_ret
    exact ⟨ret_bool (by rw [hf]; rfl), rfl⟩
set_option maxHeartbeats 400000 in
theorem refMake_any (t n : Int) (w : World) (h0 : 0 ≤ t) (h1 : t ≤ 255) :
    Calls Tryz.prog 119 #[.int .u8 t, .int .i64 n] w fun e w' => e = .returned (.tuple #[.int .u64 (mkW t n), .int .i64 (mkE t n)]) ∧ w' = w := by
  cases h : isTagB t
  · have hn : t < 1 ∨ 8 < t := by have : ¬ (1 ≤ t ∧ t ≤ 8) := fun g => by rw [isTag_iff.2 g] at h; cases h
                                  omega
    rcases hn with hn | hn
    · go_enter Tryz.func119, Tryz.ntmps119
      go_wp2_with fail
      go_ret2
      exact ⟨ret_we (by simp [mkW, h]) (by simp [mkE, h]), rfl⟩
    · have hn' : ¬ t < 1 := by omega
      go_enter Tryz.func119, Tryz.ntmps119
      go_wp2_with fail
      go_ret2
      exact ⟨ret_we (by simp [mkW, h]) (by simp [mkE, h]), rfl⟩
  · obtain ⟨h1', h8⟩ := isTag_iff.1 h
    cases hm : mayB t n
    · go_enter Tryz.func119, Tryz.ntmps119
      go_wp2_with (first | (go_at_call 72; refine (may_any _ _ _ (by omega) (by omega)).mono ?_; rintro e w' ⟨rfl, rfl⟩))
      go_ret2
      exact ⟨ret_we (by simp [mkW, h, hm]) (by simp [mkE, h, hm]), rfl⟩
    · go_enter Tryz.func119, Tryz.ntmps119
      go_wp2_with (first | (go_at_call 72; refine (may_any _ _ _ (by omega) (by omega)).mono ?_; rintro e w' ⟨rfl, rfl⟩))
      go_ret2
      exact ⟨ret_we (by simp only [mkW, h, hm, if_true, mk, IntKind.wrap_u64]; omega) (by simp [mkE, h, hm]), rfl⟩
set_option maxHeartbeats 400000 in
theorem refOf_any (x : Int) (w : World) (hx : Rng x) :
    Calls Tryz.prog 22 #[.int .u64 x] w fun e w' => e = .returned (.tuple #[.int .u8 (ofT x), .int .i64 (ofN x), .bool (wd x)]) ∧ w' = w := by
  have hna := nm_alt x hx
  obtain ⟨hx0, hx1⟩ := hx
  have hb := tg_bd x
  have e0 : ∀ n, nm x = n → (isTagB (x % 16) && mayB (x % 16) n) = wd x := by
    intro n hn; unfold wd tg; rw [hn]
  have He : Hid _ := e0
  clear e0
  by_cases hg : x / 16 ≤ 576460752303423487
  all_goals
    (first | rw [if_pos hg] at hna | rw [if_neg hg] at hna)
    have Hna : Hid _ := hna
    clear hna
    cases hw : wd x
    all_goals
      go_enter Tryz.func22, Tryz.ntmps22
      go_wp2_with fail
      refine (may_any _ _ _ (by omega) (by omega)).mono ?_
      rintro e w' ⟨rfl, rfl⟩
      rw [He.out _ Hna.out, hw]
      go_wp2_with fail
      go_ret3
      exact ⟨ret_of (by simp [ofT, tg, hw]) (by simp [ofN, hw, Hna.out]) rfl, rfl⟩
end Go.Proofs.YtpkohocjgnodnaaGreatDoor
