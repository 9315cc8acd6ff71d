/- The book's ownBools: over lists that lie apart. -/
import Derived.Test.YtdcmkifljcdmmaaGreatDoorHOwnB
namespace Go.Proofs.YtdcmkifljcdmmaaGreatDoor
open Go.RowKit

theorem list_map {N : Nat} (xs : List Value) (h : xs.length = N) : ∃ L : Nat → Value, xs = (List.range N).map L := by
  refine ⟨fun j => xs.getD j (.slice none 0 0), List.ext_getElem? (fun j => ?_)⟩
  rw [List.getElem?_map]
  by_cases hj : j < N
  · rw [List.getElem?_range hj, List.getElem?_eq_getElem (by omega)]
    simp [List.getD_eq_getElem?_getD, h, hj]
  · rw [List.getElem?_eq_none (by omega), List.getElem?_eq_none (by simp; omega)]
    rfl
/-- How the outermost loop stands. -/
structure BO (Q : Nat → Prop) (N B : Nat) (V : Nat → Value) (n : Nat → Nat) (g5 : Nat) (W : World) : Prop where
  h : ∃ X, Held (KB 0) Q N B V n W X
  r : ∃ L, W.ownsRow 0 70 1 (.slice (some ⟨g5, 0, none⟩) N N) N ((List.range N).map L)
  o : g5 ≠ B
  q : ¬ Q g5
theorem LongM.bo {Q : Nat → Prop} {N B b g5 k : Nat} {V : Nat → Value} {n : Nat → Nat} {L : Nat → Value} {W : World} (h : LongM (KB b) Q N B V n k (.slice (some ⟨g5, 0, none⟩) N N) L W) : BO Q N B V n g5 W :=
  ⟨⟨_, h.held.turnB⟩, ⟨L, h.row⟩, fun e => h.off (by rw [e]; rfl), h.nq g5 rfl⟩
set_option maxRecDepth 100000 in
set_option maxHeartbeats 16000000 in
theorem ownBools_any (Q : Nat → Prop) (N B capB : Nat) (V : Nat → Value) (n : Nat → Nat) (X : Nat → List Value) (w : World) (hN : N ≤ 1000000) (hQ : ∀ g, Q g → g < w.heap.size) (hn : ∀ j, j < N → n j ≤ 1000000) (H0 : Held (KB 0) Q N B V n w X) :
    Calls Tryz.prog 47 #[.slice (some ⟨B, 0, none⟩) N capB] w fun e w' => e = .returned (.bool true) ∧ Fr Q w w' := by
  have HH : Hid (Held (KB 0) Q N B V n w X) := H0
  clear H0
  have Hn : Hid (∀ j, j < N → n j ≤ 1000000) := hn
  have HQ : Hid (∀ g, Q g → g < w.heap.size) := hQ
  clear hn hQ
  obtain ⟨i0, hi, hz0, hz1, hz2⟩ := info_parts infoKB
  obtain ⟨i3, hi3, hy0, hy1, hy2⟩ := info_parts infoLKB
  go_enter Tryz.func47, Tryz.ntmps47
  go_wp2_with (at_make; refine stop_of ?_)
  unfold Hid
  refine wpList_make_full _ rfl _ _ 44 rfl w.heap.size 70 i3 (.slice none 0 0) 1 Tryz.underlying44 hi3 hy0 hy1 .i64 .i64 _ _ N rfl rfl rfl rfl (by rw [hy2]; omega) (by unfold maxLen; omega) (Nat.le_refl _) ?_
  intro w1 hown1 hgr1
  have b1 : Below w.heap.size w w1 := grown_low hgr1 (fun g hg => by cases hg) (Nat.le_refl _)
  have HB1 : Hid (BO Q N B V n w.heap.size w1 ∧ Fr Q w w1) := by
    refine ⟨⟨⟨X, HH.out.below b1⟩, ?_, fun e => ?_, fun h => ?_⟩, Fr.of b1 (fun g _ hl => hl)⟩
    · have hl := own_mono hown1 (Nat.zero_le _)
      have e := list_map (N := N) (madeCells (Value.slice none 0 0).cells (N * 1)).toList (by have := hown1.1; omega)
      obtain ⟨L, hL⟩ := e
      rw [hL] at hl
      exact ⟨L, hl⟩
    · have := HH.out.lt; omega
    · have := HQ.out _ h; omega
  obtain ⟨g5, hg5⟩ : ∃ g5, g5 = w.heap.size := ⟨_, rfl⟩
  rw [← hg5] at HB1 ⊢
  clear hown1 hgr1 b1 HH hg5
  go_wp2_with fail
  go_loopw [4] (fun i wr => ∃ b : Nat, b ≤ 20 ∧ i = .int .i64 b ∧ Hid (BO Q N B V n g5 wr ∧ Fr Q w wr)) (fun i _ => 20 - (intOf i).toNat)
  case atStart => exact ⟨0, Nat.zero_le _, rfl, HB1⟩
  case round =>
    clear HB1
    obtain ⟨b, hb, rfl, HB⟩ := hrel
    by_cases hb20 : b < 20
    · have j1 : (b : Int) < 20 := by omega
      have j1' : decide ((b : Int) < 20) = true := by simp; omega
      have cu : ∀ W, (convert 3 139 (.int .i64 (b : Int))).run Tryz.prog W = .ok (.int .u64 b) W := conv_u b hb20
      by_cases hgo : wrap64 (2 ^ b) ≤ 2 * (N : Int)
      · have j2 : decide (wrap64 (2 ^ b) ≤ 2 * (N : Int)) = true := by simpa using hgo
        obtain ⟨X0, hX0⟩ := HB.out.1.h
        have HX0 : Hid (Held (KB b) Q N B V n wr X0) := hX0.turnB
        obtain ⟨L0, hL0⟩ := HB.out.1.r
        have HL0 : Hid (wr.ownsRow 0 70 1 (.slice (some ⟨g5, 0, none⟩) N N) N ((List.range N).map L0) ∧ g5 ≠ B ∧ ¬ Q g5) := ⟨hL0, HB.out.1.o, HB.out.1.q⟩
        have HFr : Hid (Fr Q w wr) := HB.out.2
        clear hX0 hL0 HB
        go_wp2_with fail
        clear j2
        obtain ⟨wA, hwA⟩ : ∃ wA, wA = wr := ⟨_, rfl⟩
        clear hwA
        go_loopw [5] (fun i wr => ∃ (k : Nat) (Y : Nat → List Value), k ≤ N ∧ i = .int .i64 k ∧ Hid (Held (KB b) Q N B V n wr Y) ∧ Hid (∀ j, j < k → Y j = marks (KB b) j (n j)) ∧ Hid (wr.ownsRow 0 70 1 (.slice (some ⟨g5, 0, none⟩) N N) N ((List.range N).map L0) ∧ g5 ≠ B ∧ ¬ Q g5) ∧ Hid (Fr Q w wr)) (fun i _ => N - (intOf i).toNat)
        case atStart => exact ⟨0, X0, Nat.zero_le _, rfl, HX0, (fun j h => absurd h (Nat.not_lt_zero _)), HL0, HFr⟩
        case round =>
          clear HX0 HL0 HFr
          obtain ⟨k, Y, hk, rfl, HY, HM, HL, HFr⟩ := hrel
          by_cases hlt : k < N
          · have i1 : (k : Int) < (N : Int) := by omega
            have hnk : n k ≤ 1000000 := Hn.out k hlt
            go_wp2_with fail
            obtain ⟨wB, hwB⟩ : ∃ wB, wB = wr := ⟨_, rfl⟩
            clear hwB
            go_loopw [6] (fun i wr => ∃ (m : Nat) (Z : Nat → List Value), m ≤ n k ∧ i = .int .i64 m ∧ Hid (Held (KB b) Q N B V n wr Z) ∧ Hid (∀ j, j < k → Z j = marks (KB b) j (n j)) ∧ Hid (Z k = marks (KB b) k m ++ (Y k).drop (m * 1)) ∧ Hid (wr.ownsRow 0 70 1 (.slice (some ⟨g5, 0, none⟩) N N) N ((List.range N).map L0) ∧ g5 ≠ B ∧ ¬ Q g5) ∧ Hid (Fr Q w wr)) (fun i _ => n k - (intOf i).toNat)
            case atStart => exact ⟨0, Y, Nat.zero_le _, rfl, HY, HM, (by show _ = _; simp [marks]), HL, HFr⟩
            case round =>
              clear HL HFr
              obtain ⟨m, Z, hm, rfl, HZ, HZM, HZk, HL, HFr⟩ := hrel
              have hc := HZ.out.cell k hlt
              by_cases hml : m < n k
              · obtain ⟨g, cap, hv⟩ : ∃ g cap, V k = .slice (some ⟨g, 0, none⟩) (n k) cap := by
                  rcases (HZ.out.own k hlt).2 with ⟨_, h0⟩ | ⟨g, cap, cur, hv, _⟩
                  · omega
                  · exact ⟨g, cap, hv⟩
                rw [hv] at hc
                have hv' : Hid _ := hv
                clear hv
                have i2 : (m : Int) < (n k : Int) := by omega
                have h0 := HZ.out
                have hlg : g < wr.heap.size := ((h0.own k hlt).lt g (by rw [hv'.out]; rfl)).2
                obtain ⟨⟨c0, hc0⟩, hf0⟩ := h0.at hlt hv'.out m (show m < n k * 1 by omega)
                obtain ⟨Z', hZ', hZo, hZk'⟩ := h0.putKB hlt hv'.out hml k _ HZk.out
                have HZ' : Hid _ := hZ'
                have HZo : Hid _ := hZo
                have HZk' : Hid _ := hZk'
                have hgb : Hid (¬ Q g) := h0.nq k hlt g (by rw [hv'.out]; rfl)
                have HL' : Hid ((wr.setCell ⟨g, m, none⟩ (.bool (bit b k))).ownsRow 0 70 1 (.slice (some ⟨g5, 0, none⟩) N N) N ((List.range N).map L0) ∧ g5 ≠ B ∧ ¬ Q g5) := ⟨ownsRow_setCell_other HL.out.1 (fun e => own_types HL.out.1 (h0.own k hlt) (KB b).ne g e (by rw [hv'.out]; rfl)) _, HL.out.2⟩
                have hBlt := h0.lt
                clear h0 hZ' hZo hZk'
                go_wp2_with fail
                case roundEnd =>
                refine ⟨⟨m + 1, Z', by omega, by go_num, HZ', ?_, ?_, HL', ?_⟩, ?_⟩
                · intro j hj; rw [HZo.out j (by omega)]; exact HZM.out j hj
                · show _ = _; rw [HZk'.out, List.drop_drop]; congr 2
                · exact HFr.out.setCell hgb.out _
                · simp [intOf]; omega
              · obtain ⟨ra, cap, hv⟩ : ∃ ra cap, V k = .slice ra (n k) cap := by
                  rcases (HZ.out.own k hlt).2 with ⟨h, h0⟩ | ⟨g, cap, cur, hv, _⟩
                  · exact ⟨none, 0, by rw [h, h0]⟩
                  · exact ⟨_, cap, hv⟩
                rw [hv] at hc
                have hmn : m = n k := by omega
                have hBlt := HZ.out.lt
                go_wp2_with fail
                go_roundw
                case rel =>
                  refine ⟨k + 1, Z, by omega, by go_num, HZ, ?_, HL, HFr⟩
                  intro j hj
                  by_cases e : j = k
                  · subst e
                    have hl : (Y j).length = n j * 1 := (HY.out.own j hlt).1
                    rw [HZk.out, hmn, List.drop_of_length_le (by omega), List.append_nil]
                  · exact HZM.out j (by omega)
                case measure => simp [intOf]; omega
          · have HG0 : Hid (LongM (KB b) Q N B V n 0 (.slice (some ⟨g5, 0, none⟩) N N) L0 wr) := ⟨HY.out.congr (fun j hj => HM.out j (by omega)), (fun j hj => absurd hj (Nat.not_lt_zero _)), (fun j _ hj => absurd hj (Nat.not_lt_zero _)), HL.out.1, (fun e => HL.out.2.1 (by simpa [Value.ownBlock] using e)), (fun g hg => by
              have e : g5 = g := by simpa [Value.ownBlock] using hg
              rw [← e]; exact HL.out.2.2)⟩
            clear HY HM HL
            go_wp2_with fail
            obtain ⟨wB, hwB⟩ : ∃ wB, wB = wr := ⟨_, rfl⟩
            clear hwB
            go_loopw [7] (fun i wr => ∃ (k : Nat) (L : Nat → Value), k ≤ N ∧ i = .int .i64 k ∧ Hid (LongM (KB b) Q N B V n k (.slice (some ⟨g5, 0, none⟩) N N) L wr) ∧ Hid (Fr Q w wr)) (fun i _ => N - (intOf i).toNat)
            case atStart => exact ⟨0, L0, Nat.zero_le _, rfl, HG0, HFr⟩
            case round =>
              clear HG0 HFr
              obtain ⟨k, L, hk, rfl, HL, HLB⟩ := hrel
              by_cases hlt2 : k < N
              · have i1 : (k : Int) < (N : Int) := by omega
                have hc := HL.out.held.cell k hlt2
                have hBlt := HL.out.held.lt
                have hnk : n k ≤ 1000000 := Hn.out k hlt2
                go_wp2_with fail
                obtain ⟨wC, hwC⟩ : ∃ wC, wC = wr := ⟨_, rfl⟩
                clear hwC
                go_loopw [8, 9] (fun x i wr => ∃ q : Nat, q ≤ 16 ∧ i = .int .i64 q ∧ Hid (GrowM (KB b) Q N B V n k (.slice (some ⟨g5, 0, none⟩) N N) L q x wr) ∧ Hid (Fr Q w wr)) (fun _ i _ => 16 - (intOf i).toNat)
                case atStart => exact ⟨0, Nat.zero_le _, rfl, GrowM.start HL.out hlt2, HLB⟩
                case round =>
                  obtain ⟨q, hq, rfl, HG, HGB⟩ := hrel
                  have hQr : Hid (∀ (o : Obj) g, Q g → g < (wr.alloc o).heap.size) := fun o g hg => by rw [World.size_alloc]; have := HQ.out g hg; have := HGB.out.1.size; omega
                  by_cases hlq : q < 16
                  · have i3' : (q : Int) < 16 := by omega
                    go_wp2_with (at_builtin; refine wpList_append_told _ rfl _ _ 70 rfl 0 4 i0 (.bool false) 1 1 Tryz.underlying70 hi hz0 hz1 hz2 rfl (by decide) u8 (n k + q) (marks (KB b) k (n k) ++ marks (KB b) (-1 - (k : Int)) q) rfl (HG.out.own.alloc _) _ 1 1 [.bool (bit b k)] rfl rfl (cell_one_new _ _ _) (by intro u hu; simp at hu; subst hu; rfl) (by unfold maxLen; omega) (by omega) (Nat.zero_le _) (by decide) ?_; intro v1 w1 hown1 hgrow1 hold1 hw1)
                    have hG1 := (HG.out.alloc _).step hlt2 (by rw [markB']; exact hown1) hgrow1 hold1 hw1 (hQr.out _)
                    have hB1 : Fr Q w w1 := (HGB.out.alloc _).grown hgrow1 HG.out.nq
                    go_roundw
                    case rel => exact ⟨q + 1, by omega, by go_num, hG1, hB1⟩
                    case measure => simp [intOf]; omega
                  · obtain rfl : q = 16 := by omega
                    obtain ⟨g7, c7, rfl⟩ : ∃ g7 c7, u8 = .slice (some ⟨g7, 0, none⟩) (n k + 16) c7 := by
                      rcases HG.out.own.2 with ⟨_, h0⟩ | ⟨g, cap, cur, hv, _⟩
                      · omega
                      · exact ⟨g, cap, hv⟩
                    have hrow := HG.out.longs.row
                    have lg5 : g5 < wr.heap.size := (hrow.lt g5 rfl).2
                    have fz5 : wr.frozen? ⟨g5, k, none⟩ = false := hrow.frozenAt k
                    obtain ⟨u5', hu5⟩ : ∃ u, wr.cell? ⟨g5, k, none⟩ = some u := by
                      have := hrow.cellAt k (show k < N * 1 by omega)
                      rw [List.getElem?_map, List.getElem?_range hlt2] at this
                      exact ⟨_, this⟩
                    have HG2 : Hid _ := HG.out.put
                    have HF2 : Hid (Fr Q w (wr.setCell ⟨g5, k, none⟩ (.slice (some ⟨g7, 0, none⟩) (n k + 16) c7))) := HGB.out.setCell (HG.out.longs.nq g5 rfl) _
                    clear hrow
                    go_wp2_with fail
                    go_roundw
                    case rel => exact ⟨k + 1, _, by omega, by go_num, HG2, HF2⟩
                    case measure => simp [intOf]; omega
              · obtain rfl : k = N := by omega
                clear hlt2
                go_wp2_with fail
                obtain ⟨wC, hwC⟩ : ∃ wC, wC = wr := ⟨_, rfl⟩
                clear hwC
                go_loopw [10] (fun i wr => ∃ c : Nat, c ≤ k ∧ i = .int .i64 c ∧ Hid (LongM (KB b) Q k B V n k (.slice (some ⟨g5, 0, none⟩) k k) L wr) ∧ Hid (Fr Q w wr)) (fun i _ => k - (intOf i).toNat)
                case atStart => exact ⟨0, Nat.zero_le _, rfl, HL, HLB⟩
                case round =>
                  clear HL HLB
                  obtain ⟨c, hcN, rfl, HC, HCB⟩ := hrel
                  by_cases hlc : c < k
                  · have i1 : (c : Int) < (k : Int) := by omega
                    have hnc : n c ≤ 1000000 := Hn.out c hlc
                    go_wp2_with fail
                    obtain ⟨wD, hwD⟩ : ∃ wD, wD = wr := ⟨_, rfl⟩
                    clear hwD
                    go_loopw [11] (fun i wr => ∃ m : Nat, m ≤ n c + 16 ∧ i = .int .i64 m ∧ Hid (LongM (KB b) Q k B V n k (.slice (some ⟨g5, 0, none⟩) k k) L wr) ∧ Hid (Fr Q w wr)) (fun i _ => n c + 16 - (intOf i).toNat)
                    case atStart => exact ⟨0, Nat.zero_le _, rfl, HC, HCB⟩
                    case round =>
                      clear HC HCB
                      obtain ⟨m, hm, rfl, HM, HMB⟩ := hrel
                      obtain ⟨h5', c5', gl, cl, hv5', hcl, hcV, f1, f2, f3, ra, cap, hVc⟩ := HM.out.reads hlc
                      cases hv5'
                      rw [hVc] at hcV
                      have hBl2 := HM.out.held.lt
                      have lg5 : g5 < wr.heap.size := (HM.out.row.lt g5 rfl).2
                      by_cases hlm : m < n c
                      · have i2 : (m : Int) < (n c : Int) := by omega
                        have i2' : decide ((m : Int) < (n c : Int)) = true := by simpa using hlm
                        have i4 : (m : Int) < (n c : Int) + 16 := by omega
                        obtain ⟨g, cap', hVc', f3'⟩ := f3 m hlm
                        rw [hVc] at hVc'
                        cases hVc'
                        have a0 : wr.cell? ⟨g, m, none⟩ = some (.bool (bit b c)) := by
                          have := f3' 0 (KB b).pos
                          rw [markB] at this
                          simpa [KB] using this
                        have b0 : wr.cell? ⟨gl, m, none⟩ = some (.bool (bit b c)) := by
                          have := f1 m hlm 0 (KB b).pos
                          rw [markB] at this
                          simpa [KB] using this
                        have z : (bit b c != (bits BinOp.and IntKind.i64 ((c : Int) / 2 ^ b) 1 == 1)) = false := by unfold bit; simp
                        clear f1 f2 f3 f3' hVc
                        go_wp2_with fail
                        refine ⟨⟨m + 1, by omega, by go_num, HM, HMB⟩, by simp [intOf]; omega⟩
                      · by_cases hlm2 : m < n c + 16
                        · have i2' : decide ((m : Int) < (n c : Int)) = false := by simp; omega
                          have i2n : ¬ m < n c := hlm
                          have i4 : (m : Int) < (n c : Int) + 16 := by omega
                          have b0 : wr.cell? ⟨gl, m, none⟩ = some (.bool (bit b c)) := by
                            have := f2 (m - n c) (by omega) 0 (KB b).pos
                            rw [markB', show n c + (m - n c) = m by omega] at this
                            simpa [KB] using this
                          have z : (bit b c != (bits BinOp.and IntKind.i64 ((c : Int) / 2 ^ b) 1 == 1)) = false := by unfold bit; simp
                          clear f1 f2 f3 hVc
                          go_wp2_with fail
                          refine ⟨⟨m + 1, by omega, by go_num, HM, HMB⟩, by simp [intOf]; omega⟩
                        · have i4 : ¬ (m : Int) < (n c : Int) + 16 := by omega
                          clear f1 f2 f3 hVc
                          go_wp2_with fail
                          go_roundw
                          case rel => exact ⟨c + 1, by omega, by go_num, HM, HMB⟩
                          case measure => simp [intOf]; omega
                  · have i1 : ¬ (c : Int) < (k : Int) := by omega
                    go_wp2_with fail
                    go_roundw
                    case rel => exact ⟨b + 1, by omega, by go_num, HC.out.bo, HCB.out⟩
                    case measure => simp [intOf]; omega
      · have j2 : decide (wrap64 (2 ^ b) ≤ 2 * (N : Int)) = false := by simpa using hgo
        go_wp2_with fail
        go_ret
        exact ⟨rfl, HB.out.2⟩
    · have j1 : ¬ (b : Int) < 20 := by omega
      go_wp2_with fail
      go_ret
      exact ⟨rfl, HB.out.2⟩
end Go.Proofs.YtdcmkifljcdmmaaGreatDoor
