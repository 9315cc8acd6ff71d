/- The book's ownInstrs: over lists that lie apart. -/
import Derived.Test.YtpkohocjgnodnaaGreatDoorGBC
import Derived.Deep.QuietTactic
import Derived.BigQuiet
import Derived.Test.YtpkohocjgnodnaaGreatDoorGAG
namespace Go.Proofs.YtpkohocjgnodnaaGreatDoor
open Go.RowKit

def KN : Knd := ⟨79, 2, 62, fun i k => [.int .u8 0, .int .i64 (i * 1000 + k)], fun _ _ => rfl, by decide, by decide⟩
theorem infoKN : (Tryz.prog.info? 79).map (fun i => (i.zero, i.size, i.bytes)) = some (some (.agg #[.int .u8 0, .int .i64 0]), 2, 16) := by kernel_rfl
theorem infoLKN : (Tryz.prog.info? 62).map (fun i => (i.zero, i.size, i.bytes)) = some (some (.slice none 0 0), 1, 24) := by kernel_rfl
theorem mkKN_one (i k : Int) : ∀ u ∈ KN.mark i k, u.oneCell' = true := by
  intro u hu
  simp only [KN, List.mem_cons, List.not_mem_nil, or_false] at hu
  rcases hu with rfl | rfl <;> rfl
/-- One whole stored. -/
theorem Held.putKN {Q : Nat → Prop} {N B : Nat} {V : Nat → Value} {n : Nat → Nat} {W : World} {X : Nat → List Value} (h : Held KN Q N B V n W X) {j g cap m : Nat} (hj : j < N) (hv : V j = .slice (some ⟨g, 0, none⟩) (n j) cap) (hm : m < n j)
    (i : Int) (r : List Value) (hx : X j = marks KN i m ++ r) :
    ∃ Z, Held KN Q N B V n ((W.setCell ⟨g, m * 2, none⟩ (.int .u8 0)).setCell ⟨g, m * 2 + 1, none⟩ (.int .i64 (i * 1000 + m))) Z ∧ (∀ j', j' ≠ j → Z j' = X j') ∧ Z j = marks KN i (m + 1) ++ r.drop 2 := by
  have hl : (X j).length = n j * 2 := (h.own j hj).1
  have hml : (marks KN i m).length = m * 2 := marks_len KN i m
  have hr : 2 ≤ r.length := by rw [hx, List.length_append, hml] at hl; omega
  have h4 := (h.stored hj hv (m * 2) (.int .u8 0)).stored hj hv (m * 2 + 1) (.int .i64 (i * 1000 + m))
  refine ⟨_, h4, fun j' hj' => by simp [hj'], ?_⟩
  simp only [if_true]
  rw [hx]
  obtain ⟨x0, x1, r0, rfl⟩ : ∃ x0 x1 r0, r = x0 :: x1 :: r0 := by
    rcases r with _ | ⟨x0, _ | ⟨x1, r0⟩⟩
    · simp at hr
    · simp at hr
    · exact ⟨x0, x1, r0, rfl⟩
  rw [← hml, marks]
  simp [KN]
set_option maxRecDepth 100000 in
set_option maxHeartbeats 8000000 in
theorem ownInstrs_any (Q : Nat → Prop) (N B capB : Nat) (V : Nat → Value) (n : Nat → Nat) (X : Nat → List Value) (w : World) (hN : N ≤ 1000) (hQ : ∀ g, Q g → g < w.heap.size) (hn : ∀ j, j < N → n j ≤ 1000000) (H0 : Held KN Q N B V n w X) :
    Calls Tryz.prog 56 #[.slice (some ⟨B, 0, none⟩) N capB] w fun e w' => e = .returned (.bool true) ∧ FrQ Q w w' := by
  have HH : Hid (Held KN Q N B V n w X) := H0
  clear H0
  have Hn : Hid (∀ j, j < N → n j ≤ 1000000) := hn
  have HQ : Hid (∀ g, Q g → g < w.heap.size) := hQ
  clear hn hQ
  obtain ⟨i0, hi, hz0, hz1, hz2⟩ := info_parts infoKN
  obtain ⟨i3, hi3, hy0, hy1, hy2⟩ := info_parts infoLKN
  go_enter Tryz.func56, Tryz.ntmps56
  go_wp2
  go_loopw [3] (fun i wr => ∃ (k : Nat) (Y : Nat → List Value), k ≤ N ∧ i = .int .i64 k ∧ Hid (Held KN Q N B V n wr Y) ∧ Hid (∀ j, j < k → Y j = marks KN j (n j)) ∧ Hid (FrQ Q w wr)) (fun i _ => N - (intOf i).toNat)
  case atStart => exact ⟨0, X, Nat.zero_le _, rfl, HH, fun j h => absurd h (Nat.not_lt_zero _), FrQ.refl _ _⟩
  case round =>
    obtain ⟨k, Y, hk, rfl, HY, HM, HB⟩ := hrel
    by_cases hlt : k < N
    · have i1 : (k : Int) < (N : Int) := by omega
      have hnk : n k ≤ 1000000 := Hn.out k hlt
      go_wp2
      go_loopw [4] (fun i wr => ∃ (m : Nat) (Z : Nat → List Value), m ≤ n k ∧ i = .int .i64 m ∧ Hid (Held KN Q N B V n wr Z) ∧ Hid (∀ j, j < k → Z j = marks KN j (n j)) ∧ Hid (Z k = marks KN k m ++ (Y k).drop (m * 2)) ∧ Hid (FrQ Q w wr)) (fun i _ => n k - (intOf i).toNat)
      case atStart => exact ⟨0, Y, Nat.zero_le _, rfl, HY, HM, by show _ = _; simp [marks], HB⟩
      case round =>
        obtain ⟨m, Z, hm, rfl, HZ, HZM, HZk, HZB⟩ := hrel
        have hc := HZ.out.cell k hlt
        by_cases hml : m < n k
        · obtain ⟨g, cap, hv⟩ : ∃ g cap, V k = .slice (some ⟨g, 0, none⟩) (n k) cap := by
            rcases (HZ.out.own k hlt).2 with ⟨_, h0⟩ | ⟨g, cap, cur, hv, _⟩
            · omega
            · exact ⟨g, cap, hv⟩
          rw [hv] at hc
          have hv' : Hid _ := hv
          clear hv
          have i2 : (m : Int) < (n k : Int) := by omega
          have h0 := HZ.out
          have hlg : g < wr.heap.size := ((h0.own k hlt).lt g (by rw [hv'.out]; rfl)).2
          have h1 := h0.stored hlt hv'.out (m * 2) (.int .u8 0)
          obtain ⟨⟨c0, hc0⟩, hf0⟩ := h0.at hlt hv'.out (m * 2) (show m * 2 < n k * 2 by omega)
          obtain ⟨⟨c1, hc1⟩, hf1⟩ := h1.at hlt hv'.out (m * 2 + 1) (show m * 2 + 1 < n k * 2 by omega)
          obtain ⟨Z', hZ', hZo, hZk'⟩ := h0.putKN hlt hv'.out hml k _ HZk.out
          have HZ' : Hid _ := hZ'
          have HZo : Hid _ := hZo
          have HZk' : Hid _ := hZk'
          have hgb : Hid (¬ Q g) := h0.nq k hlt g (by rw [hv'.out]; rfl)
          have hBlt := h0.lt
          clear h0 hZ' hZo hZk' h1
          as_aux_lemma =>
            go_wp2_with fail
            case roundEnd =>
            refine ⟨⟨m + 1, Z', by omega, by go_num, HZ', ?_, ?_, ?_⟩, ?_⟩
            · intro j hj; rw [HZo.out j (by omega)]; exact HZM.out j hj
            · show _ = _; rw [HZk'.out, List.drop_drop]; congr 2; omega
            · exact (HZB.out.setCell hgb.out _).setCell hgb.out _
            · simp [intOf]; omega
        · obtain ⟨ra, cap, hv⟩ : ∃ ra cap, V k = .slice ra (n k) cap := by
            rcases (HZ.out.own k hlt).2 with ⟨h, h0⟩ | ⟨g, cap, cur, hv, _⟩
            · exact ⟨none, 0, by rw [h, h0]⟩
            · exact ⟨_, cap, hv⟩
          rw [hv] at hc
          have hmn : m = n k := by omega
          have hBlt := HZ.out.lt
          go_wp2_with fail
          go_roundw
          case rel =>
            refine ⟨k + 1, Z, by omega, by go_num, HZ, ?_, HZB⟩
            intro j hj
            by_cases e : j = k
            · subst e
              have hl : (Y j).length = n j * 2 := (HY.out.own j hlt).1
              rw [HZk.out, hmn, List.drop_of_length_le (by omega), List.append_nil]
            · exact HZM.out j (by omega)
          case measure => simp [intOf]; omega
    · have HL0 : Hid (Longs KN Q N B V n 0 (.slice none 0 0) V wr) := ⟨HY.out.congr (fun j hj => HM.out j (by omega)), fun j hj => absurd hj (Nat.not_lt_zero _), fun j _ hj => absurd hj (Nat.not_lt_zero _), World.ownsRow_nil _ _ _ _, by simp [Value.ownBlock], fun g hg => by cases hg⟩
      clear HY HM
      go_wp2
      go_loopw [5, 6] (fun v i wr => ∃ (k : Nat) (L : Nat → Value), k ≤ N ∧ i = .int .i64 k ∧ Hid (Longs KN Q N B V n k v L wr) ∧ Hid (FrQ Q w wr)) (fun _ i _ => N - (intOf i).toNat)
      case atStart => exact ⟨0, V, Nat.zero_le _, rfl, HL0, HB⟩
      case round =>
        obtain ⟨k, L, hk, rfl, HL, HLB⟩ := hrel
        by_cases hlt2 : k < N
        · have i1 : (k : Int) < (N : Int) := by omega
          have hc := HL.out.held.cell k hlt2
          have hBlt := HL.out.held.lt
          have hnk : n k ≤ 1000000 := Hn.out k hlt2
          go_wp2
          go_loopw [7, 8] (fun x i wr => ∃ q : Nat, q ≤ 16 ∧ i = .int .i64 q ∧ Hid (Grow KN Q N B V n k u5 L q x wr) ∧ Hid (FrQ Q w wr)) (fun _ i _ => 16 - (intOf i).toNat)
          case atStart => exact ⟨0, Nat.zero_le _, rfl, Grow.start HL.out hlt2, HLB⟩
          case round =>
            obtain ⟨q, hq, rfl, HG, HGB⟩ := hrel
            have hQr : Hid (∀ (o : Obj) g, Q g → g < (wr.alloc o).heap.size) := fun o g hg => by rw [World.size_alloc]; have := HQ.out g hg; have := HGB.out.1.size; omega
            by_cases hlq : q < 16
            · have i3 : (q : Int) < 16 := by omega

              go_wp2_with (at_builtin; refine wpList_append_told _ rfl _ _ 62 rfl 0 79 i0 (.agg #[.int .u8 0, .int .i64 0]) 2 16 Tryz.underlying62 hi hz0 hz1 hz2 rfl (by decide) u7 (n k + q) (marks KN k (n k) ++ marks KN (-1 - (k : Int)) q) rfl (HG.out.own.alloc _) _ 1 1 (KN.mark (-1 - (k : Int)) q) rfl rfl (cellQ_two _ _ _ _) (mkKN_one _ _) (by unfold maxLen; omega) (by omega) (Nat.zero_le _) (by decide) ?_; intro v1 w1 hown1 hgrow1 hold1 hw1)
              have hG1 := (HG.out.alloc _).step hlt2 hown1 hgrow1 hold1 hw1 (hQr.out _)
              have hB1 : FrQ Q w w1 := (HGB.out.alloc _).grown hgrow1 HG.out.nq
              go_roundw
              case rel => exact ⟨q + 1, by omega, by go_num, hG1, hB1⟩
              case measure => simp [intOf]; omega
            · obtain rfl : q = 16 := by omega
              obtain ⟨g7, c7, rfl⟩ : ∃ g7 c7, u7 = .slice (some ⟨g7, 0, none⟩) (n k + 16) c7 := by
                rcases HG.out.own.2 with ⟨_, h0⟩ | ⟨g, cap, cur, hv, _⟩
                · omega
                · exact ⟨g, cap, hv⟩
              go_wp2_with (at_builtin; refine wpList_append_told _ rfl _ _ 48 rfl 0 62 i3 (.slice none 0 0) 1 24 Tryz.underlying48 hi3 hy0 hy1 hy2 rfl (by decide) u5 k ((List.range k).map L) rfl (HG.out.longs.row.alloc _) _ 1 1 [.slice (some ⟨g7, 0, none⟩) (n k + 16) c7] rfl rfl (cellQ_one _ _ _) (own_slice_one HG.out.own) (by unfold maxLen; omega) (by omega) (Nat.zero_le _) (by decide) ?_; intro v1 w1 hown1 hgrow1 hold1 hw1)
              have hG1 := (HG.out.alloc _).put hlt2 hown1 hgrow1 hw1 (hQr.out _)
              have hB1 : FrQ Q w w1 := (HGB.out.alloc _).grown hgrow1 HG.out.longs.nq
              go_roundw
              case rel => exact ⟨k + 1, _, by omega, by go_num, hG1, hB1⟩
              case measure => simp [intOf]; omega
        · obtain rfl : k = N := by omega
          clear hlt2
          go_wp2
          go_loopw [9] (fun i wr => ∃ c : Nat, c ≤ k ∧ i = .int .i64 c ∧ Hid (Longs KN Q k B V n k u5 L wr) ∧ Hid (FrQ Q w wr)) (fun i _ => k - (intOf i).toNat)
          case atStart => exact ⟨0, Nat.zero_le _, rfl, HL, HLB⟩
          case round =>
            obtain ⟨c, hcN, rfl, HC, HCB⟩ := hrel
            by_cases hlc : c < k
            · have i1 : (c : Int) < (k : Int) := by omega
              have hnc : n c ≤ 1000000 := Hn.out c hlc
              obtain ⟨h5, c5, gl, cl, hv5, _, hcV, _, _, _, ra, cap, hVc⟩ := HC.out.reads hlc
              subst hv5
              rw [hVc] at hcV
              have hBlt := HC.out.held.lt
              go_wp2
              go_loopw [11] (fun i wr => ∃ m : Nat, m ≤ n c ∧ i = .int .i64 m ∧ Hid (Longs KN Q k B V n k (.slice (some ⟨h5, 0, none⟩) k c5) L wr) ∧ Hid (FrQ Q w wr)) (fun i _ => n c - (intOf i).toNat)
              case atStart => exact ⟨0, Nat.zero_le _, rfl, HC, HCB⟩
              case round =>
                obtain ⟨m, hm, rfl, HM, HMB⟩ := hrel
                by_cases hlm : m < n c
                · have i2 : (m : Int) < (n c : Int) := by omega
                  obtain ⟨h5', c5', gl', cl', hv5', hcl, hcV', f1, _, f3, _⟩ := HM.out.reads hlc
                  cases hv5'
                  obtain ⟨g, cap', hVc', f3'⟩ := f3 m hlm
                  have f1' := f1 m hlm
                  have a0 : wr.cell? ⟨g, m * 2, none⟩ = some (.int .u8 0) := f3' 0 (by decide)
                  have a1 : wr.cell? ⟨g, m * 2 + 1, none⟩ = some (.int .i64 ((c : Int) * 1000 + (m : Int))) := f3' 1 (by decide)
                  have b0 : wr.cell? ⟨gl', m * 2, none⟩ = some (.int .u8 0) := f1' 0 (by decide)
                  have b1 : wr.cell? ⟨gl', m * 2 + 1, none⟩ = some (.int .i64 ((c : Int) * 1000 + (m : Int))) := f1' 1 (by decide)
                  rw [hVc'] at hcV'
                  clear f1 f3 hcV hVc f1' f3'
                  have i4 : (m : Int) < (n c : Int) + 16 := by omega
                  obtain ⟨e, he⟩ : ∃ e, e = (c : Int) * 1000 + (m : Int) := ⟨_, rfl⟩
                  have hq : ∀ wx : World, (binOp .neq 79 (.agg #[.int .u8 0, .int .i64 ((c : Int) * 1000 + (m : Int))]) (.agg #[.int .u8 0, .int .i64 ((c : Int) * 1000 + (m : Int))])).run Tryz.prog wx = .ok (.bool false) wx := fun wx => neqIns_same 0 ((c : Int) * 1000 + (m : Int)) wx
                  clear he
                  have hBl2 := HM.out.held.lt
                  as_aux_lemma =>
                    go_wp2_with fail
                    case roundEnd => exact ⟨⟨m + 1, by omega, by go_num, HM, HMB⟩, by simp [intOf]; omega⟩
                · go_wp2
                  go_loopw [12] (fun i wr => ∃ q : Nat, q ≤ 16 ∧ i = .int .i64 q ∧ Hid (Longs KN Q k B V n k (.slice (some ⟨h5, 0, none⟩) k c5) L wr) ∧ Hid (FrQ Q w wr)) (fun i _ => 16 - (intOf i).toNat)
                  case atStart => exact ⟨0, Nat.zero_le _, rfl, HM, HMB⟩
                  case round =>
                    obtain ⟨q, hq16, rfl, HQ2, HQB⟩ := hrel
                    by_cases hlq : q < 16
                    · have i3 : (q : Int) < 16 := by omega
                      obtain ⟨h5', c5', gl', cl', hv5', hcl, _, _, f2, _, _⟩ := HQ2.out.reads hlc
                      cases hv5'
                      have f2' := f2 q hlq
                      have b0 : wr.cell? ⟨gl', (n c + q) * 2, none⟩ = some (.int .u8 0) := f2' 0 (by decide)
                      have b1 : wr.cell? ⟨gl', (n c + q) * 2 + 1, none⟩ = some (.int .i64 ((-1 - (c : Int)) * 1000 + (q : Int))) := f2' 1 (by decide)
                      clear f2 hcV hVc f2'
                      have i4 : (n c : Int) + (q : Int) < (n c : Int) + 16 := by omega
                      have hq : ∀ wx : World, (binOp .neq 79 (.agg #[.int .u8 0, .int .i64 ((-1 - (c : Int)) * 1000 + (q : Int))]) (.agg #[.int .u8 0, .int .i64 ((-1 - (c : Int)) * 1000 + (q : Int))])).run Tryz.prog wx = .ok (.bool false) wx := fun wx => neqIns_same 0 ((-1 - (c : Int)) * 1000 + (q : Int)) wx
                      as_aux_lemma =>
                        go_wp2_with fail
                        case roundEnd => exact ⟨⟨q + 1, by omega, by go_num, HQ2, HQB⟩, by simp [intOf]; omega⟩
                    · go_wp2
                      go_roundw
                      case rel => exact ⟨c + 1, by omega, by go_num, HQ2, HQB⟩
                      case measure => simp [intOf]; omega
            · go_wp2
              go_ret
              exact ⟨rfl, HCB.out⟩
end Go.Proofs.YtpkohocjgnodnaaGreatDoor
