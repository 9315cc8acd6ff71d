/- The book's ownTexts: over lists that lie apart. -/
import Derived.Test.YtpkohocjgnodnaaGreatDoorHZMark
namespace Go.Proofs.YtpkohocjgnodnaaGreatDoor
open Go.RowKit

def KS : Knd := ⟨9, 1, 24, fun i k => [S (mkT i k)], fun _ _ => rfl, by decide, by decide⟩
theorem infoKS : (Tryz.prog.info? 9).map (fun i => (i.zero, i.size, i.bytes)) = some (some (.string ⟨#[]⟩), 1, 16) := by kernel_rfl
theorem infoLKS : (Tryz.prog.info? 24).map (fun i => (i.zero, i.size, i.bytes)) = some (some (.slice none 0 0), 1, 24) := by kernel_rfl
theorem mkKS_one (i k : Int) : ∀ u ∈ KS.mark i k, u.oneCell' = true := by
  intro u hu
  simp only [KS, List.mem_cons, List.not_mem_nil, or_false] at hu
  subst hu; rfl
/-- One whole stored. -/
theorem Held.putKS {Q : Nat → Prop} {N B : Nat} {V : Nat → Value} {n : Nat → Nat} {W : World} {X : Nat → List Value} (h : Held KS Q N B V n W X) {j g cap m : Nat} (hj : j < N) (hv : V j = .slice (some ⟨g, 0, none⟩) (n j) cap) (hm : m < n j)
    (i : Int) (r : List Value) (hx : X j = marks KS i m ++ r) :
    ∃ Z, Held KS Q N B V n (W.setCell ⟨g, m, none⟩ (S (mkT i m))) Z ∧ (∀ j', j' ≠ j → Z j' = X j') ∧ Z j = marks KS i (m + 1) ++ r.drop 1 := by
  have hl : (X j).length = n j * 1 := (h.own j hj).1
  have hml : (marks KS i m).length = m * 1 := marks_len KS i m
  have hr : 1 ≤ r.length := by rw [hx, List.length_append, hml] at hl; omega
  have h4 := h.stored hj hv m (S (mkT i m))
  refine ⟨_, h4, fun j' hj' => by simp [hj'], ?_⟩
  simp only [if_true]
  rw [hx]
  obtain ⟨x0, r0, rfl⟩ : ∃ x0 r0, r = x0 :: r0 := by
    cases r with
    | nil => simp at hr
    | cons x0 r0 => exact ⟨x0, r0, rfl⟩
  rw [List.set_append, if_neg (by omega), hml, Nat.mul_one, Nat.sub_self, marks, List.append_assoc]
  rfl
theorem Grow.below {K : Knd} {Q : Nat → Prop} {N B : Nat} {V : Nat → Value} {n : Nat → Nat} {k : Nat} {v : Value} {L : Nat → Value} {q : Nat} {x : Value} {W W' : World} (h : Grow K Q N B V n k v L q x W) (hb : Below W.heap.size W W') : Grow K Q N B V n k v L q x W' :=
  ⟨h.longs.below hb, own_below h.own hb, h.ap1, h.ap2, h.ap3, h.nq⟩
theorem FrQ.below {Q : Nat → Prop} {w W W' : World} (h : FrQ Q w W) (hb : Below W.heap.size W W') : FrQ Q w W' := h.trans (FrQ.of hb (fun _ _ hg => hg))
theorem cell_apart {W : World} {B k g m : Nat} {u v : Value} (h : W.cell? ⟨B, k, none⟩ = some u) (l : B < W.heap.size) (hn : B ≠ g) : (W.setCell ⟨g, m, none⟩ v).cell? ⟨B, k, none⟩ = some u ∧ B < (W.setCell ⟨g, m, none⟩ v).heap.size :=
  ⟨(World.cell?_of_block (a := ⟨B, k, none⟩) (Below.heap_setCell W ⟨g, m, none⟩ v B hn)).trans h, by rw [World.size_setCell]; exact l⟩
theorem keep2 {W W' : World} {b j g m : Nat} {u v : Value} (hb : Below W.heap.size W W') (h1 : W.cell? ⟨b, j, none⟩ = some u) (l1 : b < W.heap.size) (h2 : W.cell? ⟨g, m, none⟩ = some v) (f2 : W.frozen? ⟨g, m, none⟩ = false) (l2 : g < W.heap.size) :
    W'.cell? ⟨b, j, none⟩ = some u ∧ b < W'.heap.size ∧ W'.cell? ⟨g, m, none⟩ = some v ∧ W'.frozen? ⟨g, m, none⟩ = false ∧ g < W'.heap.size :=
  ⟨(hb.cell (p := ⟨b, j, none⟩) l1).trans h1, Nat.lt_of_lt_of_le l1 hb.size, (hb.cell (p := ⟨g, m, none⟩) l2).trans h2, (hb.frozen (p := ⟨g, m, none⟩) l2).trans f2, Nat.lt_of_lt_of_le l2 hb.size⟩
set_option maxRecDepth 100000 in
set_option maxHeartbeats 8000000 in
theorem ownTexts_any (Q : Nat → Prop) (N B capB : Nat) (V : Nat → Value) (n : Nat → Nat) (X : Nat → List Value) (w : World) (hN : N ≤ 1000) (hQ : ∀ g, Q g → g < w.heap.size) (hn : ∀ j, j < N → n j ≤ 1000000) (H0 : Held KS Q N B V n w X) :
    Calls Tryz.prog 50 #[.slice (some ⟨B, 0, none⟩) N capB] w fun e w' => e = .returned (.bool true) ∧ FrQ Q w w' := by
  have HH : Hid (Held KS Q N B V n w X) := H0
  clear H0
  have Hn : Hid (∀ j, j < N → n j ≤ 1000000) := hn
  have HQ : Hid (∀ g, Q g → g < w.heap.size) := hQ
  clear hn hQ
  obtain ⟨i0, hi, hz0, hz1, hz2⟩ := info_parts infoKS
  obtain ⟨i3, hi3, hy0, hy1, hy2⟩ := info_parts infoLKS
  go_enter Tryz.func50, Tryz.ntmps50
  go_wp2
  go_loopw [3] (fun i wr => ∃ (k : Nat) (Y : Nat → List Value), k ≤ N ∧ i = .int .i64 k ∧ Hid (Held KS Q N B V n wr Y) ∧ Hid (∀ j, j < k → Y j = marks KS j (n j)) ∧ Hid (FrQ Q w wr)) (fun i _ => N - (intOf i).toNat)
  case atStart => exact ⟨0, X, Nat.zero_le _, rfl, HH, fun j h => absurd h (Nat.not_lt_zero _), FrQ.refl _ _⟩
  case round =>
    obtain ⟨k, Y, hk, rfl, HY, HM, HB⟩ := hrel
    by_cases hlt : k < N
    · have i1 : (k : Int) < (N : Int) := by omega
      have hnk : n k ≤ 1000000 := Hn.out k hlt
      go_wp2
      go_loopw [4] (fun i wr => ∃ (m : Nat) (Z : Nat → List Value), m ≤ n k ∧ i = .int .i64 m ∧ Hid (Held KS Q N B V n wr Z) ∧ Hid (∀ j, j < k → Z j = marks KS j (n j)) ∧ Hid (Z k = marks KS k m ++ (Y k).drop (m * 1)) ∧ Hid (FrQ Q w wr)) (fun i _ => n k - (intOf i).toNat)
      case atStart => exact ⟨0, Y, Nat.zero_le _, rfl, HY, HM, by show _ = _; simp [marks], HB⟩
      case round =>
        obtain ⟨m, Z, hm, rfl, HZ, HZM, HZk, HZB⟩ := hrel
        have hc := HZ.out.cell k hlt
        by_cases hml : m < n k
        · obtain ⟨g, cap, hv⟩ : ∃ g cap, V k = .slice (some ⟨g, 0, none⟩) (n k) cap := by
            rcases (HZ.out.own k hlt).2 with ⟨_, h0⟩ | ⟨g, cap, cur, hv, _⟩
            · omega
            · exact ⟨g, cap, hv⟩
          rw [hv] at hc
          have hv' : Hid _ := hv
          clear hv
          have i2 : (m : Int) < (n k : Int) := by omega
          have h0 := HZ.out
          have hlg : g < wr.heap.size := ((h0.own k hlt).lt g (by rw [hv'.out]; rfl)).2
          obtain ⟨⟨c0, hc0⟩, hf0⟩ := h0.at hlt hv'.out m (show m < n k * 1 by omega)
          have HPut : Hid (∀ w5 : World, Below wr.heap.size wr w5 → ∃ Z', Held KS Q N B V n (w5.setCell ⟨g, m, none⟩ (S (mkT k m))) Z' ∧ (∀ j', j' ≠ k → Z' j' = Z j') ∧ Z' k = marks KS k (m + 1) ++ ((Y k).drop (m * 1)).drop 1) := fun w5 hb => (h0.below hb).putKS hlt hv'.out hml k _ HZk.out
          have hgb : Hid (¬ Q g) := h0.nq k hlt g (by rw [hv'.out]; rfl)
          have hBlt := h0.lt
          have ngB : B ≠ g := fun e => h0.off k hlt (by rw [hv'.out, e]; rfl)
          have HMk : Hid (∀ w5 : World, Calls Tryz.prog 97 #[.int .i64 (k : Int), .int .i64 (m : Int)] w5 fun e w' => e = .returned (S (mkT k m)) ∧ Below w5.heap.size w5 w') := fun w5 => mark_any k m w5 ⟨by omega, by omega⟩ ⟨by omega, by omega⟩
          clear h0
          go_upto_region 7 with fail
          go_region_held3 (fun wx : World => wx.cell? ⟨B, k, none⟩ = some (.slice (some ⟨g, 0, none⟩) (n k) cap) ∧ B < wx.heap.size) (first | exact ⟨hc, hBlt⟩ | (go_keep; done) | exact ⟨k5, l5⟩ | exact cell_apart k5 l5 ngB) (first | (go_at_call 97; refine (HMk.out _).mono ?_; rintro e w5 ⟨rfl, h5⟩; have hb5 : Below wr.heap.size wr w5 := ((Below.refl _ wr).drew).trans h5; obtain ⟨k5, l5, c5, f5, g5⟩ := keep2 hb5 hc hBlt hc0 hf0 hlg) | fail)
          obtain ⟨Z', hZ', hZo, hZk'⟩ := HPut.out w5 hb5
          have HZ' : Hid _ := hZ'
          have HZo : Hid _ := hZo
          have HZk' : Hid _ := hZk'
          have HF5 : Hid (FrQ Q w (w5.setCell ⟨g, m, none⟩ (S (mkT k m)))) := (HZB.out.below hb5).setCell hgb.out _
          clear hZ' hZo hZk' hb5 h5 k5 l5 c5 f5 g5 hc0 hf0 hlg HPut HMk
          go_wp2_with fail
          case roundEnd =>
          refine ⟨⟨m + 1, Z', by omega, by go_num, HZ', ?_, ?_, HF5⟩, ?_⟩
          · intro j hj; rw [HZo.out j (by omega)]; exact HZM.out j hj
          · show _ = _; rw [HZk'.out, List.drop_drop]; congr 2
          · simp [intOf]; omega
        · obtain ⟨ra, cap, hv⟩ : ∃ ra cap, V k = .slice ra (n k) cap := by
            rcases (HZ.out.own k hlt).2 with ⟨h, h0⟩ | ⟨g, cap, cur, hv, _⟩
            · exact ⟨none, 0, by rw [h, h0]⟩
            · exact ⟨_, cap, hv⟩
          rw [hv] at hc
          have hmn : m = n k := by omega
          have hBlt := HZ.out.lt
          go_wp2_with fail
          go_roundw
          case rel =>
            refine ⟨k + 1, Z, by omega, by go_num, HZ, ?_, HZB⟩
            intro j hj
            by_cases e : j = k
            · subst e
              have hl : (Y j).length = n j * 1 := (HY.out.own j hlt).1
              rw [HZk.out, hmn, List.drop_of_length_le (by omega), List.append_nil]
            · exact HZM.out j (by omega)
          case measure => simp [intOf]; omega
    · have HL0 : Hid (Longs KS Q N B V n 0 (.slice none 0 0) V wr) := ⟨HY.out.congr (fun j hj => HM.out j (by omega)), fun j hj => absurd hj (Nat.not_lt_zero _), fun j _ hj => absurd hj (Nat.not_lt_zero _), World.ownsRow_nil _ _ _ _, by simp [Value.ownBlock], fun g hg => by cases hg⟩
      clear HY HM
      go_wp2
      go_loopw [5, 6] (fun v i wr => ∃ (k : Nat) (L : Nat → Value), k ≤ N ∧ i = .int .i64 k ∧ Hid (Longs KS Q N B V n k v L wr) ∧ Hid (FrQ Q w wr)) (fun _ i _ => N - (intOf i).toNat)
      case atStart => exact ⟨0, V, Nat.zero_le _, rfl, HL0, HB⟩
      case round =>
        obtain ⟨k, L, hk, rfl, HL, HLB⟩ := hrel
        by_cases hlt2 : k < N
        · have i1 : (k : Int) < (N : Int) := by omega
          have hc := HL.out.held.cell k hlt2
          have hBlt := HL.out.held.lt
          have hnk : n k ≤ 1000000 := Hn.out k hlt2
          go_wp2
          go_loopw [7, 8] (fun x i wr => ∃ q : Nat, q ≤ 16 ∧ i = .int .i64 q ∧ Hid (Grow KS Q N B V n k u5 L q x wr) ∧ Hid (FrQ Q w wr)) (fun _ i _ => 16 - (intOf i).toNat)
          case atStart => exact ⟨0, Nat.zero_le _, rfl, Grow.start HL.out hlt2, HLB⟩
          case round =>
            obtain ⟨q, hq, rfl, HG, HGB⟩ := hrel
            have hQr : Hid (∀ (o : Obj) g, Q g → g < (wr.alloc o).heap.size) := fun o g hg => by rw [World.size_alloc]; have := HQ.out g hg; have := HGB.out.1.size; omega
            by_cases hlq : q < 16
            · have i3 : (q : Int) < 16 := by omega

              have HMk : Hid (∀ w5 : World, Calls Tryz.prog 97 #[.int .i64 (-1 - (k : Int)), .int .i64 (q : Int)] w5 fun e w' => e = .returned (S (mkT (-1 - (k : Int)) q)) ∧ Below w5.heap.size w5 w') := fun w5 => mark_any _ _ w5 ⟨by omega, by omega⟩ ⟨by omega, by omega⟩
              go_wp2_with fail
              refine Calls.mono (HMk.out _) ?_
              rintro e w5 ⟨rfl, hb5⟩
              have HG5 : Hid (Grow KS Q N B V n k u5 L q u7 w5) := HG.out.below hb5
              have HGB5 : Hid (FrQ Q w w5) := HGB.out.below hb5
              have hQr5 : Hid (∀ (o : Obj) g, Q g → g < (w5.alloc o).heap.size) := fun o g hg => by rw [World.size_alloc]; have := HQ.out g hg; have := HGB5.out.1.size; omega
              clear hb5 HMk
              go_wp2_with (at_builtin; refine wpList_append_told _ rfl _ _ 24 rfl 0 9 i0 (.string ⟨#[]⟩) 1 16 Tryz.underlying24 hi hz0 hz1 hz2 rfl (by decide) u7 (n k + q) (marks KS k (n k) ++ marks KS (-1 - (k : Int)) q) rfl (HG5.out.own.alloc _) _ 1 1 (KS.mark (-1 - (k : Int)) q) rfl rfl (cellQ_one _ _ _) (mkKS_one _ _) (by unfold maxLen; omega) (by omega) (Nat.zero_le _) (by decide) ?_; intro v1 w1 hown1 hgrow1 hold1 hw1)
              have hG1 := (HG5.out.alloc _).step hlt2 hown1 hgrow1 hold1 hw1 (hQr5.out _)
              have hB1 : FrQ Q w w1 := (HGB5.out.alloc _).grown hgrow1 HG5.out.nq
              go_roundw
              case rel => exact ⟨q + 1, by omega, by go_num, hG1, hB1⟩
              case measure => simp [intOf]; omega
            · obtain rfl : q = 16 := by omega
              obtain ⟨g7, c7, rfl⟩ : ∃ g7 c7, u7 = .slice (some ⟨g7, 0, none⟩) (n k + 16) c7 := by
                rcases HG.out.own.2 with ⟨_, h0⟩ | ⟨g, cap, cur, hv, _⟩
                · omega
                · exact ⟨g, cap, hv⟩
              go_wp2_with (at_builtin; refine wpList_append_told _ rfl _ _ 42 rfl 0 24 i3 (.slice none 0 0) 1 24 Tryz.underlying42 hi3 hy0 hy1 hy2 rfl (by decide) u5 k ((List.range k).map L) rfl (HG.out.longs.row.alloc _) _ 1 1 [.slice (some ⟨g7, 0, none⟩) (n k + 16) c7] rfl rfl (cellQ_one _ _ _) (own_slice_one HG.out.own) (by unfold maxLen; omega) (by omega) (Nat.zero_le _) (by decide) ?_; intro v1 w1 hown1 hgrow1 hold1 hw1)
              have hG1 := (HG.out.alloc _).put hlt2 hown1 hgrow1 hw1 (hQr.out _)
              have hB1 : FrQ Q w w1 := (HGB.out.alloc _).grown hgrow1 HG.out.longs.nq
              go_roundw
              case rel => exact ⟨k + 1, _, by omega, by go_num, hG1, hB1⟩
              case measure => simp [intOf]; omega
        · obtain rfl : k = N := by omega
          clear hlt2
          go_wp2
          go_loopw [9] (fun i wr => ∃ c : Nat, c ≤ k ∧ i = .int .i64 c ∧ Hid (Longs KS Q k B V n k u5 L wr) ∧ Hid (FrQ Q w wr)) (fun i _ => k - (intOf i).toNat)
          case atStart => exact ⟨0, Nat.zero_le _, rfl, HL, HLB⟩
          case round =>
            obtain ⟨c, hcN, rfl, HC, HCB⟩ := hrel
            by_cases hlc : c < k
            · have i1 : (c : Int) < (k : Int) := by omega
              have hnc : n c ≤ 1000000 := Hn.out c hlc
              obtain ⟨h5, c5, gl, cl, hv5, _, hcV, _, _, _, ra, cap, hVc⟩ := HC.out.reads hlc
              subst hv5
              rw [hVc] at hcV
              have hBlt := HC.out.held.lt
              go_wp2
              go_loopw [11] (fun i wr => ∃ m : Nat, m ≤ n c ∧ i = .int .i64 m ∧ Hid (Longs KS Q k B V n k (.slice (some ⟨h5, 0, none⟩) k c5) L wr) ∧ Hid (FrQ Q w wr)) (fun i _ => n c - (intOf i).toNat)
              case atStart => exact ⟨0, Nat.zero_le _, rfl, HC, HCB⟩
              case round =>
                obtain ⟨m, hm, rfl, HM, HMB⟩ := hrel
                by_cases hlm : m < n c
                · have i2 : (m : Int) < (n c : Int) := by omega
                  obtain ⟨h5', c5', gl', cl', hv5', hcl, hcV', f1, _, f3, _⟩ := HM.out.reads hlc
                  cases hv5'
                  obtain ⟨g, cap', hVc', f3'⟩ := f3 m hlm
                  have f1' := f1 m hlm
                  have a0 : wr.cell? ⟨g, m, none⟩ = some (S (mkT (c : Int) m)) := by have := f3' 0 (by decide); simpa [KS] using this
                  have b0 : wr.cell? ⟨gl', m, none⟩ = some (S (mkT (c : Int) m)) := by have := f1' 0 (by decide); simpa [KS] using this
                  rw [hVc'] at hcV'
                  clear f1 f3 hcV hVc f1' f3'
                  have i4 : (m : Int) < (n c : Int) + 16 := by omega
                  have z : (mkT (c : Int) m == mkT (c : Int) m) = true := by simp
                  have hBl2 := HM.out.held.lt
                  have lh5 : h5 < wr.heap.size := (HM.out.row.lt h5 rfl).2
                  have lg : g < wr.heap.size := by by_cases q : g < wr.heap.size; exact q; exact absurd a0 (by simp [World.cell?, Array.getElem?_eq_none (Nat.le_of_not_lt q)])
                  have lgl : gl' < wr.heap.size := by by_cases q : gl' < wr.heap.size; exact q; exact absurd b0 (by simp [World.cell?, Array.getElem?_eq_none (Nat.le_of_not_lt q)])
                  have HMk : Hid (∀ w5 : World, Calls Tryz.prog 97 #[.int .i64 (c : Int), .int .i64 (m : Int)] w5 fun e w' => e = .returned (S (mkT c m)) ∧ Below w5.heap.size w5 w') := fun w5 => mark_any c m w5 ⟨by omega, by omega⟩ ⟨by omega, by omega⟩
                  have HKp : Hid (∀ wx : World, Below wr.heap.size wr wx → (wx.cell? ⟨B, c, none⟩ = some (.slice (some ⟨g, 0, none⟩) (n c) cap') ∧ wx.cell? ⟨h5, c, none⟩ = some (.slice (some ⟨gl', 0, none⟩) (n c + 16) cl') ∧ wx.cell? ⟨g, m, none⟩ = some (S (mkT c m)) ∧ wx.cell? ⟨gl', m, none⟩ = some (S (mkT c m))) ∧ B < wx.heap.size ∧ h5 < wx.heap.size ∧ g < wx.heap.size ∧ gl' < wx.heap.size) := fun wx hb => ⟨⟨(hb.cell (p := ⟨B, c, none⟩) hBl2).trans hcV', (hb.cell (p := ⟨h5, c, none⟩) lh5).trans hcl, (hb.cell (p := ⟨g, m, none⟩) lg).trans a0, (hb.cell (p := ⟨gl', m, none⟩) lgl).trans b0⟩, Nat.lt_of_lt_of_le hBl2 hb.size, Nat.lt_of_lt_of_le lh5 hb.size, Nat.lt_of_lt_of_le lg hb.size, Nat.lt_of_lt_of_le lgl hb.size⟩
                  generalize mkT (c : Int) (m : Int) = tm at *
                  go_upto_region 25 with fail
                  go_region_held3 (fun wx : World => (wx.cell? ⟨B, c, none⟩ = some (.slice (some ⟨g, 0, none⟩) (n c) cap') ∧ wx.cell? ⟨h5, c, none⟩ = some (.slice (some ⟨gl', 0, none⟩) (n c + 16) cl') ∧ wx.cell? ⟨g, m, none⟩ = some (S tm) ∧ wx.cell? ⟨gl', m, none⟩ = some (S tm)) ∧ B < wx.heap.size ∧ h5 < wx.heap.size ∧ g < wx.heap.size ∧ gl' < wx.heap.size) (first | exact HKp.out _ (Below.refl _ _) | (go_keep; done) | exact HKp.out _ hb6 | exact HKp.out _ hb5) (first | (go_at_call 97; refine (HMk.out _).mono ?_; rintro e w5 ⟨rfl, h5x⟩; have hb5 : Below wr.heap.size wr w5 := ((Below.refl _ wr).drew).trans h5x) | (go_at_call 97; refine (HMk.out _).mono ?_; rintro e w6 ⟨rfl, h6x⟩; have hb6 : Below wr.heap.size wr w6 := hb5.trans (h6x.mono hb5.size)) | fail)
                  all_goals
                    have HM6 : Hid (Longs KS Q k B V n k (.slice (some ⟨h5, 0, none⟩) k c5) L w6) := HM.out.below hb6
                    have HB6 : Hid (FrQ Q w w6) := HMB.out.below hb6
                    clear hb6 hb5 h5x h6x HKp HMk
                    go_wp2_with fail
                    case roundEnd => exact ⟨⟨m + 1, by omega, by go_num, HM6, HB6⟩, by simp [intOf]; omega⟩
                · go_wp2
                  go_loopw [12] (fun i wr => ∃ q : Nat, q ≤ 16 ∧ i = .int .i64 q ∧ Hid (Longs KS Q k B V n k (.slice (some ⟨h5, 0, none⟩) k c5) L wr) ∧ Hid (FrQ Q w wr)) (fun i _ => 16 - (intOf i).toNat)
                  case atStart => exact ⟨0, Nat.zero_le _, rfl, HM, HMB⟩
                  case round =>
                    obtain ⟨q, hq16, rfl, HQ2, HQB⟩ := hrel
                    by_cases hlq : q < 16
                    · have i3 : (q : Int) < 16 := by omega
                      obtain ⟨h5', c5', gl', cl', hv5', hcl, _, _, f2, _, _⟩ := HQ2.out.reads hlc
                      cases hv5'
                      have f2' := f2 q hlq
                      have b0 : wr.cell? ⟨gl', n c + q, none⟩ = some (S (mkT (-1 - (c : Int)) q)) := by have := f2' 0 (by decide); simpa [KS] using this
                      clear f2 hcV hVc f2'
                      have i4 : (n c : Int) + (q : Int) < (n c : Int) + 16 := by omega
                      have z : (mkT (-1 - (c : Int)) q == mkT (-1 - (c : Int)) q) = true := by simp
                      have lh5 : h5 < wr.heap.size := (HQ2.out.row.lt h5 rfl).2
                      have lgl : gl' < wr.heap.size := by by_cases q : gl' < wr.heap.size; exact q; exact absurd b0 (by simp [World.cell?, Array.getElem?_eq_none (Nat.le_of_not_lt q)])
                      have HMk : Hid (∀ w5 : World, Calls Tryz.prog 97 #[.int .i64 (-1 - (c : Int)), .int .i64 (q : Int)] w5 fun e w' => e = .returned (S (mkT (-1 - (c : Int)) q)) ∧ Below w5.heap.size w5 w') := fun w5 => mark_any _ _ w5 ⟨by omega, by omega⟩ ⟨by omega, by omega⟩
                      have HKp : Hid (∀ wx : World, Below wr.heap.size wr wx → (wx.cell? ⟨h5, c, none⟩ = some (.slice (some ⟨gl', 0, none⟩) (n c + 16) cl') ∧ wx.cell? ⟨gl', n c + q, none⟩ = some (S (mkT (-1 - (c : Int)) q))) ∧ h5 < wx.heap.size ∧ gl' < wx.heap.size) := fun wx hb => ⟨⟨(hb.cell (p := ⟨h5, c, none⟩) lh5).trans hcl, (hb.cell (p := ⟨gl', n c + q, none⟩) lgl).trans b0⟩, Nat.lt_of_lt_of_le lh5 hb.size, Nat.lt_of_lt_of_le lgl hb.size⟩
                      generalize mkT (-1 - (c : Int)) (q : Int) = tm at *
                      have i5 : (0 : Int) ≤ (n c : Int) + (q : Int) := by omega
                      have i6 : ¬ ((n c : Int) + (q : Int) < 0) := by omega
                      have i7 : ¬ ((n c : Int) + 16 ≤ (n c : Int) + (q : Int)) := by omega
                      have hwv : IntKind.i64.wrap ((n c : Int) + (q : Int)) = (n c : Int) + (q : Int) := by rw [IntKind.wrap_i64]; omega
                      have htn : ((n c : Int) + (q : Int)).toNat = n c + q := by omega
                      have hwu : IntKind.i64.wrap (-1 - (c : Int)) = -1 - (c : Int) := by rw [IntKind.wrap_i64]; omega
                      go_upto_region 30 with fail
                      go_region_held3 (fun wx : World => (wx.cell? ⟨h5, c, none⟩ = some (.slice (some ⟨gl', 0, none⟩) (n c + 16) cl') ∧ wx.cell? ⟨gl', n c + q, none⟩ = some (S tm)) ∧ h5 < wx.heap.size ∧ gl' < wx.heap.size) (first | exact HKp.out _ (Below.refl _ _) | (go_keep; done) | exact HKp.out _ hb5) (first | (go_at_call 97; refine (HMk.out _).mono ?_; rintro e w5 ⟨rfl, h5x⟩; have hb5 : Below wr.heap.size wr w5 := ((Below.refl _ wr).drew).trans h5x) | fail)
                      all_goals
                        have HM6 : Hid (Longs KS Q k B V n k (.slice (some ⟨h5, 0, none⟩) k c5) L w5) := HQ2.out.below hb5
                        have HB6 : Hid (FrQ Q w w5) := HQB.out.below hb5
                        clear hb5 h5x HKp HMk
                        go_wp2_with fail
                        case roundEnd => exact ⟨⟨q + 1, by omega, by go_num, HM6, HB6⟩, by simp [intOf]; omega⟩
                    · go_wp2
                      go_roundw
                      case rel => exact ⟨c + 1, by omega, by go_num, HQ2, HQB⟩
                      case measure => simp [intOf]; omega
            · go_wp2
              go_ret
              exact ⟨rfl, HCB.out⟩
end Go.Proofs.YtpkohocjgnodnaaGreatDoor
