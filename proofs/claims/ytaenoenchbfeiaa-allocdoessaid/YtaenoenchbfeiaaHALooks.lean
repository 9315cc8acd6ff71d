/- looks. -/
import Derived.Test.YtaenoenchbfeiaaHAStep0
namespace Go.Proofs.Ytaenoenchbfeiaa
open Go.RowKit

theorem own_row {w w' : World} {base base' n : Nat} {v : Value} {xs : List Value} (h : w.ownsRow base 3 1 v n xs) (hb : base' ≤ base) (hk : ∀ (g : Nat) (cs : Array Value), w.heap[g]? = some (.cells cs 3 (0, 0)) → w'.heap[g]? = w.heap[g]?) : w'.ownsRow base' 3 1 v n xs := by
  have := own_same h (w' := w') (fun g hg => by
    obtain ⟨cs, hc⟩ := own_blk h hg
    exact hk g cs hc)
  refine ⟨this.1, ?_⟩
  rcases this.2 with h' | ⟨g, cap, cur, hv, hbb, r⟩
  · exact .inl h'
  · exact .inr ⟨g, cap, cur, hv, Nat.le_trans hb hbb, r⟩
theorem MX.wt {w : World} {a r b : Nat} {A A' : Al} {n M : Nat} {F G : Nat → Prop} (h : MX w a r b A A' n M F G) : ∃ ra c, w.cell? ⟨r, 1, none⟩ = some (.slice ra A'.row.length c) ∧ r < w.heap.size ∧ WX w ra A'.row := by
  obtain ⟨ga, gm, gf, cf, vr, gr, vw, hA, hR, _⟩ := h
  obtain ⟨ra, c, rfl⟩ := hR.wt.sl
  exact ⟨ra, c, hR.c1, hR.lt r (.inl (.inl rfl)), hR.wt.wx⟩
set_option maxRecDepth 100000 in
set_option maxHeartbeats 8000000 in
theorem looks_any {w : World} {a r b : Nat} {A : Al} {n M : Nat} {F G : Nat → Prop} (h : MX w a r b A A n M F G) (hI : Inv A) (hM : M ≤ 800000) :
    Calls Try.prog 10 #[.pointer (some ⟨a, 0, none⟩), .pointer (some ⟨r, 0, none⟩), .pointer (some ⟨b, 0, none⟩)] w fun e w' => e = .returned (.bool true) ∧ ∃ G', MX w' a r b A A n (M + 4) F G' ∧ Chg (Un F G) (Un F G') w w' := by
  have HM0 : Hid (MX w a r b A A n M F G) := h
  have HI : Hid (Inv A) := hI
  have hfl : (frs 0 A.who).length ≤ 4096 := Nat.le_trans (frs_len 0 A.who) hI.len
  have hrl := row_le hI
  clear h hI
  go_enter Try.func10, Try.ntmps10
  go_wp2
  go_loopw [7, 8, 9, 10, 11] (fun i _ _ _ _ wr => ∃ (j : Nat), i = .int .i64 j ∧ j ≤ 2 ∧ Hid (∃ Gj, MX wr a r b A A n (M + 2 * j) F Gj ∧ Chg (Un F G) (Un F Gj) w wr)) (fun i _ _ _ _ _ => 2 - (intOf i).toNat)
  case atStart => exact ⟨0, rfl, by omega, ⟨G, HM0.out, Chg.quiet _ (Below.refl _ _)⟩⟩
  case round =>
    obtain ⟨j, rfl, hj, HJ⟩ := hrel
    clear HM0
    by_cases hlt : j < 2
    · have k1 : (j : Int) < 2 := by omega
      obtain ⟨Gj, hX, hC⟩ := HJ.out
      have HX : Hid (MX wr a r b A A n (M + 2 * j) F Gj) := hX
      have HC : Hid (Chg (Un F G) (Un F Gj) w wr) := hC
      have HFr : Hid _ := mx_free hX HI.out
      clear hX hC HJ
      go_wp2_with fail
      refine Calls.mono HFr.out ?_
      rintro e w1 ⟨⟨v1, rfl, ho1⟩, hb1⟩
      obtain ⟨r1, c1, hv1⟩ := own_sl ho1
      subst hv1
      have HX1 : Hid (MX w1 a r b A A n (M + 2 * j) F Gj) := HX.out.quiet hb1
      have HO1 : Hid (w1.ownsRow wr.heap.size 3 1 (.slice r1 (frs 0 A.who).length c1) (frs 0 A.who).length ((frs 0 A.who).map (Value.int .i64))) := ho1
      have HB1 : Hid (Below wr.heap.size wr w1) := hb1
      have HWt : Hid _ := mx_waiting HX1.out HI.out
      clear ho1 hb1 HFr
      go_wp2_with fail
      refine Calls.mono HWt.out ?_
      rintro e w2 ⟨⟨v2, rfl, ho2⟩, hb2⟩
      obtain ⟨r2, c2, hv2⟩ := own_sl ho2
      subst hv2
      have HX2 : Hid (MX w2 a r b A A n (M + 2 * j) F Gj) := HX1.out.quiet hb2
      have HO2 : Hid (w2.ownsRow w1.heap.size 103 2 (.slice r2 A.row.length c2) A.row.length (rowCells A.row)) := ho2
      have HP2 : Hid (w2.ownsRow wr.heap.size 3 1 (.slice r1 (frs 0 A.who).length c1) (frs 0 A.who).length ((frs 0 A.who).map (Value.int .i64))) := own_below HO1.out hb2
      have HB2 : Hid (Below wr.heap.size wr w2) := HB1.out.trans (hb2.mono HB1.out.size)
      have HS1 : Hid (wr.heap.size ≤ w1.heap.size) := HB1.out.size
      clear ho2 hb2 HWt HO1 HX1
      have HK : Hid _ := mx_ints HX2.out (by omega) r1 (frs 0 A.who).length c1 _ (own_mono HP2.out) (by omega) (fun g hg hU => by
        have h1 := HX.out.lt g hU
        have h2 := (HP2.out.lt g hg).1
        omega)
      go_wp2_with fail
      refine Calls.mono HK.out ?_
      rintro e w3 ⟨⟨rr, rfl⟩, G3, hX3, hb3, hk3, hg3, ht3⟩
      have HX3 : Hid (MX w3 a r b A A n (M + 2 * j + 1) F G3) := hX3
      have HP3 : Hid (w3.ownsRow 0 3 1 (.slice r1 (frs 0 A.who).length c1) (frs 0 A.who).length ((frs 0 A.who).map (Value.int .i64))) := own_row HP2.out (Nat.zero_le _) (fun g cs hg => ht3 g cs (.inl hg))
      have HO3 : Hid (w3.ownsRow w1.heap.size 103 2 (.slice r2 A.row.length c2) A.row.length (rowCells A.row)) := own_same HO2.out (fun g hg => by
        obtain ⟨cs, hc⟩ := own_blk HO2.out hg
        exact ht3 g cs (.inr hc))
      have HC3 : Hid (Chg (Un F Gj) (Un F G3) wr w3) := by
        refine ⟨fun g hg hn => (hk3 g (Nat.lt_of_lt_of_le hg HB2.out.size) (fun e => hn (.inr e))).trans (HB2.out.block g hg), (HB2.out.mono (Nat.zero_le _)).trans hb3, fun g hg => ?_⟩
        rcases hg with hg | hg
        · exact .inl (.inl hg)
        · rcases hg3 g hg with h' | h' | h'
          · exact .inl (.inr h')
          · exact .inr (HP2.out.lt g h').1
          · exact .inr (Nat.le_trans HB2.out.size h')
      have HN3 : Hid (∀ g, (Value.slice r2 A.row.length c2).ownBlock = some g → ¬ Un F G3 g) := fun g hg hU => by
        have h0 := HS1.out
        have h2 := (HO2.out.lt g hg)
        rcases hU with hU | hU
        · have h1 := HX.out.lt g (.inl hU)
          omega
        · rcases hg3 g hU with h' | h' | h'
          · have h1 := HX.out.lt g (.inr h')
            omega
          · obtain ⟨ca, ka⟩ := own_blk HP2.out h'
            obtain ⟨cb, kb⟩ := own_blk HO2.out hg
            exact ty_ne ka kb (by decide) rfl
          · omega
      clear hX3 hb3 hk3 hg3 ht3 HK HX2 HP2 HO2 HB2
      have HK : Hid _ := mx_waiters HX3.out (by omega) r2 A.row.length c2 _ (own_mono HO3.out) (by omega) HN3.out
      go_wp2_with fail
      refine Calls.mono HK.out ?_
      rintro e w4 ⟨⟨rr4, rfl⟩, G4, hX4, hb4, hk4, hg4, ht4⟩
      have HX4 : Hid (MX w4 a r b A A n (M + 2 * (j + 1)) F G4) := by
        rw [show M + 2 * (j + 1) = M + 2 * j + 1 + 1 by omega]
        exact hX4
      have HP4 : Hid (w4.ownsRow 0 3 1 (.slice r1 (frs 0 A.who).length c1) (frs 0 A.who).length ((frs 0 A.who).map (Value.int .i64))) := own_row HP3.out (Nat.zero_le _) (fun g cs hg => ht4 g cs (.inl hg))
      have HO4 : Hid (w4.ownsRow w1.heap.size 103 2 (.slice r2 A.row.length c2) A.row.length (rowCells A.row)) := own_same HO3.out (fun g hg => by
        obtain ⟨cs, hc⟩ := own_blk HO3.out hg
        exact ht4 g cs (.inr hc))
      have HC4 : Hid (Chg (Un F Gj) (Un F G4) wr w4) := by
        have hs3 := HC3.out.2.1.size
        refine ⟨fun g hg hn => (hk4 g (Nat.lt_of_lt_of_le hg hs3) (fun e => HC3.out.off hg hn (.inr e))).trans (HC3.out.1 g hg hn), HC3.out.2.1.trans hb4, fun g hg => ?_⟩
        rcases hg with hg | hg
        · exact .inl (.inl hg)
        · rcases hg4 g hg with h' | h' | h'
          · exact HC3.out.2.2 g (.inr h')
          · exact .inr (Nat.le_trans HS1.out (HO3.out.lt g h').1)
          · exact .inr (Nat.le_trans hs3 h')
      clear hX4 hb4 hk4 hg4 ht4 HK HX3 HP3 HO3 HN3 HC3
      have HK : Hid _ := mx_rfree HX4.out HI.out
      go_wp2_with fail
      refine Calls.mono HK.out ?_
      rintro e w5 ⟨⟨v5, rfl, ho5⟩, hb5⟩
      obtain ⟨r5, c5, hv5⟩ := own_sl ho5
      subst hv5
      have HX5 : Hid (MX w5 a r b A A n (M + 2 * (j + 1)) F G4) := HX4.out.quiet hb5
      have HO5 : Hid (w5.ownsRow w1.heap.size 103 2 (.slice r2 A.row.length c2) A.row.length (rowCells A.row)) := own_below HO4.out hb5
      have HC5 : Hid (Chg (Un F Gj) (Un F G4) wr w5) := HC4.out.trans (Chg.quiet _ hb5)
      have HSm : Hid _ := sameI_any (frs 0 A.who) (frs 0 A.who) r1 r5 c1 c5 w5 (by unfold maxLen; omega) (by unfold maxLen; omega) (own_rx (own_below HP4.out hb5) rfl) (own_rx ho5 rfl)
      clear ho5 hb5 HK HX4 HO4 HP4 HC4
      go_wp2_with fail
      refine Calls.mono HSm.out ?_
      rintro e w6 ⟨rfl, hb6⟩
      have HX6 : Hid (MX w6 a r b A A n (M + 2 * (j + 1)) F G4) := HX5.out.quiet hb6
      have HC6 : Hid (Chg (Un F Gj) (Un F G4) wr w6) := HC5.out.trans (Chg.quiet _ hb6)
      obtain ⟨rw', cw', cr, lr, hwx⟩ := HX6.out.wt
      have HSw : Hid _ := sameW_any A.row A.row r2 rw' c2 cw' w6 (by unfold maxLen; omega) (by unfold maxLen; omega) (own_wx (own_below HO5.out hb6) rfl) hwx
      clear hb6 hwx HSm HX5 HO5 HC5
      go_wp2_with fail
      refine Calls.mono HSw.out ?_
      rintro e w7 ⟨rfl, hb7⟩
      have HJ7 : Hid (∃ Gj, MX w7 a r b A A n (M + 2 * (j + 1)) F Gj ∧ Chg (Un F G) (Un F Gj) w w7) := ⟨G4, HX6.out.quiet hb7, HC.out.trans (HC6.out.trans (Chg.quiet _ hb7))⟩
      clear hb7 HSw HX6 HC6 HX HC HS1 HB1
      go_wp2
      go_roundw
      case rel => exact ⟨j + 1, by go_num, by omega, HJ7⟩
      case measure => simp [intOf]; omega
    · obtain rfl : j = 2 := by omega
      go_wp2
      go_ret
      exact ⟨rfl, HJ.out⟩
end Go.Proofs.Ytaenoenchbfeiaa
