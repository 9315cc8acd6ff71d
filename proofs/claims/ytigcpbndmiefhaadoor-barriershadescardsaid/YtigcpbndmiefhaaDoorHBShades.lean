/- BarrierShades. -/
import Derived.Test.YtigcpbndmiefhaaDoorHBShades1
namespace Go.Proofs.YtigcpbndmiefhaaDoor
open Go.RowKit

theorem sh_le2 (h : List Cl) (ws : List Int) : (shM h ws).length ≤ ws.length := by
  have := sh_len (h := h) ws []
  simpa [shM] using this
theorem store_le (p : Int) (sc : Bool) (a b : Int) (h : List Cl) : (storeM p sc a b h).length ≤ 2 := by
  unfold storeM
  split
  · split
    · exact Nat.le_trans (sh_le2 h [a]) (by simp)
    · exact sh_le2 h [a, b]
  · simp
theorem fill_le (p : Int) (sc : Bool) (a b : Int) (h : List Cl) : (fillM p sc a b h).length ≤ 2 := by
  unfold fillM
  split
  · exact sh_le2 h [a, b]
  · simp
/-- Two lists are put, one behind the other. -/
theorem put_far {w0 W0 W : World} {g bk Ni : Nat} {H : List Cl} {vi : Value} {Vi : Nat → Value} {v : Value} {l : List Int} (h0 : SX w0 W0 g bk H vi Ni Vi) (ht : Tol w0 W0 W v l) : ∀ k, v.ownBlock = some k → w0.heap.size ≤ k ∧ ¬ BoF bk vi (.slice none 0 0) Ni 0 Vi nV k := fun k hk => by
  have h1 := (ht.2.1.lt k hk).1
  exact ⟨Nat.le_trans ht.2.2 h1, fun hf => by have := h0.book.lt k hf; omega⟩
set_option maxRecDepth 100000 in
set_option maxHeartbeats 16000000 in
theorem barrierShades_walk (p : Int) (sc : Bool) (a b : Int) (h : List Cl) (ra : Option Addr) (ca : Nat) (w : World) (hl : h.length ≤ 281474976710656) (hH : HR w ra h) (ha : Rng a) (hb : Rng b) (hT : Tab w) :
    Calls Tryd.prog 4 #[.agg #[.int .u8 p, .bool sc, .int .u64 a, .int .u64 b, .slice ra h.length ca]] w fun e w' => e = .returned (.bool true) ∧ Below w.heap.size w w' := by
  have HT : Hid (Tab w) := hT
  have HH : Hid (HR w ra h) := hH
  have HA : Hid (Rng a) := ha
  have HB : Hid (Rng b) := hb
  have HOk : Hid (∀ x ∈ h, OkK x) := fun x hx => by
    obtain ⟨_, _, _, h2⟩ := hH
    obtain ⟨j, hj⟩ := List.getElem?_of_mem hx
    exact (h2 j x hj).2.2
  have al := (Below.refl _ w).alloc (Nat.le_refl w.heap.size) (.cells #[.int .u8 p, .bool sc, .int .u64 a, .int .u64 b, .slice ra h.length ca] 27)
  have nw := heap_alloc_new w (.cells #[.int .u8 p, .bool sc, .int .u64 a, .int .u64 b, .slice ra h.length ca] 27)
  obtain ⟨W1, hW1⟩ : ∃ W1, W1 = w.alloc (.cells #[.int .u8 p, .bool sc, .int .u64 a, .int .u64 b, .slice ra h.length ca] 27) := ⟨_, rfl⟩
  rw [← hW1] at al nw
  have HN1 : Hid (W1.heap[w.heap.size]? = some (.cells #[.int .u8 p, .bool sc, .int .u64 a, .int .u64 b, .slice ra h.length ca] 27 (0, 0))) := nw
  have HB1 : Hid (Below w.heap.size w W1) := al
  have e4 := heap_cell (j := 4) nw rfl
  have l1 := heap_lt nw
  clear hT hH ha hb al nw
  go_enter Tryd.func4, Tryd.ntmps4
  go_upto_region 1 with fail
  rw [← hW1]
  clear hW1
  by_cases hbig : 20000 < h.length
  · have k0 : (h.length : Int) > 20000 := by omega
    go_wp2
    go_ret
    exact ⟨rfl, HB1.out⟩
  have k0 : ¬ (h.length : Int) > 20000 := by omega
  have HK : Hid _ := known_any W1 (HT.out.below HB1.out)
  go_wp2_with fail
  refine Calls.mono HK.out ?_
  rintro e w2 ⟨rfl, hb2⟩
  have HB2 : Hid (Below w.heap.size w w2) := HB1.out.trans (hb2.mono HB1.out.size)
  have HN2 : Hid _ := (hb2.block _ l1).trans HN1.out
  clear hb2 HK HN1 HB1 e4 l1
  have e0 := heap_cell (j := 0) HN2.out rfl
  have e1 := heap_cell (j := 1) HN2.out rfl
  have e2 := heap_cell (j := 2) HN2.out rfl
  have e3 := heap_cell (j := 3) HN2.out rfl
  have e4 := heap_cell (j := 4) HN2.out rfl
  have l2 := heap_lt HN2.out
  have HC : Hid _ := lentK_any h ra ca w2 (HH.out.below HB2.out) (by omega)
  go_wp2_with fail
  refine Calls.mono HC.out ?_
  rintro e w3 ⟨⟨g, rfl, hlo⟩, hb3⟩
  have HB3 : Hid (Below w.heap.size w w3) := HB2.out.trans (hb3.mono HB2.out.size)
  have HLo : Hid (LentW w3 w.heap.size g h) := own_base hlo HB2.out.size
  clear hlo hb3 HC e0 e1 e2 e3 e4 l2 HN2
  have HSX : Hid (SX w (w3.alloc (.cells #[.slice none 0 0, .slice none 0 0, .slice none 0 0, .slice none 0 0, .slice none 0 0, .slice none 0 0, .slice none 0 0, .slice none 0 0, .slice none 0 0, .slice none 0 0, .slice none 0 0, .slice none 0 0, .slice none 0 0, .slice none 0 0, .slice none 0 0, .slice none 0 0, .slice none 0 0] 49)) g w3.heap.size h (.slice none 0 0) 0 nV) := sx_new HLo.out HB3.out HOk.out ((Below.refl _ w3).alloc (Nat.le_refl _) _) ⟨heap_alloc_new _ _⟩
  clear HLo HB3
  go_upto_region 11 with fail
  generalize w3.alloc (.cells #[.slice none 0 0, .slice none 0 0, .slice none 0 0, .slice none 0 0, .slice none 0 0, .slice none 0 0, .slice none 0 0, .slice none 0 0, .slice none 0 0, .slice none 0 0, .slice none 0 0, .slice none 0 0, .slice none 0 0, .slice none 0 0, .slice none 0 0, .slice none 0 0, .slice none 0 0] 49) = W4 at *
  generalize w3.heap.size = bk at *
  go_wp2_with fail
  go_loopw [11, 12, 13, 14, 15] (fun i _ _ _ _ wr => ∃ (j : Nat) (vi : Value) (Ni : Nat) (Vi : Nat → Value), i = .int .i64 j ∧ j ≤ 2 ∧ Ni = 2 * j ∧ Hid (SX w wr g bk h vi Ni Vi)) (fun i _ _ _ _ _ => 2 - (intOf i).toNat)
  case atStart => exact ⟨0, _, 0, nV, rfl, by omega, rfl, HSX⟩
  case round =>
    clear HSX
    obtain ⟨j, vi, Ni, Vi, rfl, hj, hNi, HS⟩ := hrel
    by_cases hj2 : j < 2
    · have k1 : (j : Int) < 2 := by omega
      have HC : Hid _ := store_any p sc a b h (some ⟨g, 0, none⟩) (h.length + 2) wr hl HS.out.hr HA.out HB.out (HT.out.below HS.out.bel)
      go_wp2_with fail
      refine Calls.mono HC.out ?_
      intro e w5 ho5
      obtain ⟨r1, c1, rfl, ht1, hb5⟩ := tol_of (w0 := w) ho5 HS.out.bel.size
      have HF1 : Hid (∀ k, (Value.slice r1 (storeM p sc a b h).length c1).ownBlock = some k → w.heap.size ≤ k ∧ ¬ BoF bk vi (.slice none 0 0) Ni 0 Vi nV k) := put_far HS.out ht1
      have HT1 : Hid (Tol w wr w5 (.slice r1 (storeM p sc a b h).length c1) (storeM p sc a b h)) := ht1
      have HS5 : Hid (SX w w5 g bk h vi Ni Vi) := HS.out.below hb5
      clear ho5 ht1 hb5 HC HS
      have HC : Hid _ := fill_any p sc a b h (some ⟨g, 0, none⟩) (h.length + 2) w5 hl HS5.out.hr HA.out HB.out (HT.out.below HS5.out.bel)
      go_wp2_with fail
      refine Calls.mono HC.out ?_
      intro e w6 ho6
      obtain ⟨r2, c2, rfl, ht2, hb6⟩ := tol_of (w0 := w) ho6 HS5.out.bel.size
      have HF2 : Hid (∀ k, (Value.slice r2 (fillM p sc a b h).length c2).ownBlock = some k → w.heap.size ≤ k ∧ ¬ BoF bk vi (.slice none 0 0) Ni 0 Vi nV k) := put_far HS5.out ht2
      have HD12 : Hid (∀ k, (Value.slice r2 (fillM p sc a b h).length c2).ownBlock = some k → (Value.slice r1 (storeM p sc a b h).length c1).ownBlock ≠ some k) := fun k hk hk1 => by
        have := (ht2.2.1.lt k hk).1
        have := (HT1.out.2.1.lt k hk1).2
        omega
      have HT2 : Hid (Tol w w5 w6 (.slice r2 (fillM p sc a b h).length c2) (fillM p sc a b h)) := ht2
      have HT16 : Hid (Tol w wr w6 (.slice r1 (storeM p sc a b h).length c1) (storeM p sc a b h)) := HT1.out.below hb6
      have HS6 : Hid (SX w w6 g bk h vi Ni Vi) := HS5.out.below hb6
      clear ho6 ht2 hb6 HC HS5 HT1
      have HC : Hid _ := refStore_any p sc a b h ra ca w6 hl (HH.out.below HS6.out.bel) HA.out HB.out
      go_wp2_with fail
      refine Calls.mono HC.out ?_
      intro e w7 ho7
      obtain ⟨r3, c3, rfl, ht3, hb7⟩ := tol_of (w0 := w) ho7 HS6.out.bel.size
      have HC2 : Hid _ := sameI_any (storeM p sc a b h) (storeM p sc a b h) r1 r3 c1 c3 w7 (by have := store_le p sc a b h; unfold maxLen; omega) (by have := store_le p sc a b h; unfold maxLen; omega) (HT16.out.below hb7).rx ht3.rx
      rw [decide_eq_true rfl] at HC2
      have HT17 : Hid (Tol w wr w7 (.slice r1 (storeM p sc a b h).length c1) (storeM p sc a b h)) := HT16.out.below hb7
      have HT27 : Hid (Tol w w5 w7 (.slice r2 (fillM p sc a b h).length c2) (fillM p sc a b h)) := HT2.out.below hb7
      have HS7 : Hid (SX w w7 g bk h vi Ni Vi) := HS6.out.below hb7
      clear ho7 ht3 hb7 HC HS6 HT16 HT2
      go_wp2_with fail
      refine Calls.mono HC2.out ?_
      rintro e w8 ⟨rfl, hb8⟩
      have HT18 : Hid (Tol w wr w8 (.slice r1 (storeM p sc a b h).length c1) (storeM p sc a b h)) := HT17.out.below hb8
      have HT28 : Hid (Tol w w5 w8 (.slice r2 (fillM p sc a b h).length c2) (fillM p sc a b h)) := HT27.out.below hb8
      have HS8 : Hid (SX w w8 g bk h vi Ni Vi) := HS7.out.below hb8
      clear hb8 HC2 HS7 HT17 HT27
      have HC : Hid _ := refFill_any p sc a b h ra ca w8 hl (HH.out.below HS8.out.bel) HA.out HB.out
      go_wp2_with fail
      refine Calls.mono HC.out ?_
      intro e w9 ho9
      obtain ⟨r4, c4, rfl, ht4, hb9⟩ := tol_of (w0 := w) ho9 HS8.out.bel.size
      have HC2 : Hid _ := sameI_any (fillM p sc a b h) (fillM p sc a b h) r2 r4 c2 c4 w9 (by have := fill_le p sc a b h; unfold maxLen; omega) (by have := fill_le p sc a b h; unfold maxLen; omega) (HT28.out.below hb9).rx ht4.rx
      rw [decide_eq_true rfl] at HC2
      have HT19 : Hid (Tol w wr w9 (.slice r1 (storeM p sc a b h).length c1) (storeM p sc a b h)) := HT18.out.below hb9
      have HT29 : Hid (Tol w w5 w9 (.slice r2 (fillM p sc a b h).length c2) (fillM p sc a b h)) := HT28.out.below hb9
      have HS9 : Hid (SX w w9 g bk h vi Ni Vi) := HS8.out.below hb9
      clear ho9 ht4 hb9 HC HS8 HT18 HT28
      go_wp2_with fail
      refine Calls.mono HC2.out ?_
      rintro e wa ⟨rfl, hba⟩
      have HT1a : Hid (Tol w wr wa (.slice r1 (storeM p sc a b h).length c1) (storeM p sc a b h)) := HT19.out.below hba
      have HT2a : Hid (Tol w w5 wa (.slice r2 (fillM p sc a b h).length c2) (fillM p sc a b h)) := HT29.out.below hba
      have HSa : Hid (SX w wa g bk h vi Ni Vi) := HS9.out.below hba
      clear hba HC2 HS9 HT19 HT29
      have HC : Hid _ := HSa.out.put (by omega) (own_low HT1a.out.2.1) (by have := store_le p sc a b h; omega) HF1.out
      go_wp2_with fail
      refine Calls.mono HC.out ?_
      rintro e wb ⟨⟨rr, rfl⟩, vi', hput⟩
      have HSb : Hid (SX w wb g bk h vi' (Ni + 1) (fun j => if j = Ni then .slice r1 (storeM p sc a b h).length c1 else Vi j)) := hput.sx
      have HO2 : Hid (wb.ownsRow 0 3 1 (.slice r2 (fillM p sc a b h).length c2) (fillM p sc a b h).length ((fillM p sc a b h).map (Value.int .i64))) := own_same (own_low HT2a.out.2.1) (fun k hk => by
        obtain ⟨cs, hc⟩ := own_blk HT2a.out.2.1 hk
        exact hput.ints k cs hc)
      have HF3 : Hid (∀ k, (Value.slice r2 (fillM p sc a b h).length c2).ownBlock = some k → w.heap.size ≤ k ∧ ¬ BoF bk vi' (.slice none 0 0) (Ni + 1) 0 (fun j => if j = Ni then .slice r1 (storeM p sc a b h).length c1 else Vi j) nV k) := fun k hk => by
        refine ⟨(HF2.out k hk).1, fun hf => ?_⟩
        rcases hput.foot k hf with e | e | e
        · exact (HF2.out k hk).2 e
        · exact HD12.out k hk e
        · have := (HT2a.out.2.1.lt k hk).2
          omega
      clear hput HC HSa HF1 HF2 HD12 HT1a HT2a
      have HC : Hid _ := HSb.out.put (by omega) HO2.out (by have := fill_le p sc a b h; omega) HF3.out
      go_wp2_with fail
      refine Calls.mono HC.out ?_
      rintro e wc ⟨⟨rr2, rfl⟩, vi2, hput⟩
      have HSc : Hid (SX w wc g bk h vi2 (Ni + 1 + 1) _) := hput.sx
      clear hput HC HSb HF3 HO2
      go_wp2
      go_roundw
      case rel => exact ⟨j + 1, vi2, Ni + 1 + 1, _, by go_num, by omega, by omega, HSc⟩
      case measure => simp [intOf]; omega
    · obtain rfl : j = 2 := by omega
      have k1 : ¬ ((2 : Nat) : Int) < 2 := by omega
      have HC : Hid _ := wholeK_any h g w.heap.size ra ca wr (by omega) HS.out.lent HS.out.ok (HH.out.below HS.out.bel).hx
      go_wp2_with fail
      refine Calls.mono HC.out ?_
      rintro e w5 ⟨rfl, hb5⟩
      have HS5 : Hid (SX w w5 g bk h vi Ni Vi) := HS.out.below hb5
      clear hb5 HC HS
      obtain ⟨wQ, hwQ⟩ : ∃ wQ, wQ = w5 := ⟨_, rfl⟩
      rw [← hwQ] at HS5 ⊢
      clear hwQ
      go_wp2_with fail
      go_loopw [17] (fun i wr => ∃ (k : Nat) (H : List Cl), i = .int .i64 k ∧ k ≤ h.length ∧ H.length = h.length ∧ Hid (SX w wr g bk H vi Ni Vi)) (fun i _ => h.length - (intOf i).toNat)
      case atStart => exact ⟨0, h, rfl, Nat.zero_le _, rfl, HS5⟩
      case round =>
        clear HS5
        obtain ⟨k, H, rfl, hk, hHl, HS⟩ := hrel
        by_cases hkl : k < h.length
        · have m1 : (k : Int) < (h.length : Int) := by omega
          obtain ⟨x, hx⟩ : ∃ x, H[k]? = some x := ⟨_, List.getElem?_eq_getElem (by omega)⟩
          have hxk := HS.out.ok x (List.mem_of_getElem? hx)
          obtain ⟨bb, o, hor, hcs⟩ := HS.out.hr
          obtain ⟨rfl, rfl⟩ : bb = g ∧ o = 0 := by
            have := hor.resolve_left (by omega)
            cases this
            exact ⟨rfl, rfl⟩
          obtain ⟨g1, ⟨y0, y1, y2, y3⟩, _⟩ := hcs k x hx
          rw [Nat.zero_add] at y1
          obtain ⟨cs, h1, _, _⟩ := lent_at HS.out.lent
          have fz : wr.frozen? ⟨bb, k * 4 + 1, none⟩ = false := fz_of h1 _
          have HTn : Hid (∀ c : Int, 0 ≤ c ∧ c ≤ 255 → SX w (wr.setCell ⟨bb, k * 4 + 1, none⟩ (.int .u8 c)) bb bk (H.set k ⟨x.k, c, x.a, x.b⟩) vi Ni Vi) := fun c hc => HS.out.turn hx c hc
          have hc0 := hxk.c.1
          have hc1 := hxk.c.2
          clear hcs hor y0 y2 y3 h1 hx hxk
          by_cases h255 : x.c = 255
          · have z1 : x.c + 1 = 256 := by omega
            go_wp2
            go_roundw
            case rel => exact ⟨k + 1, _, by go_num, by omega, by rw [List.length_set]; exact hHl, HTn.out _ (by decide)⟩
            case measure => simp [intOf]; omega
          · have z1 : x.c + 1 ≤ 255 := by omega
            have z2 : 0 ≤ x.c + 1 := by omega
            go_wp2
            go_roundw
            case rel => exact ⟨k + 1, _, by go_num, by omega, by rw [List.length_set]; exact hHl, HTn.out _ (by
              have e := Int.tmod_eq_emod_of_nonneg (a := x.c + 1) (b := 3) z2
              omega)⟩
            case measure => simp [intOf]; omega
        · have m1 : ¬ (k : Int) < (h.length : Int) := by omega
          have HC : Hid _ := store_any p sc a b H (some ⟨g, 0, none⟩) (h.length + 2) wr (by omega) HS.out.hr HA.out HB.out (HT.out.below HS.out.bel)
          rw [hHl] at HC
          go_wp2_with fail
          refine Calls.mono HC.out ?_
          intro e w6 ho6
          obtain ⟨r1, c1, rfl, ht1, hb6⟩ := tol_of (w0 := w) ho6 HS.out.bel.size
          have HS6 : Hid (SX w w6 g bk H vi Ni Vi) := HS.out.below hb6
          have HT1 : Hid (Tol w wr w6 (.slice r1 (storeM p sc a b H).length c1) (storeM p sc a b H)) := ht1
          clear ho6 ht1 hb6 HC HS
          have HC : Hid _ := refStore_any p sc a b H (some ⟨g, 0, none⟩) (h.length + 2) w6 (by omega) HS6.out.hr HA.out HB.out
          rw [hHl] at HC
          go_wp2_with fail
          refine Calls.mono HC.out ?_
          intro e w7 ho7
          obtain ⟨r3, c3, rfl, ht3, hb7⟩ := tol_of (w0 := w) ho7 HS6.out.bel.size
          have HC2 : Hid _ := sameI_any (storeM p sc a b H) (storeM p sc a b H) r1 r3 c1 c3 w7 (by have := store_le p sc a b H; unfold maxLen; omega) (by have := store_le p sc a b H; unfold maxLen; omega) (HT1.out.below hb7).rx ht3.rx
          rw [decide_eq_true rfl] at HC2
          have HS7 : Hid (SX w w7 g bk H vi Ni Vi) := HS6.out.below hb7
          clear ho7 ht3 hb7 HC HS6 HT1
          go_wp2_with fail
          refine Calls.mono HC2.out ?_
          rintro e w8 ⟨rfl, hb8⟩
          have HS8 : Hid (SX w w8 g bk H vi Ni Vi) := HS7.out.below hb8
          clear hb8 HC2 HS7
          have HC : Hid _ := bookOwn_any (fun k => k < w.heap.size) bk vi (.slice none 0 0) Ni 0 Vi nV w8 (by omega) (by omega) (fun k hk => Nat.lt_of_lt_of_le hk HS8.out.bel.size) HS8.out.book (fun j hj k hk => by have := HS8.out.low k (.inr (.inl (.inr ⟨j, hj, hk⟩))); omega) (fun j hj => absurd hj (Nat.not_lt_zero _))
          go_wp2_with fail
          refine Calls.mono HC.out ?_
          rintro e w9 ⟨rfl, hfr⟩
          have HBe : Hid (Below w.heap.size w w9) := HS8.out.bel.trans (hfr.below HS8.out.bel.size)
          clear hfr HC HS8
          go_wp2
          go_ret
          exact ⟨rfl, HBe.out⟩
end Go.Proofs.YtigcpbndmiefhaaDoor
