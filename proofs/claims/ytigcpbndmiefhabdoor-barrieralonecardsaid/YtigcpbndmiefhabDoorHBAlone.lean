/- BarrierAlone. -/
import Derived.Test.YtigcpbndmiefhabDoorHBAloneM
namespace Go.Proofs.YtigcpbndmiefhabDoor
open Go.RowKit

theorem off_store {p : Int} (h : onB p = false) (sc : Bool) (a b : Int) (l : List Cl) : storeM p sc a b l = [] := by unfold storeM; rw [h]; rfl
theorem off_fill {p : Int} (h : onB p = false) (sc : Bool) (a b : Int) (l : List Cl) : fillM p sc a b l = [] := by unfold fillM; rw [h]; rfl
theorem on_one {p : Int} (h : onB p = true) (a b : Int) (l : List Cl) : storeM p true a b l = shM l [a] := by unfold storeM; rw [h]; rfl
theorem on_two {p : Int} (h : onB p = true) (a b : Int) (l : List Cl) : storeM p false a b l = shM l [a, b] := by unfold storeM; rw [h]; rfl
theorem on_fill {p : Int} (h : onB p = true) (a b : Int) (l : List Cl) : fillM p false a b l = shM l [a, b] := by unfold fillM; rw [h]; rfl
theorem no_fill (p a b : Int) (l : List Cl) : fillM p true a b l = [] := by unfold fillM; simp
theorem on_iff {p : Int} : onB p = true ↔ p = 1 ∨ p = 2 := by unfold onB; simp
theorem ref_of {x : Int} {c : Nat} (h : refN x = some c) : refB x = true ∧ cellV x = c := by
  unfold refN at h
  split at h
  · rename_i h8
    have hr : refB x = true := by unfold refB; simp [h8]
    have := ofN_ref hr
    have e := Option.some.inj h
    refine ⟨hr, ?_⟩
    unfold cellV
    rw [if_pos h8]
    omega
  · cases h
theorem ref_not {x : Int} (h : refB x = true) : ∃ c : Nat, refN x = some c ∧ cellV x = c := by
  have h8 : ofT x = 8 := by simpa [refB] using h
  have e : refN x = some (ofN x).toNat := by unfold refN; rw [if_pos h8]
  exact ⟨_, e, (ref_of e).2⟩
theorem rx_at {w : World} {ra : Option Addr} {l : List Int} (h : RX (Value.int .i64) w ra l) {j : Nat} {x : Int} (hx : l[j]? = some x) : ∃ b o, ra = some ⟨b, o, none⟩ ∧ b < w.heap.size ∧ w.cell? ⟨b, o + j, none⟩ = some (.int .i64 x) := by
  obtain ⟨b, o, h1, h2⟩ := h
  have := (List.getElem?_eq_some_iff.1 hx).1
  exact ⟨b, o, h1.resolve_left (by omega), h2 j x hx⟩
set_option maxRecDepth 100000 in
set_option maxHeartbeats 16000000 in
theorem barrierAlone_walk (p : Int) (sc : Bool) (a b : Int) (h : List Cl) (ra : Option Addr) (ca : Nat) (w : World) (hl : h.length ≤ 281474976710656) (hH : HR w ra h) (ha : Rng a) (hb : Rng b) (hT : Tab w) :
    Calls Tryd.prog 4 #[.agg #[.int .u8 p, .bool sc, .int .u64 a, .int .u64 b, .slice ra h.length ca]] w fun e w' => e = .returned (.bool true) ∧ Below w.heap.size w w' := by
  have HT : Hid (Tab w) := hT
  have HH : Hid (HR w ra h) := hH
  have HA : Hid (Rng a) := ha
  have HB : Hid (Rng b) := hb
  have al := (Below.refl _ w).alloc (Nat.le_refl w.heap.size) (.cells #[.int .u8 p, .bool sc, .int .u64 a, .int .u64 b, .slice ra h.length ca] 54)
  have nw := heap_alloc_new w (.cells #[.int .u8 p, .bool sc, .int .u64 a, .int .u64 b, .slice ra h.length ca] 54)
  obtain ⟨W1, hW1⟩ : ∃ W1, W1 = w.alloc (.cells #[.int .u8 p, .bool sc, .int .u64 a, .int .u64 b, .slice ra h.length ca] 54) := ⟨_, rfl⟩
  rw [← hW1] at al nw
  have HN1 : Hid (W1.heap[w.heap.size]? = some (.cells #[.int .u8 p, .bool sc, .int .u64 a, .int .u64 b, .slice ra h.length ca] 54 (0, 0))) := nw
  have HB1 : Hid (Below w.heap.size w W1) := al
  have e4 := heap_cell (j := 4) nw rfl
  have l1 := heap_lt nw
  clear hT hH ha hb al nw
  go_enter Tryd.func4, Tryd.ntmps4
  go_upto_region 1 with fail
  rw [← hW1]
  clear hW1
  by_cases hbig : 20000 < h.length
  · have k0 : (h.length : Int) > 20000 := by omega
    go_wp2
    go_ret
    exact ⟨rfl, HB1.out⟩
  have k0 : ¬ (h.length : Int) > 20000 := by omega
  have HK : Hid _ := known_any W1 (HT.out.below HB1.out)
  go_wp2_with fail
  refine Calls.mono HK.out ?_
  rintro e w2 ⟨rfl, hb2⟩
  have HB2 : Hid (Below w.heap.size w w2) := HB1.out.trans (hb2.mono HB1.out.size)
  have HN2 : Hid _ := (hb2.block _ l1).trans HN1.out
  clear hb2 HK HN1 HB1 e4 l1
  have e0 := heap_cell (j := 0) HN2.out rfl
  have e2 := heap_cell (j := 2) HN2.out rfl
  have e3 := heap_cell (j := 3) HN2.out rfl
  have e4 := heap_cell (j := 4) HN2.out rfl
  have l2 := heap_lt HN2.out
  have HC : Hid _ := store_any p true a b h ra ca w2 hl (HH.out.below HB2.out) HA.out HB.out (HT.out.below HB2.out)
  go_wp2_with fail
  refine Calls.mono HC.out ?_
  intro e w3 ho3
  obtain ⟨r1, c1, rfl, hr1, hb3⟩ := outI_rx ho3
  have HB3 : Hid (Below w.heap.size w w3) := HB2.out.trans (hb3.mono HB2.out.size)
  have HR1 : Hid (RX (Value.int .i64) w3 r1 (storeM p true a b h)) := hr1
  clear ho3 hb3 hr1 HC e0 e2 e3 e4 l2 HN2
  have HC : Hid _ := store_any p false a b h ra ca w3 hl (HH.out.below HB3.out) HA.out HB.out (HT.out.below HB3.out)
  go_wp2_with fail
  refine Calls.mono HC.out ?_
  intro e w4 ho4
  obtain ⟨r2, c2, rfl, hr2, hb4⟩ := outI_rx ho4
  have HB4 : Hid (Below w.heap.size w w4) := HB3.out.trans (hb4.mono HB3.out.size)
  have HR14 : Hid (RX (Value.int .i64) w4 r1 (storeM p true a b h)) := HR1.out.below hb4
  have HR2 : Hid (RX (Value.int .i64) w4 r2 (storeM p false a b h)) := hr2
  clear ho4 hb4 hr2 HC HR1
  have HC : Hid _ := fill_any p false a b h ra ca w4 hl (HH.out.below HB4.out) HA.out HB.out (HT.out.below HB4.out)
  go_wp2_with fail
  refine Calls.mono HC.out ?_
  intro e w5 ho5
  obtain ⟨r3, c3, rfl, hr3, hb5⟩ := outI_rx ho5
  have HB5 : Hid (Below w.heap.size w w5) := HB4.out.trans (hb5.mono HB4.out.size)
  have HR15 : Hid (RX (Value.int .i64) w5 r1 (storeM p true a b h)) := HR14.out.below hb5
  have HR25 : Hid (RX (Value.int .i64) w5 r2 (storeM p false a b h)) := HR2.out.below hb5
  have HR3 : Hid (RX (Value.int .i64) w5 r3 (fillM p false a b h)) := hr3
  clear ho5 hb5 hr3 HC HR14 HR2
  have HC : Hid _ := fill_any p true a b h ra ca w5 hl (HH.out.below HB5.out) HA.out HB.out (HT.out.below HB5.out)
  go_wp2_with fail
  refine Calls.mono HC.out ?_
  intro e w6 ho6
  obtain ⟨r4, c4, rfl, hr4, hb6⟩ := outI_rx ho6
  have HB6 : Hid (Below w.heap.size w w6) := HB5.out.trans (hb6.mono HB5.out.size)
  have HR16 : Hid (RX (Value.int .i64) w6 r1 (storeM p true a b h)) := HR15.out.below hb6
  have HR26 : Hid (RX (Value.int .i64) w6 r2 (storeM p false a b h)) := HR25.out.below hb6
  have HR36 : Hid (RX (Value.int .i64) w6 r3 (fillM p false a b h)) := HR3.out.below hb6
  clear ho6 hb6 hr4 HC HR15 HR25 HR3
  rw [no_fill]
  have hst : storeM p false a b h = fillM p false a b h := by
    cases ho : onB p
    · rw [off_store ho, off_fill ho]
    · rw [on_two ho, on_fill ho]
  have hlen2 : (fillM p false a b h).length ≤ 2 := by
    cases ho : onB p
    · rw [off_fill ho]; simp
    · rw [on_fill ho]; exact (sh_of h a b).l2
  rw [hst] at HR26 ⊢
  have HC : Hid _ := sameI_any (fillM p false a b h) (fillM p false a b h) r2 r3 c2 c3 w6 (by unfold maxLen; omega) (by unfold maxLen; omega) HR26.out HR36.out
  rw [decide_eq_true rfl] at HC
  go_wp2_with fail
  refine Calls.mono HC.out ?_
  rintro e w7 ⟨rfl, hb7⟩
  have HB7 : Hid (Below w.heap.size w w7) := HB6.out.trans (hb7.mono HB6.out.size)
  have HR17 : Hid (RX (Value.int .i64) w7 r1 (storeM p true a b h)) := HR16.out.below hb7
  have HR27 : Hid (RX (Value.int .i64) w7 r2 (fillM p false a b h)) := HR26.out.below hb7
  clear hb7 HC HR16 HR26 HR36 hst
  have hmx : Tryd.prog.follows .mixedOrders = true := by kernel_rfl
  cases ho : onB p
  · rw [off_store ho] at HR17 ⊢
    rw [off_fill ho] at HR27 ⊢
    have p1 : ¬ p = 1 := fun e => by rw [on_iff.2 (.inl e)] at ho; cases ho
    have p2 : ¬ p = 2 := fun e => by rw [on_iff.2 (.inr e)] at ho; cases ho
    have p3 : (p != 1) = true := by simpa using p1
    have p4 : (p != 2) = true := by simpa using p2
    have p5 : (p == 1) = false := by simpa using p1
    have p6 : (p == 2) = false := by simpa using p2
    clear ho hlen2 HR17 HR27
    simp only [List.length_nil]
    go_upto_region 14 with fail
    go_quiet (fail)
    go_wp2
    go_ret
    exact ⟨rfl, below_dn HB7.out _⟩
  · rw [on_one ho] at HR17 ⊢
    rw [on_fill ho] at HR27 ⊢
    have HS : Hid (Sh h a b (shM h [a]) (shM h [a, b])) := sh_of h a b
    have HP : Hid (p = 1 ∨ p = 2) := on_iff.1 ho
    clear ho hlen2
    generalize shM h [a] = L1 at *
    generalize shM h [a, b] = L2 at *
    go_upto_region 14 with fail
    go_cut [95] from 216 (fun v wx => v = .bool false ∧ ∃ n, wx = w7.drewN n)
    case first =>
      have n1 : ¬ (L1.length : Int) > 1 := by have := HS.out.l1; omega
      have n2 : ¬ (L2.length : Int) > 2 := by have := HS.out.l2; omega
      have n3 : ¬ (L2.length : Int) < (L1.length : Int) := by have := HS.out.l12; omega
      by_cases h2 : L2.length = 2
      · obtain ⟨x, y, rfl⟩ : ∃ x y, L2 = [x, y] := by
          match L2, h2 with
          | [x, y], _ => exact ⟨x, y, rfl⟩
        obtain ⟨g, o, rfl, lg, q0⟩ := rx_at HR27.out (j := 0) rfl
        obtain ⟨g', o', hg, _, q1⟩ := rx_at HR27.out (j := 1) rfl
        cases hg
        have hne : (x == y) = false := by simpa using HS.out.ne x y rfl
        rw [Nat.add_zero] at q0
        have n5 : ¬ (2 : Int) < (L1.length : Int) := by have := HS.out.l1; omega
        simp only [List.length_cons, List.length_nil, Nat.zero_add, Nat.reduceAdd]
        clear HS n2 n3 h2
        go_quiet (fail)
        go_wp2_with fail
        go_meet
        exact ⟨rfl, _, rfl⟩
      · have n4 : ¬ (L2.length : Int) = 2 := by omega
        clear HS
        go_quiet (fail)
        go_wp2_with fail
        go_meet
        exact ⟨rfl, _, rfl⟩
    case rest =>
      obtain ⟨rfl, n, hwc⟩ := hcut
      have HB8 : Hid (Below w.heap.size w wc) := by rw [hwc]; exact below_dn HB7.out n
      have hbd : Below w7.heap.size w7 wc := by rw [hwc]; exact below_dn (Below.refl _ _) n
      have HR18 : Hid (RX (Value.int .i64) wc r1 L1) := HR17.out.below hbd
      have HR28 : Hid (RX (Value.int .i64) wc r2 L2) := HR27.out.below hbd
      clear hwc hbd HR17 HR27
      obtain ⟨w8, rfl⟩ : ∃ w8, w8 = wc := ⟨_, rfl⟩
      go_upto_region 16 with fail
      go_cut [101] from 216 (fun v wx => v = .bool false ∧ wx = w8)
      case first =>
        rcases HP.out with e | e
        · have p3 : (p != 1) = false := by rw [e]; rfl
          have p5 : (p == 1) = true := by rw [e]; rfl
          go_wp2
          go_meet
          exact ⟨rfl, rfl⟩
        · have p3 : (p != 1) = true := by rw [e]; rfl
          have p4 : (p != 2) = false := by rw [e]; rfl
          have p5 : (p == 1) = false := by rw [e]; rfl
          have p6 : (p == 2) = true := by rw [e]; rfl
          go_wp2
          go_meet
          exact ⟨rfl, rfl⟩
      case rest =>
        obtain ⟨rfl, hwx⟩ := hcut
        rw [hwx]
        clear hwx
        have HCa : Hid (∀ w, Calls Tryd.prog 14 #[.int .u64 a] w fun e w' => e = .returned (.tuple #[.int .i64 (cellV a), .bool (refB a)]) ∧ w' = w) := fun w => by
          have := refCell_any a w HA.out
          rw [cellN_is, isRef_is] at this
          exact this
        have HCb : Hid (∀ w, Calls Tryd.prog 14 #[.int .u64 b] w fun e w' => e = .returned (.tuple #[.int .i64 (cellV b), .bool (refB b)]) ∧ w' = w) := fun w => by
          have := refCell_any b w HB.out
          rw [cellN_is, isRef_is] at this
          exact this
        go_wp2_with fail
        refine Calls.mono (HCa.out _) ?_
        rintro e w9 ⟨rfl, hw9⟩
        rw [hw9]
        clear hw9
        go_upto_region 19 with fail
        obtain ⟨rb, hrb⟩ : ∃ rb, rb = refB a := ⟨_, rfl⟩
        obtain ⟨xa, hxa⟩ : ∃ xa, xa = cellV a := ⟨_, rfl⟩
        rw [← hrb, ← hxa]
        have HRb : Hid (rb = refB a) := hrb
        have HXa : Hid (xa = cellV a) := hxa
        clear hrb hxa
        go_cut [16] from 216 (fun v wx => v = .bool (tgt h a).isSome ∧ wx = w8)
        case first =>
          cases rb
          · have ht : tgt h a = none := by unfold tgt; rw [refs_none HRb.out.symm]
            go_wp2
            go_meet
            exact ⟨by rw [ht]; rfl, rfl⟩
          · obtain ⟨c, hc1, hc2⟩ := ref_not HRb.out.symm
            obtain rfl : xa = (c : Int) := HXa.out.trans hc2
            by_cases hcn : c < h.length
            · have k1 : (c : Int) < (h.length : Int) := by omega
              obtain ⟨y, hy⟩ : ∃ y, h[c]? = some y := ⟨_, List.getElem?_eq_getElem hcn⟩
              obtain ⟨bb, o, hor, hcs⟩ := HH.out.below HB8.out
              have hra : ra = some ⟨bb, o, none⟩ := hor.resolve_left (by omega)
              subst hra
              obtain ⟨g1, ⟨y0, y1, _, _⟩, _⟩ := hcs c y hy
              have ht : tgt h a = if whiteB y then some c else none := by unfold tgt; rw [hc1]; dsimp only; rw [hy]
              clear hcs hor
              by_cases hk : y.k = 0
              · have hw : whiteB y = false := by unfold whiteB usedB; simp [hk]
                have z1 : (y.k != 0) = false := by simp [hk]
                go_wp2
                go_meet
                exact ⟨by rw [ht, hw]; rfl, rfl⟩
              · have z1 : (y.k != 0) = true := by simp [hk]
                by_cases hcc : y.c = 0
                · have hw : whiteB y = true := by unfold whiteB usedB; simp [hk, hcc]
                  have z2 : (y.c == 0) = true := by simp [hcc]
                  go_wp2
                  go_meet
                  exact ⟨by rw [ht, hw]; rfl, rfl⟩
                · have hw : whiteB y = false := by unfold whiteB usedB; simp [hk, hcc]
                  have z2 : (y.c == 0) = false := by simp [hcc]
                  go_wp2
                  go_meet
                  exact ⟨by rw [ht, hw]; rfl, rfl⟩
            · have k1 : ¬ (c : Int) < (h.length : Int) := by omega
              have ht : tgt h a = none := by unfold tgt; rw [hc1]; dsimp only; rw [List.getElem?_eq_none (by omega)]
              go_wp2
              go_meet
              exact ⟨by rw [ht]; rfl, rfl⟩
        case rest =>
          obtain ⟨rfl, hwx⟩ := hcut
          rw [hwx]
          clear hwx
          obtain ⟨tg, htg⟩ : ∃ tg, tg = tgt h a := ⟨_, rfl⟩
          rw [← htg]
          have HTg : Hid (tg = tgt h a) := htg
          clear htg
          go_upto_region 20 with fail
          go_cut [157] from 216 (fun v wx => v = .bool false ∧ wx = w8)
          case first =>
            cases tg with
            | none =>
              have e1 := HS.out.no HTg.out.symm
              subst e1
              have z0 : (none : Option Nat).isSome = false := rfl
              simp only [List.length_nil]
              go_wp2
              go_meet
              exact ⟨rfl, rfl⟩
            | some c =>
              have ht : tgt h a = some c := HTg.out.symm
              obtain ⟨e1, r, e2⟩ := HS.out.yes c ht
              subst e1 e2
              obtain ⟨g1, o1, rfl, lg1, q1⟩ := rx_at HR18.out (j := 0) rfl
              obtain ⟨g2, o2, rfl, lg2, q2⟩ := rx_at HR28.out (j := 0) rfl
              rw [Nat.add_zero] at q1 q2
              obtain ⟨c1', c2'⟩ := ref_of (tgt_some ht).1
              obtain rfl : xa = (c : Int) := HXa.out.trans c2'
              have z0 : (some c : Option Nat).isSome = true := rfl
              have z2 : (0 : Int) < ((r.length + 1 : Nat) : Int) := by omega
              simp only [List.length_cons, List.length_nil, Nat.zero_add]
              go_wp2
              go_meet
              exact ⟨rfl, rfl⟩
          case rest =>
            obtain ⟨rfl, hwx⟩ := hcut
            rw [hwx]
            clear hwx
            clear HTg HR18
            go_wp2_with fail
            go_loopw [17, 18, 19, 20] (fun i _ _ _ wr => ∃ j : Nat, i = .int .i64 j ∧ j ≤ L2.length ∧ wr = w8) (fun i _ _ _ _ => L2.length - (intOf i).toNat)
            case atStart => exact ⟨0, rfl, Nat.zero_le _, rfl⟩
            case round =>
              obtain ⟨j, rfl, hj, rfl⟩ := hrel
              have hb2 : L2.length ≤ 2 := HS.out.l2
              by_cases hjl : j < L2.length
              · have m1 : (j : Int) < (L2.length : Int) := by omega
                obtain ⟨z, hz⟩ : ∃ z, L2[j]? = some z := ⟨_, List.getElem?_eq_getElem hjl⟩
                obtain ⟨c, y, hzc, hy, hw, hab⟩ := HS.out.mem z (List.mem_of_getElem? hz)
                rw [hzc] at hz
                obtain ⟨g2, o2, rfl, lg2, q2⟩ := rx_at HR28.out hz
                have hcn := (List.getElem?_eq_some_iff.1 hy).1
                obtain ⟨bb, o, hor, hcs⟩ := HH.out.below HB8.out
                have hra : ra = some ⟨bb, o, none⟩ := hor.resolve_left (by omega)
                subst hra
                obtain ⟨g1, ⟨y0, y1, _, _⟩, _⟩ := hcs c y hy
                have hu := white_used y hw
                have hk : ¬ y.k = 0 := by simpa [usedB] using hu
                have hcc : y.c = 0 := by unfold whiteB at hw; simpa using (Bool.and_eq_true_iff.1 hw).2
                have m2 : ¬ (c : Int) < 0 := by omega
                have m3 : ¬ (c : Int) ≥ (h.length : Int) := by omega
                have m4 : (y.k == 0) = false := by simpa using hk
                have m5 : (y.c != 0) = false := by simp [hcc]
                have HAB : Hid (refN a = some c ∨ refN b = some c) := hab
                have HRa : Hid (refN a = some c → rb = true ∧ xa = c) := fun e => ⟨HRb.out.trans (ref_of e).1, HXa.out.trans (ref_of e).2⟩
                clear hcs hor hz hy hw hu hab hk hcc
                go_wp2_with fail
                refine Calls.mono (HCb.out _) ?_
                rintro e w9 ⟨rfl, hw9⟩
                rw [hw9]
                clear hw9
                obtain ⟨rc, hrc⟩ : ∃ rc, rc = refB b := ⟨_, rfl⟩
                obtain ⟨xb, hxb⟩ : ∃ xb, xb = cellV b := ⟨_, rfl⟩
                rw [← hrc, ← hxb]
                have HRc : Hid (refN b = some c → rc = true ∧ xb = c) := fun e => ⟨hrc.trans (ref_of e).1, hxb.trans (ref_of e).2⟩
                clear hrc hxb
                by_cases hA : rb = true ∧ xa = (c : Int)
                · obtain ⟨rfl, rfl⟩ := hA
                  have m6 : ((c : Int) == (c : Int)) = true := by simp
                  go_wp2
                  go_roundw
                  case rel => exact ⟨j + 1, by go_num, by omega, by first | rfl | trivial⟩
                  case measure => simp [intOf]; omega
                · obtain ⟨rfl, rfl⟩ : rc = true ∧ xb = (c : Int) := by
                    rcases HAB.out with e | e
                    · exact absurd (HRa.out e) hA
                    · exact HRc.out e
                  have m6 : ((c : Int) == (c : Int)) = true := by simp
                  cases rb
                  · go_wp2
                    go_roundw
                    case rel => exact ⟨j + 1, by go_num, by omega, by first | rfl | trivial⟩
                    case measure => simp [intOf]; omega
                  · have m7 : ((c : Int) == xa) = false := by
                      have : ¬ xa = (c : Int) := fun e => hA ⟨rfl, e⟩
                      simp; omega
                    go_wp2
                    go_roundw
                    case rel => exact ⟨j + 1, by go_num, by omega, by first | rfl | trivial⟩
                    case measure => simp [intOf]; omega
              · have m1 : ¬ (j : Int) < (L2.length : Int) := by omega
                go_wp2
                go_ret
                exact ⟨rfl, HB8.out⟩
end Go.Proofs.YtigcpbndmiefhabDoor
