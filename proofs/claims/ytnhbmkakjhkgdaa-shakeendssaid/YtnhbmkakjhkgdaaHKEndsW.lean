/- ShakeEnds. -/
import Derived.Test.YtnhbmkakjhkgdaaHKEndsM
namespace Go.Proofs.Ytnhbmkakjhkgdaa
open Go.RowKit

theorem infoB : (Try.prog.info? 4).map (fun i => (i.zero, i.size, i.bytes)) = some (some (.bool false), 1, 1) := by kernel_rfl
theorem made_bool (n : Nat) : ∀ u ∈ (madeCells (Value.bool false).cells (n * 1)).toList, u = .bool false := by
  intro u hu
  unfold madeCells at hu
  rw [Array.toList_map] at hu
  obtain ⟨i, _, rfl⟩ := List.mem_map.1 hu
  show (#[Value.bool false])[i % 1]! = _
  rw [Nat.mod_one]; rfl
theorem dr_made {W : World} {base g n t : Nat} {xs : List Value} {u0 : Value} (h : W.ownsRow base t 1 (.slice (some ⟨g, 0, none⟩) n n) n xs) (hx : ∀ u ∈ xs, u = u0) : DR W t g n (fun _ u => u = u0) := by
  rcases h.2 with ⟨h0, _⟩ | ⟨g', cap', cur, hv, _, hh, _, _, hsz, ht⟩
  · cases h0
  · cases hv
    refine ⟨cur, hh, by simpa using hsz, fun k u hk => hx u ?_⟩
    have hk2 : k < cur.size := (Array.getElem?_eq_some_iff.1 hk).1
    rw [← ht, List.take_of_length_le (by simp; omega)]
    exact Array.mem_toList_iff.2 (Array.mem_of_getElem? hk)
/-- Between cycles. -/
def OX (w0 w : World) (b n : Nat) : Prop := ∃ s, SL w b s ∧ Ok s ∧ s.c = false ∧ s.n = n ∧ w0.heap.size ≤ b ∧ Below w0.heap.size w0 w
set_option maxRecDepth 100000 in
set_option maxHeartbeats 32000000 in
theorem shakeEnds_walk (first cycles : Int) (l : List Int) (ra : Option Addr) (ca : Nat) (w : World) (hl : l.length ≤ 281474976710656) (hf : -9223372036854775808 ≤ first ∧ first ≤ 9223372036854775807) (hc : -9223372036854775808 ≤ cycles ∧ cycles ≤ 9223372036854775807) (hA : IX w ra l) :
    Calls Try.prog 5 #[.int .i64 first, .slice ra l.length ca, .int .i64 cycles] w fun e w' => e = .returned (.bool true) ∧ Below w.heap.size w w' := by
  have HA : Hid (IX w ra l) := hA
  obtain ⟨p1, hp1, hq1⟩ := pick_fix first 4 hf (by omega) (by omega)
  have HP1 : Hid (∀ w : World, Calls Try.prog 10 #[.int .i64 first, .int .i64 4] w fun e w' => e = .returned (.int .i64 p1) ∧ w' = w) := hq1
  obtain ⟨p2, hp2, hq2⟩ := pick_fix cycles 4 hc (by omega) (by omega)
  have HP2 : Hid (∀ w : World, Calls Try.prog 10 #[.int .i64 cycles, .int .i64 4] w fun e w' => e = .returned (.int .i64 p2) ∧ w' = w) := hq2
  clear hA hq1 hq2 hf hc
  obtain ⟨i0, hi0, hz0, hz1, hz2⟩ := info_parts infoB
  go_enter Try.func5, Try.ntmps5
  go_wp2_with fail
  refine Calls.mono (works_any w) ?_
  rintro e w1 ⟨rfl, hb⟩
  have HB1 : Hid (Below w.heap.size w w1) := hb
  clear hb
  go_wp2_with fail
  refine Calls.mono (new_any w1) ?_
  rintro e w2 ⟨rfl, hs2, hb2, hz2'⟩
  have HO : Hid (OX w w2 w1.heap.size 0) := ⟨sk0, hs2, ok0, rfl, rfl, HB1.out.size, HB1.out.trans (hb2.mono HB1.out.size)⟩
  clear hs2 hb2 hz2' HB1
  generalize w1.heap.size = b at HO ⊢
  go_wp2_with fail
  go_loopw [9, 10, 11, 12] (fun i j _ _ wr => ∃ n : Nat, i = .int .i64 n ∧ j = .int .i64 n ∧ n ≤ p1 + 1 ∧ Hid (OX w wr b n)) (fun i _ _ _ _ => p1 + 1 - (intOf i).toNat)
  case atStart => exact ⟨0, rfl, rfl, Nat.zero_le _, HO⟩
  case round =>
    clear HO
    obtain ⟨n, rfl, rfl, hn, HO⟩ := hrel
    by_cases hlt : n ≤ p1
    · have k1 : (n : Int) ≤ (p1 : Int) := by omega
      go_wp2_with fail
      refine Calls.mono (HP1.out _) ?_
      rintro e wx ⟨rfl, rfl⟩
      obtain ⟨s, q1, q2, q3, q4, q5, q6⟩ := HO.out
      have eB := born_is (s := s) (p := 0) (by omega) (by omega)
      have HC : Hid (Calls Try.prog 11 #[.pointer (some ⟨b, 0, none⟩), .int .i64 0] wx fun e w' => e = .returned (.tuple #[.int .i64 ((n : Int) + 1), .int .i64 0]) ∧ OX w w' b (n + 1)) := by
        refine (born_any b s 0 wx q1 q2.le).mono fun e w' ⟨he, hk⟩ => ?_
        have eB' : bornM s 0 = ((((s.n + 1 : Nat) : Int), 0), ⟨s.n + 1, s.c, put s.l (s.n + 1) (s.l 0), s.a⟩) := eB
        have hok := born_ok q2 0
        rw [eB'] at he hk hok
        refine ⟨by rw [he, q4]; rfl, _, hk.1, hok, q3, by rw [← q4], q5, kr_bel q6 hk q5⟩
      clear eB q1 q2 q3 q4 q5 q6 HO
      go_wp2_with fail
      refine Calls.mono HC.out ?_
      rintro e wy ⟨rfl, ho⟩
      have HO : Hid (OX w wy b (n + 1)) := ho
      clear ho HC
      go_wp2
      go_roundw
      case rel => exact ⟨n + 1, by go_num, by go_num, by omega, HO⟩
      case measure => simp [intOf]; omega
    · obtain rfl : n = p1 + 1 := by omega
      have k1 : ¬ ((p1 + 1 : Nat) : Int) ≤ (p1 : Int) := by omega
      go_wp2_with fail
      refine Calls.mono (HP1.out _) ?_
      rintro e wx ⟨rfl, rfl⟩
      clear HP1
      go_wp2_with fail
      obtain ⟨wA, hwA⟩ : ∃ wA, wA = wx := ⟨_, rfl⟩
      rw [← hwA] at HO ⊢
      clear hwA
      go_loopw [9, 13, 14] (fun i a j wr => ∃ n at' c : Nat, i = .int .i64 n ∧ a = .int .i64 at' ∧ j = .int .i64 c ∧ c ≤ p2 + 1 ∧ at' ≤ 8 * c ∧ 1 ≤ n ∧ n ≤ 8 ∧ Hid (OX w wr b n)) (fun _ _ j _ => p2 + 1 - (intOf j).toNat)
      case atStart => exact ⟨p1 + 1, 0, 0, by go_num, rfl, rfl, Nat.zero_le _, Nat.zero_le _, by omega, by omega, HO⟩
      case round =>
        clear HO
        obtain ⟨n, at', c, rfl, rfl, rfl, hcc, hat, hn1, hn8, HO⟩ := hrel
        by_cases hlt2 : c ≤ p2
        · have k2 : (c : Int) ≤ (p2 : Int) := by omega
          go_wp2_with fail
          refine Calls.mono (HP2.out _) ?_
          rintro e wx2 ⟨rfl, rfl⟩
          obtain ⟨s, q1, q2, q3, q4, q5, q6⟩ := HO.out
          have eB : (begM s).1 = 0 := by unfold begM; rw [if_neg (by rw [q3]; decide)]
          have HC : Hid (Calls Try.prog 12 #[.pointer (some ⟨b, 0, none⟩)] wx2 fun e w' => e = .returned (.int .i64 0) ∧ KR b (begM s).2 wx2 w') := by
            refine (begin_any b s wx2 q1 q2.le).mono fun e w' ⟨he, hk⟩ => ?_
            rw [eB] at he
            exact ⟨he, hk⟩
          have HS : Hid (Ok s ∧ s.c = false ∧ s.n = n ∧ w.heap.size ≤ b ∧ Below w.heap.size w wx2) := ⟨q2, q3, q4, q5, q6⟩
          clear eB q1 q2 q3 q4 q5 q6 HO
          go_wp2_with fail
          refine Calls.mono HC.out ?_
          rintro e w4 ⟨rfl, hk4⟩
          have HK4 : Hid (KR b (begM s).2 wx2 w4) := hk4
          clear hk4 HC
          go_wp2_with (at_make; refine stop_of ?_)
          unfold Hid
          refine wpList_make_full _ rfl _ _ 43 rfl w4.heap.size 4 i0 (.bool false) 1 Try.underlying43 hi0 hz0 hz1 .i64 .i64 9 9 9 rfl rfl rfl rfl (by rw [hz2]; omega) (by unfold maxLen; omega) (Nat.le_refl _) ?_
          intro w5 hown hgr
          have hb5 : Below w4.heap.size w4 w5 := grown_low hgr (fun g hg => by cases hg) (Nat.le_refl _)
          have HE0 : Hid (EX w w5 b w4.heap.size (bg s n) (fun _ => false) 0) := by
            have h := HS.out
            have := ex_begin h.1 h.2.1 HK4.out h.2.2.2.1 h.2.2.2.2 hb5 (dr_made hown (made_bool _)) (Nat.le_refl _)
            rw [h.2.2.1] at this
            exact this
          have HN0 : Hid ((bg s n).n = n) := HS.out.2.2.1
          clear hown hgr hb5 HS HK4
          generalize w4.heap.size = g at HE0 ⊢
          generalize bg s n = s at HE0 HN0
          go_wp2_with fail
          obtain ⟨wB, hwB⟩ : ∃ wB, wB = w5 := ⟨_, rfl⟩
          rw [← hwB] at HE0 ⊢
          clear hwB
          go_loopw [9, 13, 17] (fun x y z wr => ∃ (m a i : Nat) (s : Sk) (D : Nat → Bool), x = .int .i64 m ∧ y = .int .i64 a ∧ z = .int .i64 i ∧ a ≤ 8 * c + i ∧ i ≤ 8 ∧ 1 ≤ m ∧ m ≤ 8 ∧ Hid (s.n = m) ∧ Hid (EX w wr b g s D i)) (fun _ _ z _ => 8 - (intOf z).toNat)
          case atStart => exact ⟨n, at', 0, s, _, rfl, rfl, rfl, by omega, by omega, hn1, hn8, HN0, HE0⟩
          case round =>
            clear HE0 HN0
            clear hn1 hn8
            obtain ⟨n, a, i, s, D, rfl, rfl, rfl, ha, hi8, hn1, hn8, HN, HX⟩ := hrel
            have k3 : (i : Int) < 24 := by omega
            have HC : Hid _ := left_any b s wr HX.out.sl (by rw [HN.out]; exact hn8)
            go_wp2_with fail
            refine Calls.mono HC.out ?_
            rintro e w6 ⟨rfl, rfl⟩
            clear HC
            by_cases hk0 : leftM s = 0
            · rw [hk0]
              have HEn : Hid (∃ s' : Sk, Calls Try.prog 15 #[.pointer (some ⟨b, 0, none⟩)] w6 (fun e w' => e = .returned (.int .i64 0) ∧ KR b s' w6 w') ∧ Ok s' ∧ s'.c = false ∧ s'.n = n ∧ (∀ j, s'.l j = false)) := by
                have hsn := HN.out
                have hcy := HX.out.cyc
                have e1 : endM s = (0, ⟨s.n, false, s.l, s.a⟩) := by
                  unfold endM
                  rw [if_neg (fun hh => by rcases hh with hh | hh; · rw [hcy] at hh; cases hh
                                           · exact hh hk0)]
                have hok := end_ok HX.out.ok
                rw [e1] at hok
                refine ⟨⟨s.n, false, s.l, s.a⟩, (end_any b s w6 HX.out.sl (by omega)).mono fun e w' ⟨he, hk⟩ => ?_, hok, rfl, hsn, fun j => left_none HX.out.ok hk0 j⟩
                rw [e1] at he hk
                exact ⟨he, hk⟩
              have HD : Hid (∀ j, 1 ≤ j → j ≤ n → D j = true) := fun j h1 h2 => by
                have hsn := HN.out
                rw [HX.out.lay j h1 (by omega), left_none HX.out.ok hk0 j]
                rfl
              obtain ⟨s', hcE, hok', hc', hn', hl'⟩ := HEn.out
              have HCE : Hid _ := hcE
              have HS' : Hid (Ok s' ∧ s'.c = false ∧ s'.n = n ∧ ∀ j, s'.l j = false) := ⟨hok', hc', hn', hl'⟩
              clear hcE hok' hc' hn' hl' HEn
              have HC : Hid _ := left_any b s w6 HX.out.sl (by rw [HN.out]; exact hn8)
              rw [hk0] at HC
              clear hk0
              go_wp2_with fail
              refine Calls.mono HC.out ?_
              rintro e w7 ⟨rfl, rfl⟩
              clear HC
              go_wp2_with fail
              refine Calls.mono HCE.out ?_
              rintro e w8 ⟨rfl, hk8⟩
              have HCF : Hid (Calls Try.prog 15 #[.pointer (some ⟨b, 0, none⟩)] w8 fun e w' => e = .returned (.int .i64 140) ∧ KR b s' w8 w') := by
                have h8 := HS'.out.1.le
                refine (end_any b s' w8 hk8.1 h8).mono fun e w' ⟨he, hk⟩ => ?_
                have e1 : endM s' = (140, s') := by unfold endM; rw [if_pos (.inl HS'.out.2.1)]
                rw [e1] at he hk
                exact ⟨he, hk⟩
              have HK8 : Hid (KR b s' w7 w8) := hk8
              clear hk8 HCE
              go_wp2_with fail
              refine Calls.mono HCF.out ?_
              rintro e w9 ⟨rfl, hk9⟩
              have HK9 : Hid (KR b s' w7 w9) := HK8.out.trans hk9
              clear hk9 HCF HK8
              have HR9 : Hid (DR w9 4 g 9 (fun k u => u = .bool (D k))) := HX.out.row.kept (HK9.out.2.1 g HX.out.ne)
              have HB9 : Hid (w.heap.size ≤ b ∧ Below w.heap.size w w9) := ⟨HX.out.lb, kr_bel HX.out.bel HK9.out HX.out.lb⟩
              have HS9 : Hid (SL w9 b s') := HK9.out.1
              clear HK9 HX HN
              go_wp2_with fail
              go_loopw [29] (fun x wr => ∃ j : Nat, x = .int .i64 j ∧ 1 ≤ j ∧ j ≤ n + 1 ∧ wr = w9) (fun x _ => n + 1 - (intOf x).toNat)
              case atStart => exact ⟨1, rfl, Nat.le_refl _, by omega, rfl⟩
              case round =>
                obtain ⟨j, rfl, hj1, hj2, rfl⟩ := hrel
                by_cases hjl : j ≤ n
                · have m1 : (j : Int) ≤ (n : Int) := by omega
                  have m2 : (j : Int) < 9 := by omega
                  have HSc : Hid (Calls Try.prog 14 #[.pointer (some ⟨b, 0, none⟩), .int .i64 (j : Int)] wr fun e w' => e = .returned (.bool true) ∧ w' = wr) := by
                    refine (scanned_any b s' j wr HS9.out HS'.out.1.le).mono fun e w' ⟨he, hw⟩ => ⟨?_, hw⟩
                    rw [he]
                    have h3 := HS'.out.2.2.1
                    have e1 : scanB s' (j : Int) = true := by
                      unfold scanB
                      rw [isT_iff.2 (show 1 ≤ (j : Int) ∧ (j : Int) ≤ s'.n from ⟨by omega, by omega⟩), HS'.out.2.2.2]
                      rfl
                    rw [e1]
                  have dj : wr.cell? ⟨g, j, none⟩ = some (.bool true) := by
                    obtain ⟨u, hu, hd⟩ := HR9.out.cell (j := j) (by omega)
                    rw [hu, hd, HD.out j hj1 hjl]
                  have lg9 := HR9.out.lt
                  go_wp2_with fail
                  refine Calls.mono HSc.out ?_
                  rintro e wS ⟨rfl, rfl⟩
                  clear HSc
                  go_wp2
                  go_roundw
                  case rel => exact ⟨j + 1, by go_num, by omega, by omega, by first | rfl | trivial⟩
                  case measure => simp [intOf]; omega
                · have m1 : ¬ (j : Int) ≤ (n : Int) := by omega
                  have HOn : Hid (OX w wr b n) := ⟨s', HS9.out, HS'.out.1, HS'.out.2.1, HS'.out.2.2.1, HB9.out.1, HB9.out.2⟩
                  clear HS9 HS' HB9 HR9 HD
                  go_wp2
                  go_roundw
                  case rel => exact ⟨n, a, c + 1, by first | rfl | go_num, by first | rfl | go_num, by go_num, by omega, by omega, hn1, hn8, HOn⟩
                  case measure => simp [intOf]; omega
            · have HLs : Hid (s.l (leftM s) = true ∧ 1 ≤ leftM s ∧ leftM s ≤ s.n) := left_some hk0
              have HDk : Hid (D (leftM s) = false) := by
                have := HX.out.lay (leftM s) HLs.out.2.1 HLs.out.2.2
                rw [HLs.out.1] at this
                exact this
              have HI : Hid (i < 8) := by
                have h1 := HX.out.num
                have h2 := cnt_off HLs.out.2.1 HLs.out.2.2 HLs.out.1
                show i < 8
                omega
              generalize leftM s = k at hk0 HLs HDk ⊢
              have hk1 : 1 ≤ k := HLs.out.2.1
              have hk2 : k ≤ n := by have h1 := HLs.out.2.2; have h2 := HN.out; omega
              have HL1 : Hid (s.l k = true) := HLs.out.1
              have hi7 : i < 8 := HI.out
              have j1 : ¬ (k : Int) = 0 := by omega
              have j2 : ¬ (k : Int) < 0 := by omega
              have j3 : ¬ (k : Int) > (n : Int) := by omega
              have j4 : (k : Int) < 9 := by omega
              have lgg : g < w6.heap.size := HX.out.row.lt
              have d1 := HX.out.cell (k := k) (by omega)
              rw [HDk.out] at d1
              clear HLs HDk HI
              by_cases ha1 : a < l.length
              · have j5 : (a : Int) < (l.length : Int) := by omega
                by_cases hn7 : n < 8
                · have j6 : (n : Int) < 8 := by omega
                  obtain ⟨x, hx⟩ : ∃ x, l[a]? = some x := ⟨_, List.getElem?_eq_getElem ha1⟩
                  obtain ⟨bb, oo, r1, r2⟩ := HA.out
                  have r1' := r1.resolve_left (by omega)
                  subst r1'
                  obtain ⟨r3, r4, r5⟩ := r2 a x hx
                  have r6 := (HX.out.bel.cell (p := ⟨bb, oo + a * 1, none⟩) r3).trans r4
                  rw [Nat.mul_one] at r6
                  have r7 : bb < w6.heap.size := Nat.lt_of_lt_of_le r3 HX.out.bel.size
                  obtain ⟨q, hq1, hq2⟩ := pick_fix x n r5 (by omega) (by omega)
                  have HPk : Hid (∀ w : World, Calls Try.prog 10 #[.int .i64 x, .int .i64 n] w fun e w' => e = .returned (.int .i64 q) ∧ w' = w) := hq2
                  have HBn : Hid (Calls Try.prog 11 #[.pointer (some ⟨b, 0, none⟩), .int .i64 ((1 : Int) + (q : Int))] w6 fun e w' => e = .returned (.tuple #[.int .i64 ((n : Int) + 1), .int .i64 0]) ∧ KR b (bornM s ((q + 1 : Nat) : Int)).2 w6 w') := by
                    have hsn := HN.out
                    refine (born_any b s _ w6 HX.out.sl (by omega)).mono fun e w' ⟨he, hk⟩ => ?_
                    rw [show (1 : Int) + (q : Int) = ((q + 1 : Nat) : Int) by omega] at he hk
                    rw [born_is (s := s) (p := q + 1) (by omega) (by omega)] at he
                    exact ⟨by rw [he, hsn]; rfl, hk⟩
                  clear r1 r2 r4 r5 hq2 hx
                  go_wp2_with fail
                  refine Calls.mono (HPk.out _) ?_
                  rintro e w7 ⟨rfl, rfl⟩
                  go_wp2_with fail
                  refine Calls.mono HBn.out ?_
                  rintro e w8 ⟨rfl, hk8⟩
                  have HK8 : Hid _ := hk8
                  have HX8 : Hid (EX w (w8.setCell ⟨g, n + 1, none⟩ (.bool (D (q + 1)))) b g ⟨s.n + 1, s.c, put s.l (s.n + 1) (s.l (q + 1)), s.a⟩ (put D (s.n + 1) (D (q + 1))) i) := by
                    have hsn := HN.out
                    have := HX.out.born (by omega) (by omega) (by omega) hk8
                    rw [hsn] at this ⊢
                    exact this
                  have hrow := HX.out.row.kept (hk8.2.1 g HX.out.ne)
                  have f1 := hrow.fz (n + 1)
                  have d2 : w8.cell? ⟨g, q + 1, none⟩ = some (.bool (D (q + 1))) := by
                    obtain ⟨u, hu, rfl⟩ := hrow.cell (j := q + 1) (by omega)
                    exact hu
                  obtain ⟨u3, d3, _⟩ := hrow.cell (j := n + 1) (by omega)
                  have l8 := hrow.lt
                  have j7 : ((1 : Int) + (q : Int)).toNat = q + 1 := by omega
                  have j8 : ((n : Int) + 1).toNat = n + 1 := by omega
                  have j9 : (1 : Int) + (q : Int) < 9 := by omega
                  have j10 : (n : Int) + 1 < 9 := by omega
                  have HSc : Hid (Calls Try.prog 14 #[.pointer (some ⟨b, 0, none⟩), .int .i64 ((n : Int) + 1)] (w8.setCell ⟨g, n + 1, none⟩ (.bool (D (q + 1)))) fun e w' => e = .returned (.bool (D (q + 1))) ∧ w' = w8.setCell ⟨g, n + 1, none⟩ (.bool (D (q + 1)))) := by
                    have hsn := HN.out
                    refine (scanned_any b _ _ _ HX8.out.sl (by show s.n + 1 ≤ 8; omega)).mono fun e w' ⟨he, hw⟩ => ⟨?_, hw⟩
                    rw [he]
                    have e1 : scanB ⟨s.n + 1, s.c, put s.l (s.n + 1) (s.l (q + 1)), s.a⟩ ((n : Int) + 1) = D (q + 1) := by
                      unfold scanB
                      rw [isT_iff.2 (show 1 ≤ (n : Int) + 1 ∧ (n : Int) + 1 ≤ ((s.n + 1 : Nat) : Int) from ⟨by omega, by omega⟩), j8]
                      dsimp only
                      rw [hsn, put_same, HX.out.lay (q + 1) (by omega) (by omega)]
                      rfl
                    rw [e1]
                  have d4 : (w8.setCell ⟨g, n + 1, none⟩ (.bool (D (q + 1)))).cell? ⟨g, q + 1, none⟩ = some (.bool (D (q + 1))) := by
                    have := HX8.out.cell (k := q + 1) (by omega)
                    rw [put_ne (by have := HN.out; omega)] at this
                    exact this
                  have HL2 : Hid (put s.l (s.n + 1) (s.l (q + 1)) k = true) := by
                    have hsn := HN.out
                    show _ = _
                    rw [put_ne (by omega)]
                    exact HL1.out
                  have HN2 : Hid ((⟨s.n + 1, s.c, put s.l (s.n + 1) (s.l (q + 1)), s.a⟩ : Sk).n = n + 1) := by show s.n + 1 = n + 1; rw [HN.out]
                  have l9 : g < (w8.setCell ⟨g, n + 1, none⟩ (.bool (D (q + 1)))).heap.size := by rw [World.size_setCell]; exact l8
                  clear HPk HBn HK8 hk8 hrow HX d1 r6 r7 lgg HL1 HN
                  go_upto_region 33 with fail
                  generalize w8.setCell ⟨g, n + 1, none⟩ (.bool (D (q + 1))) = W9 at *
                  clear d2 d3 f1 l8
                  generalize hs9 : (⟨s.n + 1, s.c, put s.l (s.n + 1) (s.l (q + 1)), s.a⟩ : Sk) = s9 at HX8
                  have HL9 : Hid (s9.l k = true) := by rw [← hs9]; exact HL2.out
                  have HN9 : Hid (s9.n = n + 1) := by rw [← hs9]; exact HN2.out
                  clear hs9 HL2 HN2
                  go_wp2_with fail
                  refine Calls.mono HSc.out ?_
                  rintro e wz ⟨rfl, rfl⟩
                  clear HSc
                  generalize put D (s.n + 1) (D (q + 1)) = D9 at HX8
                  have HEn : Hid (Calls Try.prog 15 #[.pointer (some ⟨b, 0, none⟩)] wz fun e w' => e = .returned (.int .i64 140) ∧ KR b s9 wz w') := by
                    have hsn := HN9.out
                    refine (end_any b s9 wz HX8.out.sl (by omega)).mono fun e w' ⟨he, hk⟩ => ?_
                    have e1 : endM s9 = (140, s9) := by unfold endM; rw [if_pos (.inr (left_ne HX8.out.ok HL9.out))]
                    rw [e1] at he hk
                    exact ⟨he, hk⟩
                  go_wp2_with fail
                  refine Calls.mono HEn.out ?_
                  rintro e wE ⟨rfl, hkE⟩
                  have HXE : Hid (EX w wE b g s9 D9 i) := HX8.out.same hkE
                  clear hkE HEn HX8
                  by_cases hz : (a + 1) % 2 = 0
                  · have z1 : ((a : Int) + 1).tmod 2 = 0 := by rw [Int.tmod_eq_emod_of_nonneg (by omega)]; omega
                    have z2 : ((a : Int) + 1) % 2 = 0 := by omega
                    have HAk : Hid (Calls Try.prog 16 #[.pointer (some ⟨b, 0, none⟩), .int .i64 (k : Int)] wE fun e w' => ∃ v : Int, e = .returned (.int .i64 v) ∧ ∃ s', EX w w' b g s' D9 i ∧ s'.n = s9.n ∧ s'.l = s9.l) := by
                      have hsn := HN9.out
                      exact (ask_any b s9 k wE HXE.out.sl (by omega)).mono fun e w' ⟨he, hk⟩ => ⟨_, he, HXE.out.ask hk⟩
                    clear hz
                    go_wp2_with fail
                    refine Calls.mono HAk.out ?_
                    rintro e wF ⟨vv, rfl, s', hx', hn', hl'⟩
                    have HXF : Hid (EX w wF b g s' D9 i) := hx'
                    have HNF : Hid (s'.n = (n + 1)) := hn'.trans HN9.out
                    have HLF : Hid (s'.l k = true) := by show _ = _; rw [hl']; exact HL9.out
                    clear hx' hn' hl' HAk HXE HN9 HL9
                    have HLy : Hid (Calls Try.prog 17 #[.pointer (some ⟨b, 0, none⟩), .int .i64 (k : Int)] wF fun e w' => e = .returned (.int .i64 0) ∧ KR b ⟨s'.n, s'.c, put s'.l k false, put s'.a k false⟩ wF w') := by
                      have hsn := HNF.out
                      refine (lay_any b s' k wF HXF.out.sl (by omega)).mono fun e w' ⟨he, hk⟩ => ?_
                      rw [lay_is (by omega) (by omega) HLF.out] at he hk
                      exact ⟨he, hk⟩
                    go_wp2_with fail
                    refine Calls.mono HLy.out ?_
                    rintro e wG ⟨rfl, hkG⟩
                    have HKG : Hid (KR b ⟨s'.n, s'.c, put s'.l k false, put s'.a k false⟩ wF wG) := hkG
                    have HLz : Hid (Calls Try.prog 17 #[.pointer (some ⟨b, 0, none⟩), .int .i64 (k : Int)] wG fun e w' => e = .returned (.int .i64 140) ∧ KR b ⟨s'.n, s'.c, put s'.l k false, put s'.a k false⟩ wG w') := by
                      have hsn := HNF.out
                      refine (lay_any b ⟨s'.n, s'.c, put s'.l k false, put s'.a k false⟩ k wG hkG.1 (by show s'.n ≤ 8; omega)).mono fun e w' ⟨he, hk⟩ => ?_
                      rw [lay_not (s := ⟨s'.n, s'.c, put s'.l k false, put s'.a k false⟩) (put_same _ _ _)] at he hk
                      exact ⟨he, hk⟩
                    clear hkG HLy
                    go_wp2_with fail
                    refine Calls.mono HLz.out ?_
                    rintro e wH ⟨rfl, hkH⟩
                    have hkGH := HKG.out.trans hkH
                    have HXH : Hid (EX w (wH.setCell ⟨g, k, none⟩ (.bool true)) b g ⟨s'.n, s'.c, put s'.l k false, put s'.a k false⟩ (put D9 k true) (i + 1)) := by
                      have hsn := HNF.out
                      exact HXF.out.lays (by omega) (by omega) HLF.out hkGH
                    have hrowH := HXF.out.row.kept (hkGH.2.1 g HXF.out.ne)
                    have fH := hrowH.fz k
                    obtain ⟨uH, dH, _⟩ := hrowH.cell (j := k) (by omega)
                    have lH := hrowH.lt
                    have HNH : Hid ((⟨s'.n, s'.c, put s'.l k false, put s'.a k false⟩ : Sk).n = (n + 1)) := HNF.out
                    clear hkH hkGH hrowH HXF HKG HLz
                    go_wp2
                    go_roundw
                    case rel => exact ⟨(n + 1), a + 1, i + 1, ⟨s'.n, s'.c, put s'.l k false, put s'.a k false⟩, put D9 k true, by first | rfl | go_num, by go_num, by go_num, by omega, by omega, by omega, by omega, HNH, HXH⟩
                    case measure => simp [intOf]; omega
                  · have z1 : (((a : Int) + 1).tmod 2 == 0) = false := by rw [Int.tmod_eq_emod_of_nonneg (by omega)]; simp; omega
                    have z2 : (((a : Int) + 1) % 2 == 0) = false := by simp; omega
                    have HXF : Hid (EX w wE b g s9 D9 i) := HXE.out
                    have HNF : Hid (s9.n = (n + 1)) := HN9.out
                    have HLF : Hid (s9.l k = true) := HL9.out
                    clear hz HXE HN9 HL9
                    have HLy : Hid (Calls Try.prog 17 #[.pointer (some ⟨b, 0, none⟩), .int .i64 (k : Int)] wE fun e w' => e = .returned (.int .i64 0) ∧ KR b ⟨s9.n, s9.c, put s9.l k false, put s9.a k false⟩ wE w') := by
                      have hsn := HNF.out
                      refine (lay_any b s9 k wE HXF.out.sl (by omega)).mono fun e w' ⟨he, hk⟩ => ?_
                      rw [lay_is (by omega) (by omega) HLF.out] at he hk
                      exact ⟨he, hk⟩
                    go_wp2_with fail
                    refine Calls.mono HLy.out ?_
                    rintro e wG ⟨rfl, hkG⟩
                    have HKG : Hid (KR b ⟨s9.n, s9.c, put s9.l k false, put s9.a k false⟩ wE wG) := hkG
                    have HLz : Hid (Calls Try.prog 17 #[.pointer (some ⟨b, 0, none⟩), .int .i64 (k : Int)] wG fun e w' => e = .returned (.int .i64 140) ∧ KR b ⟨s9.n, s9.c, put s9.l k false, put s9.a k false⟩ wG w') := by
                      have hsn := HNF.out
                      refine (lay_any b ⟨s9.n, s9.c, put s9.l k false, put s9.a k false⟩ k wG hkG.1 (by show s9.n ≤ 8; omega)).mono fun e w' ⟨he, hk⟩ => ?_
                      rw [lay_not (s := ⟨s9.n, s9.c, put s9.l k false, put s9.a k false⟩) (put_same _ _ _)] at he hk
                      exact ⟨he, hk⟩
                    clear hkG HLy
                    go_wp2_with fail
                    refine Calls.mono HLz.out ?_
                    rintro e wH ⟨rfl, hkH⟩
                    have hkGH := HKG.out.trans hkH
                    have HXH : Hid (EX w (wH.setCell ⟨g, k, none⟩ (.bool true)) b g ⟨s9.n, s9.c, put s9.l k false, put s9.a k false⟩ (put D9 k true) (i + 1)) := by
                      have hsn := HNF.out
                      exact HXF.out.lays (by omega) (by omega) HLF.out hkGH
                    have hrowH := HXF.out.row.kept (hkGH.2.1 g HXF.out.ne)
                    have fH := hrowH.fz k
                    obtain ⟨uH, dH, _⟩ := hrowH.cell (j := k) (by omega)
                    have lH := hrowH.lt
                    have HNH : Hid ((⟨s9.n, s9.c, put s9.l k false, put s9.a k false⟩ : Sk).n = (n + 1)) := HNF.out
                    clear hkH hkGH hrowH HXF HKG HLz
                    go_wp2
                    go_roundw
                    case rel => exact ⟨(n + 1), a + 1, i + 1, ⟨s9.n, s9.c, put s9.l k false, put s9.a k false⟩, put D9 k true, by first | rfl | go_num, by go_num, by go_num, by omega, by omega, by omega, by omega, HNH, HXH⟩
                    case measure => simp [intOf]; omega
                · have j6 : ¬ (n : Int) < 8 := by omega
                  have HEn : Hid (Calls Try.prog 15 #[.pointer (some ⟨b, 0, none⟩)] w6 fun e w' => e = .returned (.int .i64 140) ∧ KR b s w6 w') := by
                    have hsn := HN.out
                    refine (end_any b s w6 HX.out.sl (by omega)).mono fun e w' ⟨he, hk⟩ => ?_
                    have e1 : endM s = (140, s) := by unfold endM; rw [if_pos (.inr (left_ne HX.out.ok HL1.out))]
                    rw [e1] at he hk
                    exact ⟨he, hk⟩
                  go_wp2_with fail
                  refine Calls.mono HEn.out ?_
                  rintro e wE ⟨rfl, hkE⟩
                  have HXE : Hid (EX w wE b g s D i) := HX.out.same hkE
                  clear hkE HEn HX
                  by_cases hz : (a + 1) % 2 = 0
                  · have z1 : ((a : Int) + 1).tmod 2 = 0 := by rw [Int.tmod_eq_emod_of_nonneg (by omega)]; omega
                    have z2 : ((a : Int) + 1) % 2 = 0 := by omega
                    have HAk : Hid (Calls Try.prog 16 #[.pointer (some ⟨b, 0, none⟩), .int .i64 (k : Int)] wE fun e w' => ∃ v : Int, e = .returned (.int .i64 v) ∧ ∃ s', EX w w' b g s' D i ∧ s'.n = s.n ∧ s'.l = s.l) := by
                      have hsn := HN.out
                      exact (ask_any b s k wE HXE.out.sl (by omega)).mono fun e w' ⟨he, hk⟩ => ⟨_, he, HXE.out.ask hk⟩
                    clear hz
                    go_wp2_with fail
                    refine Calls.mono HAk.out ?_
                    rintro e wF ⟨vv, rfl, s', hx', hn', hl'⟩
                    have HXF : Hid (EX w wF b g s' D i) := hx'
                    have HNF : Hid (s'.n = n) := hn'.trans HN.out
                    have HLF : Hid (s'.l k = true) := by show _ = _; rw [hl']; exact HL1.out
                    clear hx' hn' hl' HAk HXE HN HL1
                    have HLy : Hid (Calls Try.prog 17 #[.pointer (some ⟨b, 0, none⟩), .int .i64 (k : Int)] wF fun e w' => e = .returned (.int .i64 0) ∧ KR b ⟨s'.n, s'.c, put s'.l k false, put s'.a k false⟩ wF w') := by
                      have hsn := HNF.out
                      refine (lay_any b s' k wF HXF.out.sl (by omega)).mono fun e w' ⟨he, hk⟩ => ?_
                      rw [lay_is (by omega) (by omega) HLF.out] at he hk
                      exact ⟨he, hk⟩
                    go_wp2_with fail
                    refine Calls.mono HLy.out ?_
                    rintro e wG ⟨rfl, hkG⟩
                    have HKG : Hid (KR b ⟨s'.n, s'.c, put s'.l k false, put s'.a k false⟩ wF wG) := hkG
                    have HLz : Hid (Calls Try.prog 17 #[.pointer (some ⟨b, 0, none⟩), .int .i64 (k : Int)] wG fun e w' => e = .returned (.int .i64 140) ∧ KR b ⟨s'.n, s'.c, put s'.l k false, put s'.a k false⟩ wG w') := by
                      have hsn := HNF.out
                      refine (lay_any b ⟨s'.n, s'.c, put s'.l k false, put s'.a k false⟩ k wG hkG.1 (by show s'.n ≤ 8; omega)).mono fun e w' ⟨he, hk⟩ => ?_
                      rw [lay_not (s := ⟨s'.n, s'.c, put s'.l k false, put s'.a k false⟩) (put_same _ _ _)] at he hk
                      exact ⟨he, hk⟩
                    clear hkG HLy
                    go_wp2_with fail
                    refine Calls.mono HLz.out ?_
                    rintro e wH ⟨rfl, hkH⟩
                    have hkGH := HKG.out.trans hkH
                    have HXH : Hid (EX w (wH.setCell ⟨g, k, none⟩ (.bool true)) b g ⟨s'.n, s'.c, put s'.l k false, put s'.a k false⟩ (put D k true) (i + 1)) := by
                      have hsn := HNF.out
                      exact HXF.out.lays (by omega) (by omega) HLF.out hkGH
                    have hrowH := HXF.out.row.kept (hkGH.2.1 g HXF.out.ne)
                    have fH := hrowH.fz k
                    obtain ⟨uH, dH, _⟩ := hrowH.cell (j := k) (by omega)
                    have lH := hrowH.lt
                    have HNH : Hid ((⟨s'.n, s'.c, put s'.l k false, put s'.a k false⟩ : Sk).n = n) := HNF.out
                    clear hkH hkGH hrowH HXF HKG HLz
                    go_wp2
                    go_roundw
                    case rel => exact ⟨n, a + 1, i + 1, ⟨s'.n, s'.c, put s'.l k false, put s'.a k false⟩, put D k true, by first | rfl | go_num, by go_num, by go_num, by omega, by omega, by omega, by omega, HNH, HXH⟩
                    case measure => simp [intOf]; omega
                  · have z1 : (((a : Int) + 1).tmod 2 == 0) = false := by rw [Int.tmod_eq_emod_of_nonneg (by omega)]; simp; omega
                    have z2 : (((a : Int) + 1) % 2 == 0) = false := by simp; omega
                    have HXF : Hid (EX w wE b g s D i) := HXE.out
                    have HNF : Hid (s.n = n) := HN.out
                    have HLF : Hid (s.l k = true) := HL1.out
                    clear hz HXE HN HL1
                    have HLy : Hid (Calls Try.prog 17 #[.pointer (some ⟨b, 0, none⟩), .int .i64 (k : Int)] wE fun e w' => e = .returned (.int .i64 0) ∧ KR b ⟨s.n, s.c, put s.l k false, put s.a k false⟩ wE w') := by
                      have hsn := HNF.out
                      refine (lay_any b s k wE HXF.out.sl (by omega)).mono fun e w' ⟨he, hk⟩ => ?_
                      rw [lay_is (by omega) (by omega) HLF.out] at he hk
                      exact ⟨he, hk⟩
                    go_wp2_with fail
                    refine Calls.mono HLy.out ?_
                    rintro e wG ⟨rfl, hkG⟩
                    have HKG : Hid (KR b ⟨s.n, s.c, put s.l k false, put s.a k false⟩ wE wG) := hkG
                    have HLz : Hid (Calls Try.prog 17 #[.pointer (some ⟨b, 0, none⟩), .int .i64 (k : Int)] wG fun e w' => e = .returned (.int .i64 140) ∧ KR b ⟨s.n, s.c, put s.l k false, put s.a k false⟩ wG w') := by
                      have hsn := HNF.out
                      refine (lay_any b ⟨s.n, s.c, put s.l k false, put s.a k false⟩ k wG hkG.1 (by show s.n ≤ 8; omega)).mono fun e w' ⟨he, hk⟩ => ?_
                      rw [lay_not (s := ⟨s.n, s.c, put s.l k false, put s.a k false⟩) (put_same _ _ _)] at he hk
                      exact ⟨he, hk⟩
                    clear hkG HLy
                    go_wp2_with fail
                    refine Calls.mono HLz.out ?_
                    rintro e wH ⟨rfl, hkH⟩
                    have hkGH := HKG.out.trans hkH
                    have HXH : Hid (EX w (wH.setCell ⟨g, k, none⟩ (.bool true)) b g ⟨s.n, s.c, put s.l k false, put s.a k false⟩ (put D k true) (i + 1)) := by
                      have hsn := HNF.out
                      exact HXF.out.lays (by omega) (by omega) HLF.out hkGH
                    have hrowH := HXF.out.row.kept (hkGH.2.1 g HXF.out.ne)
                    have fH := hrowH.fz k
                    obtain ⟨uH, dH, _⟩ := hrowH.cell (j := k) (by omega)
                    have lH := hrowH.lt
                    have HNH : Hid ((⟨s.n, s.c, put s.l k false, put s.a k false⟩ : Sk).n = n) := HNF.out
                    clear hkH hkGH hrowH HXF HKG HLz
                    go_wp2
                    go_roundw
                    case rel => exact ⟨n, a + 1, i + 1, ⟨s.n, s.c, put s.l k false, put s.a k false⟩, put D k true, by first | rfl | go_num, by go_num, by go_num, by omega, by omega, by omega, by omega, HNH, HXH⟩
                    case measure => simp [intOf]; omega
              · have j5 : ¬ (a : Int) < (l.length : Int) := by omega
                have HEn : Hid (Calls Try.prog 15 #[.pointer (some ⟨b, 0, none⟩)] w6 fun e w' => e = .returned (.int .i64 140) ∧ KR b s w6 w') := by
                  have hsn := HN.out
                  refine (end_any b s w6 HX.out.sl (by omega)).mono fun e w' ⟨he, hk⟩ => ?_
                  have e1 : endM s = (140, s) := by unfold endM; rw [if_pos (.inr (left_ne HX.out.ok HL1.out))]
                  rw [e1] at he hk
                  exact ⟨he, hk⟩
                go_wp2_with fail
                refine Calls.mono HEn.out ?_
                rintro e wE ⟨rfl, hkE⟩
                have HXE : Hid (EX w wE b g s D i) := HX.out.same hkE
                clear hkE HEn HX
                by_cases hz : (a + 1) % 2 = 0
                · have z1 : ((a : Int) + 1).tmod 2 = 0 := by rw [Int.tmod_eq_emod_of_nonneg (by omega)]; omega
                  have z2 : ((a : Int) + 1) % 2 = 0 := by omega
                  have HAk : Hid (Calls Try.prog 16 #[.pointer (some ⟨b, 0, none⟩), .int .i64 (k : Int)] wE fun e w' => ∃ v : Int, e = .returned (.int .i64 v) ∧ ∃ s', EX w w' b g s' D i ∧ s'.n = s.n ∧ s'.l = s.l) := by
                    have hsn := HN.out
                    exact (ask_any b s k wE HXE.out.sl (by omega)).mono fun e w' ⟨he, hk⟩ => ⟨_, he, HXE.out.ask hk⟩
                  clear hz
                  go_wp2_with fail
                  refine Calls.mono HAk.out ?_
                  rintro e wF ⟨vv, rfl, s', hx', hn', hl'⟩
                  have HXF : Hid (EX w wF b g s' D i) := hx'
                  have HNF : Hid (s'.n = n) := hn'.trans HN.out
                  have HLF : Hid (s'.l k = true) := by show _ = _; rw [hl']; exact HL1.out
                  clear hx' hn' hl' HAk HXE HN HL1
                  have HLy : Hid (Calls Try.prog 17 #[.pointer (some ⟨b, 0, none⟩), .int .i64 (k : Int)] wF fun e w' => e = .returned (.int .i64 0) ∧ KR b ⟨s'.n, s'.c, put s'.l k false, put s'.a k false⟩ wF w') := by
                    have hsn := HNF.out
                    refine (lay_any b s' k wF HXF.out.sl (by omega)).mono fun e w' ⟨he, hk⟩ => ?_
                    rw [lay_is (by omega) (by omega) HLF.out] at he hk
                    exact ⟨he, hk⟩
                  go_wp2_with fail
                  refine Calls.mono HLy.out ?_
                  rintro e wG ⟨rfl, hkG⟩
                  have HKG : Hid (KR b ⟨s'.n, s'.c, put s'.l k false, put s'.a k false⟩ wF wG) := hkG
                  have HLz : Hid (Calls Try.prog 17 #[.pointer (some ⟨b, 0, none⟩), .int .i64 (k : Int)] wG fun e w' => e = .returned (.int .i64 140) ∧ KR b ⟨s'.n, s'.c, put s'.l k false, put s'.a k false⟩ wG w') := by
                    have hsn := HNF.out
                    refine (lay_any b ⟨s'.n, s'.c, put s'.l k false, put s'.a k false⟩ k wG hkG.1 (by show s'.n ≤ 8; omega)).mono fun e w' ⟨he, hk⟩ => ?_
                    rw [lay_not (s := ⟨s'.n, s'.c, put s'.l k false, put s'.a k false⟩) (put_same _ _ _)] at he hk
                    exact ⟨he, hk⟩
                  clear hkG HLy
                  go_wp2_with fail
                  refine Calls.mono HLz.out ?_
                  rintro e wH ⟨rfl, hkH⟩
                  have hkGH := HKG.out.trans hkH
                  have HXH : Hid (EX w (wH.setCell ⟨g, k, none⟩ (.bool true)) b g ⟨s'.n, s'.c, put s'.l k false, put s'.a k false⟩ (put D k true) (i + 1)) := by
                    have hsn := HNF.out
                    exact HXF.out.lays (by omega) (by omega) HLF.out hkGH
                  have hrowH := HXF.out.row.kept (hkGH.2.1 g HXF.out.ne)
                  have fH := hrowH.fz k
                  obtain ⟨uH, dH, _⟩ := hrowH.cell (j := k) (by omega)
                  have lH := hrowH.lt
                  have HNH : Hid ((⟨s'.n, s'.c, put s'.l k false, put s'.a k false⟩ : Sk).n = n) := HNF.out
                  clear hkH hkGH hrowH HXF HKG HLz
                  go_wp2
                  go_roundw
                  case rel => exact ⟨n, a + 1, i + 1, ⟨s'.n, s'.c, put s'.l k false, put s'.a k false⟩, put D k true, by first | rfl | go_num, by go_num, by go_num, by omega, by omega, by omega, by omega, HNH, HXH⟩
                  case measure => simp [intOf]; omega
                · have z1 : (((a : Int) + 1).tmod 2 == 0) = false := by rw [Int.tmod_eq_emod_of_nonneg (by omega)]; simp; omega
                  have z2 : (((a : Int) + 1) % 2 == 0) = false := by simp; omega
                  have HXF : Hid (EX w wE b g s D i) := HXE.out
                  have HNF : Hid (s.n = n) := HN.out
                  have HLF : Hid (s.l k = true) := HL1.out
                  clear hz HXE HN HL1
                  have HLy : Hid (Calls Try.prog 17 #[.pointer (some ⟨b, 0, none⟩), .int .i64 (k : Int)] wE fun e w' => e = .returned (.int .i64 0) ∧ KR b ⟨s.n, s.c, put s.l k false, put s.a k false⟩ wE w') := by
                    have hsn := HNF.out
                    refine (lay_any b s k wE HXF.out.sl (by omega)).mono fun e w' ⟨he, hk⟩ => ?_
                    rw [lay_is (by omega) (by omega) HLF.out] at he hk
                    exact ⟨he, hk⟩
                  go_wp2_with fail
                  refine Calls.mono HLy.out ?_
                  rintro e wG ⟨rfl, hkG⟩
                  have HKG : Hid (KR b ⟨s.n, s.c, put s.l k false, put s.a k false⟩ wE wG) := hkG
                  have HLz : Hid (Calls Try.prog 17 #[.pointer (some ⟨b, 0, none⟩), .int .i64 (k : Int)] wG fun e w' => e = .returned (.int .i64 140) ∧ KR b ⟨s.n, s.c, put s.l k false, put s.a k false⟩ wG w') := by
                    have hsn := HNF.out
                    refine (lay_any b ⟨s.n, s.c, put s.l k false, put s.a k false⟩ k wG hkG.1 (by show s.n ≤ 8; omega)).mono fun e w' ⟨he, hk⟩ => ?_
                    rw [lay_not (s := ⟨s.n, s.c, put s.l k false, put s.a k false⟩) (put_same _ _ _)] at he hk
                    exact ⟨he, hk⟩
                  clear hkG HLy
                  go_wp2_with fail
                  refine Calls.mono HLz.out ?_
                  rintro e wH ⟨rfl, hkH⟩
                  have hkGH := HKG.out.trans hkH
                  have HXH : Hid (EX w (wH.setCell ⟨g, k, none⟩ (.bool true)) b g ⟨s.n, s.c, put s.l k false, put s.a k false⟩ (put D k true) (i + 1)) := by
                    have hsn := HNF.out
                    exact HXF.out.lays (by omega) (by omega) HLF.out hkGH
                  have hrowH := HXF.out.row.kept (hkGH.2.1 g HXF.out.ne)
                  have fH := hrowH.fz k
                  obtain ⟨uH, dH, _⟩ := hrowH.cell (j := k) (by omega)
                  have lH := hrowH.lt
                  have HNH : Hid ((⟨s.n, s.c, put s.l k false, put s.a k false⟩ : Sk).n = n) := HNF.out
                  clear hkH hkGH hrowH HXF HKG HLz
                  go_wp2
                  go_roundw
                  case rel => exact ⟨n, a + 1, i + 1, ⟨s.n, s.c, put s.l k false, put s.a k false⟩, put D k true, by first | rfl | go_num, by go_num, by go_num, by omega, by omega, by omega, by omega, HNH, HXH⟩
                  case measure => simp [intOf]; omega
        · obtain rfl : c = p2 + 1 := by omega
          have k2 : ¬ ((p2 + 1 : Nat) : Int) ≤ (p2 : Int) := by omega
          obtain ⟨s, _, _, _, _, _, q6⟩ := HO.out
          have HBe : Hid (Below w.heap.size w wr) := q6
          clear q6 HO
          go_wp2_with fail
          refine Calls.mono (HP2.out _) ?_
          rintro e wx2 ⟨rfl, rfl⟩
          go_wp2
          go_ret
          exact ⟨rfl, HBe.out⟩
end Go.Proofs.Ytnhbmkakjhkgdaa
