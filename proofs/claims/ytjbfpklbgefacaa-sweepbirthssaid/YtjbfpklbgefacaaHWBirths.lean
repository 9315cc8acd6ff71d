/- SweepBirths. -/
import Derived.Test.YtjbfpklbgefacaaHWBirths0
namespace Go.Proofs.Ytjbfpklbgefacaa
open Go.RowKit

set_option maxRecDepth 100000 in
set_option maxHeartbeats 64000000 in
theorem sweepBirths_walk (l : List Cl) (ra : Option Addr) (ca : Nat) (bs : List Int) (rb : Option Addr) (cb : Nat) (w : World) (hH : HR w ra l) (hR : RX (Value.int .i64) w rb bs) (hI : ∀ x ∈ bs, -9223372036854775808 ≤ x ∧ x ≤ 9223372036854775807) :
    Calls Try.prog 6 #[.slice ra l.length ca, .slice rb bs.length cb] w fun e w' => e = .returned (.bool true) ∧ Below w.heap.size w w' := by
  have qP : ∀ (g : Nat) (W : World), (binOp .eql 25 (.pointer (some ⟨g, 0, none⟩)) (.pointer none)).run Try.prog W = .ok (.bool false) W := fun g W => by simp [go_sem]
  have qN : ∀ (W : World), (binOp .eql 25 (.pointer none) (.pointer none)).run Try.prog W = .ok (.bool true) W := fun W => by simp [go_sem]
  have qS : ∀ (g : Nat) (W : World), (binOp .eql 28 (.pointer (some ⟨g, 0, none⟩)) (.pointer none)).run Try.prog W = .ok (.bool false) W := fun g W => by simp [go_sem]
  have HL : Hid (HR w ra l) := hH
  have HRX : Hid (RX (Value.int .i64) w rb bs) := hR
  have HBI : Hid (∀ x ∈ bs, -9223372036854775808 ≤ x ∧ x ≤ 9223372036854775807) := hI
  clear hH hR hI
  by_cases hbig : 200 < l.length
  · have k3 : decide ((l.length : Int) > 200) = true := by simp; omega
    have k4 : decide (200 < (l.length : Int)) = true := by simp; omega
    go_enter Try.func6, Try.ntmps6
    go_wp2_with fail
    go_ret
    exact ⟨rfl, Below.refl _ _⟩
  · have k3 : decide ((l.length : Int) > 200) = false := by simp; omega
    have k4 : decide (200 < (l.length : Int)) = false := by simp; omega
    have hl : l.length ≤ 200 := by omega
    by_cases hbig2 : 1000 < bs.length
    · have k5 : decide ((bs.length : Int) > 1000) = true := by simp; omega
      have k6 : decide (1000 < (bs.length : Int)) = true := by simp; omega
      go_enter Try.func6, Try.ntmps6
      go_wp2_with fail
      go_ret
      exact ⟨rfl, Below.refl _ _⟩
    · have k5 : decide ((bs.length : Int) > 1000) = false := by simp; omega
      have k6 : decide (1000 < (bs.length : Int)) = false := by simp; omega
      have hbl : bs.length ≤ 1000 := by omega
      obtain ⟨i0, hi0, hz0, hz1, hz2⟩ := info_parts infoK
      go_enter Try.func6, Try.ntmps6
      go_wp2_with fail
      refine Calls.mono (known_any w) ?_
      rintro e w1 ⟨rfl, b1⟩
      have HB1 : Hid (Below w.heap.size w w1) := b1
      have HN : Hid _ := hr_news (HL.out.below b1)
      clear b1 k3 k4 hbig k5 k6 hbig2
      go_wp2_with (at_builtin; refine stop_of ?_)
      unfold Hid
      refine wpList_append_all _ rfl _ _ 23 rfl w.heap.size 39 i0 _ 4 24 Try.underlying23 hi0 hz0 hz1 hz2 rfl (by decide) (.slice none 0 0) 0 [] rfl (World.ownsRow_nil _ _ _ _) ra l.length ca (clCells l) rfl (clCells_len _) HN.out.1 HN.out.2 (clCells_one _) (by unfold maxLen; omega) (by omega) HB1.out.size ?_
      intro rh ch w2 hown2 hgr2 _
      rw [Nat.zero_add, List.nil_append] at hown2
      have b2 : Below w.heap.size w w2 := HB1.out.trans ((grown_low hgr2 (fun g hg => by cases hg) (Nat.le_refl _)).mono HB1.out.size)
      have HI0 : Hid (OwK w2 w.heap.size rh (pm (gb 0) l 0) ∧ Below w.heap.size w w2) := ⟨by rw [pm_zero]; exact own_owk hown2, b2⟩
      clear hown2 hgr2 HN b2 hi0 hz0 hz1 hz2
      rw [Nat.zero_add]
      go_wp2_with fail
      go_loopw [7] (fun i wr => ∃ j : Nat, i = .int .i64 j ∧ j ≤ l.length ∧ Hid (OwK wr w.heap.size rh (pm (gb 0) l j) ∧ Below w.heap.size w wr)) (fun i _ => l.length - (intOf i).toNat)
      case atStart => exact ⟨0, rfl, Nat.zero_le _, HI0⟩
      case round =>
        clear HI0
        obtain ⟨j, rfl, hj, HI⟩ := hrel
        by_cases hjl : j < l.length
        · have k1 : (j : Int) < (l.length : Int) := by omega
          have k1' : decide ((j : Int) < (l.length : Int)) = true := by simpa using hjl
          obtain ⟨x, hx⟩ : ∃ x, l[j]? = some x := ⟨_, List.getElem?_eq_getElem hjl⟩
          have hx' : (pm (gb 0) l j)[j]? = some x := (pm_at (Nat.le_refl _)).trans hx
          obtain ⟨g, hrh, hbg, hgl, ⟨y1, y2, y3, y4⟩, hfz⟩ := HI.out.1.at hx'
          have hrh2 : rh = some ⟨g, 0, none⟩ := hrh
          by_cases hc : x.c = 1
          · have z1 : (x.c == 1) = true := by simpa using hc
            have HI2 : Hid (OwK (wr.setCell ⟨g, j * 4 + 1, none⟩ (.int .u8 0)) w.heap.size rh (pm (gb 0) l (j + 1)) ∧ Below w.heap.size w (wr.setCell ⟨g, j * 4 + 1, none⟩ (.int .u8 0))) := by
              refine ⟨?_, HI.out.2.setCell (p := ⟨g, j * 4 + 1, none⟩) hbg _⟩
              rw [← pm_set hx, gb_grey hc, hrh2]
              exact OwK.set (hrh2 ▸ HI.out.1) hx' 0
            rw [hrh2] at HI2 ⊢
            clear hx hx' hrh hrh2 HI hc y1 y3 y4
            go_wp2_with fail
            refine ⟨⟨j + 1, by go_num, by omega, HI2⟩, by simp [intOf]; omega⟩
          · have z1 : (x.c == 1) = false := by simpa using hc
            have HE : Hid (pm (gb 0) l (j + 1) = pm (gb 0) l j) := pm_same hx (gb_same hc)
            rw [hrh2] at HI ⊢
            clear hx hx' hrh hrh2 hc y1 y3 y4
            go_wp2_with fail
            refine ⟨⟨j + 1, by go_num, by omega, ?_⟩, by simp [intOf]; omega⟩
            rw [HE.out]
            exact HI
        · have e : j = l.length := by omega
          subst e
          have k1 : ¬ ((l.length : Int) < (l.length : Int)) := by omega
          rw [pm_all] at HI
          obtain ⟨L, hL⟩ : ∃ L, L = l.map (gb 0) := ⟨_, rfl⟩
          have hLl : L.length = l.length := by rw [hL]; simp
          have hok : ∀ x ∈ L, OkK x ∧ x.c ≠ 1 := fun x hx => by
            rw [hL] at hx
            obtain ⟨y, hy, rfl⟩ := List.mem_map.1 hx
            exact ⟨gb_ok (hr_ok HL.out y hy) (by decide), gb_not (by decide)⟩
          rw [← hL] at HI
          have HR1 : Hid (HR wr rh L) := HI.out.1.hr (fun x hx => (hok x hx).1)
          have HB2 : Hid (Below w.heap.size w wr) := HI.out.2
          rw [← hLl]
          have HOK : Hid (∀ x ∈ L, OkK x ∧ x.c ≠ 1) := hok
          clear HI hok
          rw [← hLl] at hl k1
          clear hLl hL hjl hj
          by_cases h4 : L.length < 4
          · have HBad : Hid (Calls Try.prog 8 #[.slice rh L.length ch] wr fun e w' => e = .returned (.tuple #[.pointer none, .slice none 0 0]) ∧ w' = wr) := heap_bad L rh ch wr (.inl h4)
            clear h4
            go_wp2_with fail
            refine Calls.mono HBad.out ?_
            rintro e w' ⟨rfl, hw'⟩
            rw [hw']
            clear hw'
            go_wp2_with fail
            go_ret
            exact ⟨rfl, HB2.out⟩
          · have HHp : Hid (Calls Try.prog 8 #[.slice rh L.length ch] wr fun e w' => HpR L wr e w') := heap_any L rh ch wr HR1.out (by omega) (by omega)
            go_wp2_with fail
            refine Calls.mono HHp.out ?_
            rintro e w3 ⟨hb, ab, g, rfl, c3, _, _⟩
            have HC3 : Hid (CN w w3 hb ab (L.map plX)) := c3.from HB2.out
            clear c3 HHp
            go_wp2_with fail
            refine Calls.mono (snew_any w3 HC3.out.c) ?_
            rintro e w4 ⟨sb, rfl, s4, b4, l4⟩
            have hgd : ∀ x ∈ L.map plX, Good x := fun x hx => by
              obtain ⟨y, hy, rfl⟩ := List.mem_map.1 hx
              exact plX_good (HOK.out y hy).1 (HOK.out y hy).2
            have HT4 : Hid (SN w w4 sb hb ab (L.map plX) (L.map plX).length 0) := SN.new HC3.out s4 b4 l4
            obtain ⟨n, hn⟩ : ∃ n, n = L.length := ⟨_, rfl⟩
            have HLN : Hid ((L.map plX).length = n) := by show _ = _; rw [hn]; simp
            rw [← hn]
            have hn1 : n ≤ 200 := by omega
            have hn4 : 4 ≤ n := by omega
            generalize L.map plX = H0 at HT4 HLN hgd
            have HG0 : Hid (∀ x ∈ H0, Good x) := hgd
            clear s4 b4 l4 hgd HC3 HR1 HB2 HOK hl k1 h4 hn HL HB1
            go_wp2_with fail
            refine Calls.mono (begin_any w4 HT4.out.s.s) ?_
            rintro e w5 ⟨rfl, s5, f5⟩
            have HT5 : Hid (SN w w5 sb hb ab H0 0 0) := HT4.out.begin s5 f5
            clear s5 f5 HT4
            obtain ⟨i1, hi1, hy0, hy1, hy2⟩ := info_parts infoBo
            obtain ⟨w6, hrun, hown6, hgr6⟩ := run_make_full (P := Try.prog) w5 w.heap.size 59 4 i1 (.bool false) 1 Try.underlying59 hi1 hy0 hy1 .i64 .i64 n (by rw [hy2]; omega) (by unfold maxLen; omega) HT5.out.b.size
            have b6 : Below w5.heap.size w5 w6 := grown_low hgr6 (fun g hg => by cases hg) (Nat.le_refl _)
            have HT6 : Hid (BT w w6 sb hb ab w5.heap.size n H0 (fun _ => false) 0 0) := ⟨HT5.out.below b6, row_made hown6 (false_made _), HT5.out.b.size⟩
            obtain ⟨gf, hgf⟩ : ∃ gf, gf = w5.heap.size := ⟨_, rfl⟩
            rw [← hgf] at HT6 hrun
            have HB0 : Hid (Bi H0 (fun _ => false) 0) := ⟨HG0.out, fun c x _ hc => absurd hc (Nat.not_lt_zero _), fun c x _ hf => by cases hf⟩
            clear hgr6 b6 hown6 hi1 hy0 hy1 hy2 hgf HG0 HT5
            go_wp2_with fail
            obtain ⟨bb, bo, hbor, hbcs⟩ := HRX.out.at
            have HBC : Hid (∀ (j : Nat) (x : Int), bs[j]? = some x → bb < w.heap.size ∧ w.cell? ⟨bb, bo + j, none⟩ = some (.int .i64 x)) := hbcs
            have HBO : Hid (bs.length ≠ 0 → rb = some ⟨bb, bo, none⟩) := hbor
            clear hbor hbcs hrun HRX
            go_loopw [12] (fun iv wr => ∃ (i f : Nat) (h : List Cl) (fr : Nat → Bool), iv = .int .i64 i ∧ i ≤ n ∧ f ≤ i ∧ Hid (h.length = n) ∧ Hid (Bi h fr i) ∧ Hid (BT w wr sb hb ab gf n h fr i f)) (fun iv _ => n - (intOf iv).toNat)
            case atStart => exact ⟨0, 0, H0, fun _ => false, rfl, Nat.zero_le _, Nat.le_refl _, HLN, HB0, HT6⟩
            case round =>
              clear HB0 HT6 HLN H0
              obtain ⟨i, f, h, fr, rfl, hi, hfi, HN, HB, HT⟩ := hrel
              by_cases hil : i < n
              · have i1 : (i : Int) < (n : Int) := by omega
                have i1' : decide ((i : Int) < (n : Int)) = true := by simpa using hil
                go_wp2_with fail
                obtain ⟨wA, hwA⟩ : ∃ wA, wA = wr := ⟨_, rfl⟩
                clear hwA
                go_loopw [13] (fun kv wr => ∃ (k : Nat) (h : List Cl) (fr : Nat → Bool), kv = .int .i64 k ∧ k ≤ 2 ∧ Hid (h.length = n) ∧ Hid (Bi h fr i) ∧ Hid (BT w wr sb hb ab gf n h fr i f)) (fun kv _ => 2 - (intOf kv).toNat)
                case atStart => exact ⟨0, h, fr, rfl, by omega, HN, HB, HT⟩
                case round =>
                  clear HN HB HT h fr
                  obtain ⟨k, h, fr, rfl, hk, HN, HB, HT⟩ := hrel
                  by_cases hk2 : k < 2
                  · have k1 : (k : Int) < 2 := by omega
                    have k1' : decide ((k : Int) < 2) = true := by simp; omega
                    by_cases hkb : 2 * i + k < bs.length
                    · have k2 : decide ((2 : Int) * (i : Int) + (k : Int) < (bs.length : Int)) = true := by simp; omega
                      have k3 : (2 : Int) * (i : Int) + (k : Int) < (bs.length : Int) := by omega
                      obtain ⟨x, hx⟩ : ∃ x, bs[2 * i + k]? = some x := ⟨_, List.getElem?_eq_getElem hkb⟩
                      obtain ⟨g1, y1⟩ := HBC.out _ x hx
                      have u1 := (HT.out.sn.b.cell (p := ⟨bb, bo + (2 * i + k), none⟩) g1).trans y1
                      have hrb : rb = some ⟨bb, bo, none⟩ := HBO.out (by omega)
                      obtain ⟨m, hm, hpk⟩ := pick_fix x n (HBI.out x (List.mem_of_getElem? hx)) (by omega) (by omega)
                      have HPk : Hid (Calls Try.prog 21 #[.int .i64 x, .int .i64 n] wr fun e w' => e = .returned (.int .i64 m) ∧ w' = wr) := hpk wr
                      obtain ⟨y, hy⟩ : ∃ y, h[m]? = some y := ⟨_, List.getElem?_eq_getElem (by have := HN.out; omega)⟩
                      subst hrb
                      clear hx y1 hpk
                      go_wp2_with fail
                      refine Calls.mono HPk.out ?_
                      rintro e w' ⟨rfl, hw'⟩
                      rw [hw']
                      clear hw' HPk u1
                      by_cases him : i ≤ m
                      · have cc : decide ((m : Int) ≥ (i : Int)) = true ∧ decide ((i : Int) ≤ (m : Int)) = true := ⟨by simp; omega, by simp; omega⟩
                        obtain ⟨cc1, cc2⟩ := cc
                        have HMk : Hid (Calls Try.prog 22 #[.pointer (some ⟨hb, 0, none⟩), .int .i64 m, .int .u8 2, .int .u8 2, .int .u64 7, .int .u64 7] wr fun e w' => e = .returned (.int .i64 (makeE h m (bx 2))) ∧ ExR hb ab (makeH h m (bx 2)) wr w') := hmake_any (m : Int) (bx 2) HT.out.sn.s.c (bx_ok (by decide))
                        have HBm : Hid (Bi (h.set m (bx 2)) (fun c => if c = m then true else fr c) i) := by
                          have := HB.out.make (m := m) (by have := HN.out; omega)
                          rw [if_pos him] at this
                          exact this
                        rw [makeE_bx hy (by decide)] at HMk
                        by_cases hy0 : y.k = 0
                        · rw [if_pos hy0] at HMk
                          have HME : Hid (makeH h m (bx 2) = h.set m (bx 2)) := by
                            show _ = _
                            unfold makeH
                            rw [makeE_bx hy (by decide), if_pos hy0]
                            simp
                          rw [HME.out] at HMk
                          clear HME hy hy0
                          go_wp2_with fail
                          refine Calls.mono (at_any wr HT.out.sn.s.s) ?_
                          rintro e w' ⟨rfl, hw'⟩
                          rw [hw']
                          clear hw'
                          go_wp2_with fail
                          refine Calls.mono HMk.out ?_
                          rintro e w7 ⟨rfl, e7⟩
                          have HT7 : Hid (BT w w7 sb hb ab gf n (h.set m (bx 2)) fr i f) := HT.out.ex e7
                          clear e7 HMk HT
                          have HT8 : Hid (BT w (w7.setCell ⟨gf, m, none⟩ (.bool true)) sb hb ab gf n (h.set m (bx 2)) (fun c => if c = m then true else fr c) i f) := HT7.out.mark
                          obtain ⟨uu, v1, _⟩ := HT7.out.d.cell hm
                          have v2 := HT7.out.d.fz m
                          have m1 : (m : Int) < (n : Int) := by omega
                          go_wp2_with fail
                          refine ⟨⟨k + 1, h.set m (bx 2), _, by go_num, by omega, ?_, HBm, HT8⟩, by simp [intOf]; omega⟩
                          show _ = _
                          rw [List.length_set]
                          exact HN.out
                        · rw [if_neg hy0] at HMk
                          have HME : Hid (makeH h m (bx 2) = h) := by
                            show _ = _
                            unfold makeH
                            rw [makeE_bx hy (by decide), if_neg hy0]
                            simp
                          rw [HME.out] at HMk
                          clear HME hy hy0 HBm
                          go_wp2_with fail
                          refine Calls.mono (at_any wr HT.out.sn.s.s) ?_
                          rintro e w' ⟨rfl, hw'⟩
                          rw [hw']
                          clear hw'
                          go_wp2_with fail
                          refine Calls.mono HMk.out ?_
                          rintro e w7 ⟨rfl, e7⟩
                          have HT7 : Hid (BT w w7 sb hb ab gf n h fr i f) := HT.out.ex e7
                          clear e7 HMk HT
                          go_wp2_with fail
                          refine ⟨⟨k + 1, h, fr, by go_num, by omega, HN, HB, HT7⟩, by simp [intOf]; omega⟩

                      · have cc : decide ((m : Int) ≥ (i : Int)) = false ∧ decide ((i : Int) ≤ (m : Int)) = false := ⟨by simp; omega, by simp; omega⟩
                        obtain ⟨cc1, cc2⟩ := cc
                        have HMk : Hid (Calls Try.prog 22 #[.pointer (some ⟨hb, 0, none⟩), .int .i64 m, .int .u8 2, .int .u8 0, .int .u64 7, .int .u64 7] wr fun e w' => e = .returned (.int .i64 (makeE h m (bx 0))) ∧ ExR hb ab (makeH h m (bx 0)) wr w') := hmake_any (m : Int) (bx 0) HT.out.sn.s.c (bx_ok (by decide))
                        have HBm : Hid (Bi (h.set m (bx 0)) (fun c => if c = m then true else fr c) i) := by
                          have := HB.out.make (m := m) (by have := HN.out; omega)
                          rw [if_neg him] at this
                          exact this
                        rw [makeE_bx hy (by decide)] at HMk
                        by_cases hy0 : y.k = 0
                        · rw [if_pos hy0] at HMk
                          have HME : Hid (makeH h m (bx 0) = h.set m (bx 0)) := by
                            show _ = _
                            unfold makeH
                            rw [makeE_bx hy (by decide), if_pos hy0]
                            simp
                          rw [HME.out] at HMk
                          clear HME hy hy0
                          go_wp2_with fail
                          refine Calls.mono (at_any wr HT.out.sn.s.s) ?_
                          rintro e w' ⟨rfl, hw'⟩
                          rw [hw']
                          clear hw'
                          go_wp2_with fail
                          refine Calls.mono HMk.out ?_
                          rintro e w7 ⟨rfl, e7⟩
                          have HT7 : Hid (BT w w7 sb hb ab gf n (h.set m (bx 0)) fr i f) := HT.out.ex e7
                          clear e7 HMk HT
                          have HT8 : Hid (BT w (w7.setCell ⟨gf, m, none⟩ (.bool true)) sb hb ab gf n (h.set m (bx 0)) (fun c => if c = m then true else fr c) i f) := HT7.out.mark
                          obtain ⟨uu, v1, _⟩ := HT7.out.d.cell hm
                          have v2 := HT7.out.d.fz m
                          have m1 : (m : Int) < (n : Int) := by omega
                          go_wp2_with fail
                          refine ⟨⟨k + 1, h.set m (bx 0), _, by go_num, by omega, ?_, HBm, HT8⟩, by simp [intOf]; omega⟩
                          show _ = _
                          rw [List.length_set]
                          exact HN.out
                        · rw [if_neg hy0] at HMk
                          have HME : Hid (makeH h m (bx 0) = h) := by
                            show _ = _
                            unfold makeH
                            rw [makeE_bx hy (by decide), if_neg hy0]
                            simp
                          rw [HME.out] at HMk
                          clear HME hy hy0 HBm
                          go_wp2_with fail
                          refine Calls.mono (at_any wr HT.out.sn.s.s) ?_
                          rintro e w' ⟨rfl, hw'⟩
                          rw [hw']
                          clear hw'
                          go_wp2_with fail
                          refine Calls.mono HMk.out ?_
                          rintro e w7 ⟨rfl, e7⟩
                          have HT7 : Hid (BT w w7 sb hb ab gf n h fr i f) := HT.out.ex e7
                          clear e7 HMk HT
                          go_wp2_with fail
                          refine ⟨⟨k + 1, h, fr, by go_num, by omega, HN, HB, HT7⟩, by simp [intOf]; omega⟩

                    · have k2 : decide ((2 : Int) * (i : Int) + (k : Int) < (bs.length : Int)) = false := by simp; omega
                      obtain ⟨x, hx⟩ : ∃ x, h[i]? = some x := ⟨_, List.getElem?_eq_getElem (by have := HN.out; omega)⟩
                      have hg : Good x := HB.out.good x (List.mem_of_getElem? hx)
                      obtain ⟨p1, p2, p3, p4, p5⟩ := step_at hx hg
                      obtain ⟨hb2, hfw⟩ := HB.out.step hx
                      have HB2 : Hid (Bi (h.set i (swX x)) fr (i + 1)) := hb2
                      have HN2 : Hid ((h.set i (swX x)).length = n) := by show _ = _; rw [List.length_set]; exact HN.out
                      have HST : Hid (Calls Try.prog 15 #[.pointer (some ⟨sb, 0, none⟩)] wr fun e w' => e = .returned (.tuple #[.int .i64 i, .bool (whB x), .int .i64 0]) ∧ BT w w' sb hb ab gf n (h.set i (swX x)) fr (i + 1) (f + (whB x).toNat)) := by
                        refine Calls.mono (step_any wr HT.out.sn.s (by have := HN.out; omega) (by omega)) ?_
                        rintro e w' ⟨rfl, s', f'⟩
                        rw [p1, p2, p4]
                        rw [p3, p4, p5] at s'
                        exact ⟨rfl, HT.out.step s' f'⟩
                      generalize h.set i (swX x) = h2 at HB2 HN2 HST
                      cases hw : whB x
                      · rw [hw] at HST
                        clear hx hg p1 p2 p3 p4 p5 hb2 hfw hw HB HN HT
                        go_wp2_with fail
                        refine Calls.mono HST.out ?_
                        rintro e w7 ⟨rfl, t7⟩
                        have HT7 : Hid (BT w w7 sb hb ab gf n h2 fr (i + 1) f) := t7
                        clear t7 HST
                        go_wp2_with fail
                        refine ⟨⟨i + 1, f, h2, fr, by go_num, by omega, by omega, HN2, HB2, HT7⟩, by simp [intOf]; omega⟩
                      · rw [hw] at HST
                        have hfr : fr i = false := by
                          cases hf : fr i
                          · rfl
                          · rw [hfw hf] at hw; cases hw
                        have HFR : Hid (fr i = false) := hfr
                        clear hx hg p1 p2 p3 p4 p5 hb2 hfw hw HB HN HT hfr
                        go_wp2_with fail
                        refine Calls.mono HST.out ?_
                        rintro e w7 ⟨rfl, t7⟩
                        have HT7 : Hid (BT w w7 sb hb ab gf n h2 fr (i + 1) (f + 1)) := t7
                        obtain ⟨uu, v1, v2⟩ := t7.d.cell hil
                        rw [v2, HFR.out] at v1
                        clear t7 HST v2
                        go_wp2_with fail
                        refine ⟨⟨i + 1, f + 1, h2, fr, by go_num, by omega, by omega, HN2, HB2, HT7⟩, by simp [intOf]; omega⟩
                  · have e : k = 2 := by omega
                    subst e
                    have k1 : ¬ ((2 : Int) < 2) := by omega
                    obtain ⟨x, hx⟩ : ∃ x, h[i]? = some x := ⟨_, List.getElem?_eq_getElem (by have := HN.out; omega)⟩
                    have hg : Good x := HB.out.good x (List.mem_of_getElem? hx)
                    obtain ⟨p1, p2, p3, p4, p5⟩ := step_at hx hg
                    obtain ⟨hb2, hfw⟩ := HB.out.step hx
                    have HB2 : Hid (Bi (h.set i (swX x)) fr (i + 1)) := hb2
                    have HN2 : Hid ((h.set i (swX x)).length = n) := by show _ = _; rw [List.length_set]; exact HN.out
                    have HST : Hid (Calls Try.prog 15 #[.pointer (some ⟨sb, 0, none⟩)] wr fun e w' => e = .returned (.tuple #[.int .i64 i, .bool (whB x), .int .i64 0]) ∧ BT w w' sb hb ab gf n (h.set i (swX x)) fr (i + 1) (f + (whB x).toNat)) := by
                      refine Calls.mono (step_any wr HT.out.sn.s (by have := HN.out; omega) (by omega)) ?_
                      rintro e w' ⟨rfl, s', f'⟩
                      rw [p1, p2, p4]
                      rw [p3, p4, p5] at s'
                      exact ⟨rfl, HT.out.step s' f'⟩
                    generalize h.set i (swX x) = h2 at HB2 HN2 HST
                    cases hw : whB x
                    · rw [hw] at HST
                      clear hx hg p1 p2 p3 p4 p5 hb2 hfw hw HB HN HT
                      go_wp2_with fail
                      refine Calls.mono HST.out ?_
                      rintro e w7 ⟨rfl, t7⟩
                      have HT7 : Hid (BT w w7 sb hb ab gf n h2 fr (i + 1) f) := t7
                      clear t7 HST
                      go_wp2_with fail
                      refine ⟨⟨i + 1, f, h2, fr, by go_num, by omega, by omega, HN2, HB2, HT7⟩, by simp [intOf]; omega⟩
                    · rw [hw] at HST
                      have hfr : fr i = false := by
                        cases hf : fr i
                        · rfl
                        · rw [hfw hf] at hw; cases hw
                      have HFR : Hid (fr i = false) := hfr
                      clear hx hg p1 p2 p3 p4 p5 hb2 hfw hw HB HN HT hfr
                      go_wp2_with fail
                      refine Calls.mono HST.out ?_
                      rintro e w7 ⟨rfl, t7⟩
                      have HT7 : Hid (BT w w7 sb hb ab gf n h2 fr (i + 1) (f + 1)) := t7
                      obtain ⟨uu, v1, v2⟩ := t7.d.cell hil
                      rw [v2, HFR.out] at v1
                      clear t7 HST v2
                      go_wp2_with fail
                      refine ⟨⟨i + 1, f + 1, h2, fr, by go_num, by omega, by omega, HN2, HB2, HT7⟩, by simp [intOf]; omega⟩
              · have e : i = n := by omega
                subst e
                have i1 : ¬ ((i : Int) < (i : Int)) := by omega
                go_wp2_with fail
                refine Calls.mono (snapshot_any HT.out.sn.s.c) ?_
                rintro e w7 ⟨g7, rfl, q7, b7, l7⟩
                rw [HN.out]
                have HT7 : Hid (BT w w7 sb hb ab gf i h fr i f) := HT.out.below b7
                have HK7 : Hid (KR w7 g7 h h.length) := q7
                have lg7 : w.heap.size ≤ g7 := Nat.le_trans HT.out.sn.b.size l7
                clear q7 b7 l7 HT
                go_wp2_with fail
                obtain ⟨wA, hwA⟩ : ∃ wA, wA = wr := ⟨_, rfl⟩
                clear hwA
                go_loopw [20] (fun jv wr => ∃ j : Nat, jv = .int .i64 j ∧ j ≤ i ∧ Hid (BT w wr sb hb ab gf i h fr i f) ∧ Hid (KR wr g7 h h.length)) (fun jv _ => i - (intOf jv).toNat)
                case atStart => exact ⟨0, rfl, Nat.zero_le _, HT7, HK7⟩
                case round =>
                  clear HT7 HK7
                  obtain ⟨j, rfl, hj, HT, HK⟩ := hrel
                  by_cases hjl : j < i
                  · have j1 : (j : Int) < (i : Int) := by omega
                    have j1' : decide ((j : Int) < (i : Int)) = true := by simpa using hjl
                    obtain ⟨x, hx⟩ : ∃ x, h[j]? = some x := ⟨_, List.getElem?_eq_getElem (by have := HN.out; omega)⟩
                    obtain ⟨uu, v1, v2⟩ := HT.out.d.cell hjl
                    rw [v2] at v1
                    clear v2
                    obtain ⟨u1, u2, u3, u4⟩ := HK.out.at hx
                    cases hf : fr j
                    · rw [hf] at v1
                      clear hf hx u1 u2 u3 u4
                      go_wp2_with fail
                      refine ⟨⟨j + 1, by go_num, by omega, HT, HK⟩, by simp [intOf]; omega⟩
                    · have e1 := HB.out.fresh j x hx hf
                      rw [if_neg (by omega)] at e1
                      rw [hf] at v1
                      rw [e1] at u1 u2 u3 u4
                      have u1' : wr.cell? ⟨g7, j * 4, none⟩ = some (.int .u8 2) := u1
                      have u2' : wr.cell? ⟨g7, j * 4 + 1, none⟩ = some (.int .u8 0) := u2
                      have u3' : wr.cell? ⟨g7, j * 4 + 1 + 1, none⟩ = some (.int .u64 7) := u3
                      have u4' : wr.cell? ⟨g7, j * 4 + 1 + 1 + 1, none⟩ = some (.int .u64 7) := u4
                      have hq : ∀ W, (binOp .neq 39 (.agg #[.int .u8 2, .int .u8 0, .int .u64 7, .int .u64 7]) (.agg #[.int .u8 2, .int .u8 0, .int .u64 7, .int .u64 7])).run Try.prog W = .ok (.bool false) W := fun W => neqCl_same (bx 0) W
                      clear hf hx u1 u2 u3 u4 e1
                      go_wp2_with fail
                      refine ⟨⟨j + 1, by go_num, by omega, HT, HK⟩, by simp [intOf]; omega⟩
                  · have e : j = i := by omega
                    subst e
                    have j1 : ¬ ((j : Int) < (j : Int)) := by omega
                    go_wp2_with fail
                    refine Calls.mono (begin_any wr HT.out.sn.s.s) ?_
                    rintro e w8 ⟨rfl, s8, f8⟩
                    have HT8 : Hid (WT w w8 sb hb ab g7 h (pm swX h 0) 0 (frM h 0)) := by
                      have hT := HT.out.begin s8 f8
                      show WT w w8 sb hb ab g7 h (pm swX h 0) 0 0
                      rw [pm_zero]
                      obtain ⟨cs, q, _⟩ := HK.out
                      exact ⟨hT.sn, HK.out.kept (f8.2 _ (ty_ne q HT.out.sn.s.s (by decide)) (heap_lt q)), lg7⟩
                    clear s8 f8 HT HK
                    go_wp2_with fail
                    obtain ⟨wB, hwB⟩ : ∃ wB, wB = wr := ⟨_, rfl⟩
                    clear hwB
                    go_loopw [21] (fun mv wr => ∃ m : Nat, mv = .int .i64 m ∧ m ≤ j ∧ Hid (WT w wr sb hb ab g7 h (pm swX h m) m (frM h m))) (fun mv _ => j - (intOf mv).toNat)
                    case atStart => exact ⟨0, rfl, Nat.zero_le _, HT8⟩
                    case round =>
                      clear HT8
                      obtain ⟨m, rfl, hm, HT⟩ := hrel
                      have hfl := frM_le h m
                      by_cases hml : m < j
                      · have m1 : (m : Int) < (j : Int) := by omega
                        have m1' : decide ((m : Int) < (j : Int)) = true := by simpa using hml
                        obtain ⟨x, hx⟩ : ∃ x, h[m]? = some x := ⟨_, List.getElem?_eq_getElem (by have := HN.out; omega)⟩
                        have hg : Good x := HB.out.good x (List.mem_of_getElem? hx)
                        have hc : x.c = 0 := HB.out.white m x hx hml
                        obtain ⟨p1, p2, p3, p4, p5⟩ := sweep_at hx hg
                        have hpl : (pm swX h m).length = j := (pm_len _ _ _).trans HN.out
                        have HF : Hid (frM h (m + 1) = frM h m + (whB x).toNat) := frM_some hx
                        have HX : Hid (h[m]? = some x) := hx
                        have HST : Hid (Calls Try.prog 15 #[.pointer (some ⟨sb, 0, none⟩)] wr fun e w' => e = .returned (.tuple #[.int .i64 m, .bool (whB x), .int .i64 0]) ∧ WT w w' sb hb ab g7 h (pm swX h (m + 1)) (m + 1) (frM h (m + 1))) := by
                          refine Calls.mono (step_any wr HT.out.n.s (by omega) (by omega)) ?_
                          rintro e w' ⟨rfl, s', f'⟩
                          rw [p1, p2, p4]
                          rw [p3, p4, p5, ← HF.out] at s'
                          exact ⟨rfl, HT.out.step s' f'⟩
                        have hwk : whB x = (x.k != 0) := by
                          unfold whB
                          by_cases hk : x.k = 0
                          · simp [hk]
                          · simp [hk, hc]
                        rw [hwk] at HST
                        clear hx hg hc p1 p2 p3 p4 p5 hpl HF hwk HT
                        go_wp2_with fail
                        refine Calls.mono HST.out ?_
                        rintro e w9 ⟨rfl, t9⟩
                        have HT9 : Hid (WT w w9 sb hb ab g7 h (pm swX h (m + 1)) (m + 1) (frM h (m + 1))) := t9
                        obtain ⟨u1, _, _, _⟩ := t9.k.at HX.out
                        clear t9 HST HX
                        go_wp2_with fail
                        refine ⟨⟨m + 1, by go_num, by omega, HT9⟩, by simp [intOf]; omega⟩
                      · have e : m = j := by omega
                        subst e
                        have m1 : ¬ ((m : Int) < (m : Int)) := by omega
                        go_wp2_with fail
                        go_ret
                        exact ⟨rfl, HT.out.n.b⟩
end Go.Proofs.Ytjbfpklbgefacaa
