/- The walk of ReadBoth. -/
import Derived.Test.YtinpjpcokjfinaaDoorHBothSpr
namespace Go.Proofs.YtinpjpcokjfinaaDoor
open Go.RowKit

set_option maxRecDepth 100000 in
set_option maxHeartbeats 16000000 in
theorem both_main (s t gap : ByteArray) (w : World) (hE : EV w) (hT : TB w) (hst : s.size + t.size ≤ 65535) (hgs : gap.size ≤ 100) :
    Calls Tryd.prog 5 #[.string s, .string t, .string gap] w fun e w' => e = .returned (.bool true) ∧ Below w.heap.size w w' := by
  have HE : Hid (EV w) := hE
  have HT : Hid (TB w) := hT
  have hss : s.size = s.data.toList.length := by rw [Array.length_toList]; rfl
  have hts : t.size = t.data.toList.length := by rw [Array.length_toList]; rfl
  obtain ⟨u, hu, hul, hus⟩ := catB s t
  obtain ⟨A, e1, p1, hA⟩ : ∃ A e p, readOf s.data.toList = (A, e, p) := ⟨_, _, _, rfl⟩
  obtain ⟨B, e2, p2, hB⟩ : ∃ A e p, readOf t.data.toList = (A, e, p) := ⟨_, _, _, rfl⟩
  obtain ⟨C, e3, p3, hC⟩ : ∃ A e p, readOf u.data.toList = (A, e, p) := ⟨_, _, _, rfl⟩
  -- what the mathematics gives
  have Hok : Hid (e1 = 0 → e2 = 0 → e3 ≠ 62 → e3 = 0 ∧ C = A.app B) := by
    intro h1 h2 h3
    have := both_ok (s := s.data.toList) (t := t.data.toList) (by omega) (by rw [hA]; exact h1) (by rw [hB]; exact h2)
    rw [← hul, hC, hA, hB] at this
    rcases this with h | ⟨p, h⟩
    · simp only [Prod.mk.injEq] at h; exact ⟨h.2.1, h.1⟩
    · simp only [Prod.mk.injEq] at h; exact absurd h.2.1 h3
  have Herr : Hid (e1 = 60 → p1 < (s.size : Int) → fine (items t.data.toList) → e3 = 60 ∧ p3 = p1) := by
    intro h1 h2 h3
    have := both_err (s := s.data.toList) (t := t.data.toList) (by omega) (by rw [hA]; exact h1) (by rw [hA]; dsimp only; omega) h3
    rw [← hul, hC, hA] at this
    simp only [Prod.mk.injEq] at this
    exact this
  have HA : Hid (readOf s.data.toList = (A, e1, p1)) := hA
  have HB : Hid (readOf t.data.toList = (B, e2, p2)) := hB
  have HC : Hid (readOf u.data.toList = (C, e3, p3)) := hC
  have Hu : Hid (s ++ ⟨#[10]⟩ ++ t = u) := hu
  have Hs : Hid (s.size ≤ 281474976710656) := by show _ ≤ _; omega
  have Ht : Hid (t.size ≤ 281474976710656) := by show _ ≤ _; omega
  have Hus : Hid (u.size ≤ 281474976710656) := by show _ ≤ _; omega
  have Hgs : Hid (gap.size ≤ 281474976710656) := by show _ ≤ _; omega
  have Hst : Hid (s.size + t.size ≤ 65535) := hst
  have Hg100 : Hid (gap.size ≤ 100) := hgs
  have Hss : Hid _ := hss
  have hsa : (s.size : Int) ≤ 65535 := by omega
  have hta : (t.size : Int) ≤ 65535 := by omega
  have hdec : decide ((65535 : Int) < (s.size : Int) + (t.size : Int)) = false := decide_eq_false (by omega)
  have hdec2 : decide ((100 : Int) < (gap.size : Int)) = false := decide_eq_false (by omega)
  have hmx : Tryd.prog.follows .mixedOrders = true := by kernel_rfl
  clear hE hT hA hB hC hu hul hus hst hss hts hgs
  go_enter Tryd.func5, Tryd.ntmps5
  go_wp2_with fail
  refine (works_any w HE.out HT.out).mono ?_
  rintro e w1 ⟨rfl, hb1⟩
  have H1 : Hid (Below w.heap.size w w1) := hb1
  clear hb1
  go_wp2_with fail
  refine (read_b s HA.out Hs.out w1 (HE.out.below H1.out HE.out.lt)).mono ?_
  rintro x w2 ⟨hb2, ra, ca, rfl, hRa, hma, hna⟩
  have H2 : Hid (Below w.heap.size w w2) := H1.out.trans (hb2.mono H1.out.size)
  have HRa : Hid (RS w2 ra A) := hRa
  have Hna : Hid _ := hna
  clear hb2 hRa hna H1 hdec hdec2
  go_wp2_with fail
  refine (read_b t HB.out Ht.out w2 (HE.out.below H2.out HE.out.lt)).mono ?_
  rintro x w3 ⟨hb3, rb, cb, rfl, hRb, hmb, hnb⟩
  have H3 : Hid (Below w.heap.size w w3) := H2.out.trans (hb3.mono H2.out.size)
  have HRa3 : Hid (RS w3 ra A) := HRa.out.below hb3
  have HRb : Hid (RS w3 rb B) := hRb
  have Hnb : Hid _ := hnb
  clear hb3 hRb hnb H2 HRa
  go_wp2_with fail
  rw [Hu.out]
  refine (read_b u HC.out Hus.out w3 (HE.out.below H3.out HE.out.lt)).mono ?_
  rintro x w4 ⟨hb4, rc, cc, rfl, hRc, hmc, hnc⟩
  have H4 : Hid (Below w.heap.size w w4) := H3.out.trans (hb4.mono H3.out.size)
  have HRa4 : Hid (RS w4 ra A) := HRa3.out.below hb4
  have HRb4 : Hid (RS w4 rb B) := HRb.out.below hb4
  have HRc : Hid (RS w4 rc C) := hRc
  clear hb4 hRc hnc H3 HRa3 HRb
  go_upto_region 7 with fail
  go_cut [80] (fun v wx => ∃ bb : Bool, v = .bool bb ∧ wx = w4 ∧ Hid (bb = true → e1 = 0 ∧ e2 = 0 ∧ e3 ≠ 62))
  case first =>
    cases h1 : (e1 == 0) with
    | false =>
      go_wp2_with fail
      go_meet
      exact ⟨false, rfl, rfl, fun h => by cases h⟩
    | true =>
      cases h2 : (e2 == 0) with
      | false =>
        go_wp2_with fail
        go_meet
        exact ⟨false, rfl, rfl, fun h => by cases h⟩
      | true =>
        cases h3 : (e3 == 62) with
        | true =>
          have h3' : (e3 != 62) = false := by simp [bne, h3]
          go_wp2_with fail
          go_meet
          exact ⟨false, rfl, rfl, fun h => by cases h⟩
        | false =>
          have h3' : (e3 != 62) = true := by simp [bne, h3]
          go_wp2_with fail
          go_meet
          exact ⟨true, rfl, rfl, fun _ => ⟨by simpa using h1, by simpa using h2, by simpa using h3⟩⟩
  case rest =>
    obtain ⟨bb, rfl, rfl, Hbb⟩ := hcut
    go_upto_if 80 with fail
    go_cut [17, 18] (fun v v2 wx => Hid (Below w.heap.size w wx ∧ RS wx ra A))
    case first =>
      cases bb with
      | false =>
        go_wp2_with fail
        go_meet
        exact ⟨H4.out, HRa4.out⟩
      | true =>
        obtain ⟨h1, h2, h3⟩ := Hbb.out rfl
        obtain ⟨h4, h5⟩ := Hok.out h1 h2 h3
        have HsA : Hid (A.len ≤ 20000) := read_size (l := s.data.toList) (p := p1) (by rw [HA.out, h1])
        have HsB : Hid (B.len ≤ 20000) := read_size (l := t.data.toList) (p := p2) (by rw [HB.out, h2])
        have HCs : Hid (C.same (A.app B) = true) := by show _ = _; rw [h5]; exact (Fo.same_iff _ _).2 rfl
        have b3 : (e3 == 0) = true := by rw [beq_iff_eq]; exact h4
        have b3' : (e3 != 0) = false := by simp [bne, b3]
        clear h1 h2 h3 h4 h5 Hbb
        have tok1 : True := trivial
        go_wp2_with (first
          | (at_builtin; have _t := tok1; refine wpList_append_data (W := wc) rfl _ _ rfl wc.heap.size .nil A (.slice none 0 0) [] rfl (World.ownsRow_nil _ _ _ _) rfl ra ca rfl HRa4.out Hna.out (Below.refl _ _) (Nat.le_refl _) (Nat.le_refl _) ⟨Nat.zero_le _, HsA.out⟩ ?_; intro v1 w5 cs1 hown1 hcr1 hb5; clear tok1)
          | (at_builtin; refine wpList_append_data (W := wc) rfl _ _ rfl wc.heap.size A B v1 cs1 rfl hown1 hcr1 rb cb rfl HRb4.out Hnb.out hb5 (Nat.le_refl _) hb5.size ⟨HsA.out, HsB.out⟩ ?_; intro v2 w6 cs2 hown2 hcr2 hb6; obtain ⟨rr, cr, rfl, hRr, hmr⟩ := rs_of_own (hb5.trans hb6) hown2 hcr2))
        have HB6 : Hid (Below wc.heap.size wc w6) := hb5.trans hb6
        have HRr : Hid (RS w6 rr (A.app B)) := hRr
        clear hown1 hcr1 hb5 hown2 hcr2 hb6 hRr
        refine (sameData_any C (A.app B) rc cc rr cr w6 hmc hmr (HRc.out.below HB6.out) HRr.out).mono ?_
        rw [HCs.out]
        rintro e w7 ⟨rfl, hb7⟩
        have HB7 : Hid (Below wc.heap.size wc w7) := HB6.out.trans (hb7.mono HB6.out.size)
        clear hb7
        go_wp2_with fail
        go_meet
        exact ⟨H4.out.trans (HB7.out.mono H4.out.size), HRa4.out.below HB7.out⟩
    case rest =>
      have H5 : Hid (Below w.heap.size w wc) := hcut.out.1
      have HR5 : Hid (RS wc ra A) := hcut.out.2
      clear hcut H4 HRa4 HRb4 HRc Hbb
      go_wp2_with fail
      refine (read_b s HA.out Hs.out wc (HE.out.below H5.out HE.out.lt)).mono ?_
      rintro x w6 ⟨hb6, rd, cd, rfl, hRd, hmd, hnd⟩
      have H6 : Hid (Below w.heap.size w w6) := H5.out.trans (hb6.mono H5.out.size)
      have HR6 : Hid (RS w6 ra A) := HR5.out.below hb6
      clear hb6 hRd hnd H5 HR5
      go_upto_region 14 with fail
      go_cut [118] (fun v wx => ∃ bb : Bool, v = .bool bb ∧ wx = w6 ∧ Hid (bb = true → ¬ fine (items t.data.toList)))
      case first =>
        cases h1 : (e1 == 60) with
        | false =>
          go_wp2_with fail
          go_meet
          exact ⟨false, rfl, rfl, fun h => by cases h⟩
        | true =>
          cases h2 : decide (p1 < (s.size : Int)) with
          | false =>
            go_wp2_with fail
            go_meet
            exact ⟨false, rfl, rfl, fun h => by cases h⟩
          | true =>
            cases h3 : (e3 == e1) with
            | false =>
              have h3' : (e3 != e1) = true := by simp [bne, h3]
              have Hnf : Hid (¬ fine (items t.data.toList)) := fun hf => by
                have h4 := (Herr.out (by simpa using h1) (by simpa using h2) hf).1
                have h5 : e1 = 60 := by simpa using h1
                rw [h4, h5] at h3
                exact absurd h3 (by decide)
              go_wp2_with fail
              go_meet
              exact ⟨true, rfl, rfl, fun _ => Hnf.out⟩
            | true =>
              have h3' : (e3 != e1) = false := by simp [bne, h3]
              cases h4 : (p3 == p1) with
              | false =>
                have h4' : (p3 != p1) = true := by simp [bne, h4]
                have Hnf : Hid (¬ fine (items t.data.toList)) := fun hf => by
                  have h5 := (Herr.out (by simpa using h1) (by simpa using h2) hf).2
                  rw [h5] at h4
                  exact absurd h4 (by simp)
                go_wp2_with fail
                go_meet
                exact ⟨true, rfl, rfl, fun _ => Hnf.out⟩
              | true =>
                have h4' : (p3 != p1) = false := by simp [bne, h4]
                go_wp2_with fail
                go_meet
                exact ⟨false, rfl, rfl, fun h => by cases h⟩
      case rest =>
        obtain ⟨bb, rfl, rfl, Hbb⟩ := hcut
        go_upto_if 118 with fail
        go_cut [22, 23, 24] (fun v v2 v3 wx => Hid (Below w.heap.size w wx ∧ RS wx ra A))
        case first =>
          cases bb with
          | false =>
            go_wp2_with fail
            go_meet
            exact ⟨H6.out, HR6.out⟩
          | true =>
            have Hnf : Hid (¬ fine (items t.data.toList)) := Hbb.out rfl
            clear Hbb
            go_wp2_with fail
            refine (tokens_e t Ht.out wc (HE.out.below H6.out HE.out.lt) Hnf.out).mono ?_
            rintro x w7 ⟨hb7, er, p, rfl, her⟩
            have H7 : Hid (Below w.heap.size w w7) := H6.out.trans (hb7.mono H6.out.size)
            have HR7 : Hid (RS w7 ra A) := HR6.out.below hb7
            have ber : (er == 0) = false := beq_eq_false_iff_ne.2 her
            clear hb7 her
            go_wp2_with fail
            go_meet
            exact ⟨H7.out, HR7.out⟩
        case rest =>
          have H7 : Hid (Below w.heap.size w wc) := hcut.out.1
          have HR7 : Hid (RS wc ra A) := hcut.out.2
          clear hcut H6 HR6 Hbb Herr Hok
          by_cases hfg : fine (items gap.data.toList)
          · have Hfg : Hid _ := hfg
            clear hfg
            go_wp2_with fail
            refine (tokens_f gap Hgs.out wc (HE.out.below H7.out HE.out.lt) Hfg.out).mono ?_
            rintro x w8 ⟨hb8, gg, cg, rfl, hrg⟩
            have H8 : Hid (Below w.heap.size w w8) := H7.out.trans (hb8.mono H7.out.size)
            have HR8 : Hid (RS w8 ra A) := HR7.out.below hb8
            clear hb8 hrg H7 HR7
            by_cases he1 : e1 = 0
            · by_cases hn1 : (items gap.data.toList).length = 1
              · have Hg1 : Hid (leave false gap.data.toList = []) := gap_one Hfg.out hn1
                have Hfs : Hid (fine (items s.data.toList)) := (readOf_zero (l := s.data.toList) (by rw [HA.out]; exact he1)).1
                obtain ⟨q, hq1, hq2, hq3, hq4⟩ := stations_of Hfs.out
                have Hgr : Hid (∀ X : ByteArray, X.data.toList = spr gap.data.toList (q ++ [[]]) → X.size ≤ 65536 → readOf X.data.toList = (A, 0, 0)) := by
                  intro X hX hXs
                  have := gap_read (s := s.data.toList) (gap := gap.data.toList) (by rw [HA.out]; exact he1) Hg1.out (by rw [hq1, ← hX, Array.length_toList]; exact hXs)
                  rw [hq1, ← hX, HA.out] at this
                  exact this
                obtain ⟨m, hm⟩ : ∃ m, q.length = m := ⟨_, rfl⟩
                have hml : (items s.data.toList).length = m + 1 := by rw [hq2]; simp [hm]
                have hmb : m ≤ 65536 := by have := (items_len s.data.toList).2; omega
                have Hm : Hid (q.length = m) := hm
                have Hq2 : Hid (items s.data.toList = (q ++ [[]]).map (tokAt s.data.toList.length)) := hq2
                have Hq3 : Hid (∀ k, k < q.length → ((q ++ [[]]).getD (k + 1) []).length ≤ ((q ++ [[]]).getD k []).length) := hq3
                have Hq4 : Hid (∀ k, k ≤ q.length → ((q ++ [[]]).getD k []) = s.data.toList.drop (s.data.toList.length - ((q ++ [[]]).getD k []).length) ∧ ((q ++ [[]]).getD k []).length ≤ s.data.toList.length) := hq4
                have Hml : Hid _ := hml
                have be1 : (e1 == 0) = true := by rw [beq_iff_eq]; exact he1
                have be1' : (e1 != 0) = false := by simp [bne, be1]
                rw [hn1]
                clear he1 hn1 hq1 hq2 hq3 hq4 hm hml Hfg
                go_wp2_with fail
                refine (tokens_f s Hs.out w8 (HE.out.below H8.out HE.out.lt) Hfs.out).mono ?_
                rintro x w9 ⟨hb9, g, cap, rfl, hrow⟩
                rw [Hml.out]
                have H9 : Hid (Below w.heap.size w w9) := H8.out.trans (hb9.mono H8.out.size)
                have HR9 : Hid (RS w9 ra A) := HR8.out.below hb9
                have Hrow : Hid (TRow w9 g (items s.data.toList)) := hrow
                clear hb9 hrow H8 HR8
                go_wp2
                go_loopw [31, 32] (fun v i wr => ∃ (k : Nat) (ub : ByteArray), v = .string ub ∧ i = .int .i64 k ∧ k ≤ m ∧ ub.size ≤ 65536 ∧ Hid (ub.data.toList = spK gap.data.toList (q ++ [[]]) k) ∧ Hid (Below w9.heap.size w9 wr)) (fun _ i _ => m - (intOf i).toNat)
                case atStart => exact ⟨0, ⟨#[]⟩, rfl, rfl, Nat.zero_le _, by show (0 : Nat) ≤ _; omega, rfl, Below.refl _ _⟩
                case round =>
                  obtain ⟨k, ub, rfl, rfl, hkm, hub, HU, HBr⟩ := hrel
                  have Hub : Hid (ub.size ≤ 65536) := hub
                  have hub' : (ub.size : Int) ≤ 65536 := by omega
                  clear hub
                  by_cases hlt : k < m
                  · have i1 : (k : Int) + 1 < (m : Int) + 1 := by omega
                    have hget : ∀ j, j ≤ m → (items s.data.toList)[j]? = some (tokAt s.data.toList.length ((q ++ [[]]).getD j [])) := by
                      intro j hj
                      rw [Hq2.out, List.getElem?_map, List.getElem?_eq_getElem (by simp only [List.length_append, List.length_cons, List.length_nil, Hm.out]; omega), Option.map_some, List.getD, List.getElem?_eq_getElem (by simp only [List.length_append, List.length_cons, List.length_nil, Hm.out]; omega)]
                      rfl
                    have hrowr : TRow wr g (items s.data.toList) := Hrow.out.below HBr.out Hrow.out.1
                    obtain ⟨x1, x2, x3, x4⟩ := hrowr.2 k _ (hget k (by omega))
                    obtain ⟨y1, y2, y3, y4⟩ := hrowr.2 (k + 1) _ (hget (k + 1) (by omega))
                    have hgl := hrowr.1
                    have hk1 := Hq3.out k (by rw [Hm.out]; omega)
                    have hk2 := Hq4.out k (by rw [Hm.out]; omega)
                    have hk3 := Hq4.out (k + 1) (by rw [Hm.out]; omega)
                    obtain ⟨P, hP⟩ : ∃ P : Nat, s.data.toList.length - ((q ++ [[]]).getD k []).length = P := ⟨_, rfl⟩
                    obtain ⟨P', hP'⟩ : ∃ P' : Nat, s.data.toList.length - ((q ++ [[]]).getD (k + 1) []).length = P' := ⟨_, rfl⟩
                    have Hpc : Hid ((s.extract P P').data.toList = ((q ++ [[]]).getD k []).take (((q ++ [[]]).getD k []).length - ((q ++ [[]]).getD (k + 1) []).length)) := by
                      show _ = _
                      rw [← hP, ← hP']
                      exact piece_is hk2.1 hk1 hk2.2 s rfl
                    have q1 : (tokAt s.data.toList.length ((q ++ [[]]).getD k [])).1.pos = (P : Int) := by
                      show (s.data.toList.length : Int) - (((q ++ [[]]).getD k []).length : Int) = _
                      have := hk2.2
                      omega
                    have q2 : (tokAt s.data.toList.length ((q ++ [[]]).getD (k + 1) [])).1.pos = (P' : Int) := by
                      show (s.data.toList.length : Int) - (((q ++ [[]]).getD (k + 1) []).length : Int) = _
                      have := hk3.2
                      omega
                    have c1 : wr.cell? ⟨g, k * 4 + 1 + 1 + 1, none⟩ = some (.int .i64 (P : Int)) := x4.trans (congrArg (fun z => some (Value.int .i64 z)) q1)
                    have c2 : wr.cell? ⟨g, (k + 1) * 4 + 1 + 1 + 1, none⟩ = some (.int .i64 (P' : Int)) := y4.trans (congrArg (fun z => some (Value.int .i64 z)) q2)
                    have hPP : (P : Int) ≤ (P' : Int) := by omega
                    have hPs : (P' : Int) ≤ (s.size : Int) := by have := Hss.out; omega
                    have hP0 : (0 : Int) ≤ (P : Int) := by omega
                    have hP1 : (0 : Int) ≤ (P' : Int) := by omega
                    have hk0 : (0 : Int) ≤ (k : Int) := by omega
                    have i2 : (k : Int) < (m : Int) + 1 := by omega
                    have hga : (gap.size : Int) ≤ 100 := by have := Hg100.out; omega
                    have hxs : ((s.extract P P').size : Int) ≤ 65535 := by
                      have : (s.extract P P').size = min P' s.size - P := ByteArray.size_extract
                      omega
                    have hw1 : IntKind.i64.wrap ((k : Int) + 1) = (k : Int) + 1 := by rw [IntKind.wrap_i64]; omega
                    have hk01 : (0 : Int) ≤ (k : Int) + 1 := by omega
                    clear q1 q2 x1 x2 x3 x4 y1 y2 y3 y4 hk1 hk2 hk3 hP hP' hget hrowr
                    go_wp2_with fail
                    go_quiet (fail)
                    obtain ⟨v, hv, hvl, hvs⟩ := catG ub (s.extract P P') gap
                    have HV : Hid (v.data.toList = spK gap.data.toList (q ++ [[]]) (k + 1)) := by
                      show _ = _
                      rw [hvl, HU.out, Hpc.out]
                      rfl
                    have hvb : (v.size : Int) ≤ 200000 := by omega
                    rw [hv]
                    clear hv hvl hvs hxs c1 c2
                    by_cases hbig : 65536 < v.size
                    · have hbig' : (65536 : Int) < (v.size : Int) := by omega
                      clear hbig
                      go_wp2
                      go_ret
                      exact ⟨rfl, H9.out.trans ((below_drewN HBr.out _).mono H9.out.size)⟩
                    · have hbig' : ¬ (65536 : Int) < (v.size : Int) := by omega
                      have Hbig : Hid (v.size ≤ 65536) := by show _ ≤ _; omega
                      clear hbig
                      go_wp2
                      go_roundw
                      case rel => exact ⟨k + 1, v, rfl, by go_num, by omega, Hbig.out, HV, below_drewN HBr.out _⟩
                      case measure => simp [intOf]; omega
                  · obtain rfl : k = m := by omega
                    have i1 : ¬ (k : Int) + 1 < (k : Int) + 1 := by omega
                    have HX : Hid (readOf ub.data.toList = (A, 0, 0)) := Hgr.out ub (by rw [HU.out, ← Hm.out, spK_all]) Hub.out
                    have H10 : Hid (Below w.heap.size w wr) := H9.out.trans (HBr.out.mono H9.out.size)
                    have HR10 : Hid (RS wr ra A) := HR9.out.below HBr.out
                    go_wp2_with fail
                    refine (read_b ub HX.out (by have := Hub.out; omega) wr (HE.out.below H10.out HE.out.lt)).mono ?_
                    rintro x w11 ⟨hb11, rx, cx, rfl, hRx, hmx2, hnx⟩
                    have H11 : Hid (Below w.heap.size w w11) := H10.out.trans (hb11.mono H10.out.size)
                    have HRx : Hid (RS w11 rx A) := hRx
                    have HR11 : Hid (RS w11 ra A) := HR10.out.below hb11
                    clear hb11 hRx hnx
                    go_wp2_with fail
                    refine (sameData_any A A rx cx ra ca w11 hmx2 hma HRx.out HR11.out).mono ?_
                    rw [(Fo.same_iff A A).2 rfl]
                    rintro e w12 ⟨rfl, hb12⟩
                    have H12 : Hid (Below w.heap.size w w12) := H11.out.trans (hb12.mono H11.out.size)
                    clear hb12
                    go_wp2
                    go_ret
                    exact ⟨rfl, H12.out⟩
              · have bn1 : (((items gap.data.toList).length : Int) == 1) = false := by rw [beq_eq_false_iff_ne]; omega
                have bn1' : (((items gap.data.toList).length : Int) != 1) = true := by simp [bne, bn1]
                have be1 : (e1 == 0) = true := by rw [beq_iff_eq]; exact he1
                have be1' : (e1 != 0) = false := by simp [bne, be1]
                obtain ⟨N, hN⟩ : ∃ N, (items gap.data.toList).length = N := ⟨_, rfl⟩
                rw [hN] at bn1 bn1' ⊢
                clear he1 hn1 hN
                go_wp2
                go_ret
                exact ⟨rfl, H8.out⟩
            · have be1 : (e1 == 0) = false := by rw [beq_eq_false_iff_ne]; exact he1
              have be1' : (e1 != 0) = true := by simp [bne, be1]
              clear he1
              go_wp2
              go_ret
              exact ⟨rfl, H8.out⟩
          · have Hfg : Hid _ := hfg
            clear hfg
            go_wp2_with fail
            refine (tokens_e gap Hgs.out wc (HE.out.below H7.out HE.out.lt) Hfg.out).mono ?_
            rintro x w8 ⟨hb8, er, p, rfl, her⟩
            have H8 : Hid (Below w.heap.size w w8) := H7.out.trans (hb8.mono H7.out.size)
            have ber : (er == 0) = false := beq_eq_false_iff_ne.2 her
            have ber' : (er != 0) = true := by simp [bne, ber]
            clear hb8 her H7 HR7
            cases be1 : (e1 == 0) with
            | false =>
              have be1' : (e1 != 0) = true := by simp [bne, be1]
              go_wp2
              go_ret
              exact ⟨rfl, H8.out⟩
            | true =>
              have be1' : (e1 != 0) = false := by simp [bne, be1]
              go_wp2
              go_ret
              exact ⟨rfl, H8.out⟩
end Go.Proofs.YtinpjpcokjfinaaDoor
