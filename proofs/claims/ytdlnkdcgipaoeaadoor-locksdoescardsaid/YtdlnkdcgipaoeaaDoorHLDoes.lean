/- The walk of LocksDoes. -/
import Derived.Test.YtdlnkdcgipaoeaaDoorHLDoesB
namespace Go.Proofs.YtdlnkdcgipaoeaaDoor
open Go.RowKit

theorem ptr_one (b : Nat) : ∀ u ∈ [pb b], u.oneCell' = true := by
  intro u hu
  obtain rfl : u = pb b := by simpa using hu
  rfl
set_option maxRecDepth 100000 in
set_option maxHeartbeats 40000000 in
theorem locksDoes_walk (w : World) (hT : Tab w) (lk gl ot : Int) (ra : Option Addr) (l : List Sp) (ca : Nat) (hS : SR w ra l) (hl : l.length ≤ 281474976710656) :
    Calls Tryd.prog 4 #[.agg #[.int .i64 lk, .int .i64 gl, .int .i64 ot, .slice ra l.length ca]] w fun e w' => e = .returned (.bool true) ∧ Below w.heap.size w w' := by
  have HT : Hid (Tab w) := hT
  have HS : Hid (SR w ra l) := hS
  have hb1 := below_one w (.cells #[.int .i64 lk, .int .i64 gl, .int .i64 ot, .slice ra l.length ca] 25)
  have hbx := heap_alloc_new w (.cells #[.int .i64 lk, .int .i64 gl, .int .i64 ot, .slice ra l.length ca] 25)
  obtain ⟨w1, hw1⟩ : ∃ w1, w1 = w.alloc (.cells #[.int .i64 lk, .int .i64 gl, .int .i64 ot, .slice ra l.length ca] 25) := ⟨_, rfl⟩
  rw [← hw1] at hb1 hbx
  have HW1 : Hid (w1 = w.alloc (.cells #[.int .i64 lk, .int .i64 gl, .int .i64 ot, .slice ra l.length ca] 25)) := hw1
  obtain ⟨bx, hbxe⟩ : ∃ bx, bx = w.heap.size := ⟨_, rfl⟩
  rw [← hbxe] at hbx
  have HBXE : Hid (bx = w.heap.size) := hbxe
  have HB1 : Hid (Below w.heap.size w w1 ∧ w1.heap[bx]? = some (.cells #[.int .i64 lk, .int .i64 gl, .int .i64 ot, .slice ra l.length ca] 25 (0, 0))) := ⟨hb1, hbx⟩
  have x0 := heap_cell (j := 0) hbx rfl
  have x1 := heap_cell (j := 1) hbx rfl
  have x2 := heap_cell (j := 2) hbx rfl
  have x3 := heap_cell (j := 3) hbx rfl
  have lx := heap_lt hbx
  clear hT hS hb1 hbx hw1 hbxe
  by_cases h5 : l.length > 20000
  · have k5 : (l.length : Int) > 20000 := by omega
    go_enter Tryd.func4, Tryd.ntmps4
    go_upto_region 1 with fail
    rw [← HW1.out, ← HBXE.out]
    go_wp2
    go_ret
    exact ⟨rfl, HB1.out.1⟩
  have k5 : ¬ (l.length : Int) > 20000 := by omega
  have HK : Hid _ := known_any w1 (HT.out.below HB1.out.1)
  go_enter Tryd.func4, Tryd.ntmps4
  go_upto_region 1 with fail
  rw [← HW1.out, ← HBXE.out]
  go_wp2_with fail
  refine Calls.mono HK.out ?_
  rintro e w2 ⟨rfl, hb2⟩
  have hB2 : Below w.heap.size w w2 := HB1.out.1.trans (hb2.mono HB1.out.1.size)
  have hbx2 := (hb2.block bx (heap_lt HB1.out.2)).trans HB1.out.2
  have hq3 := below_one w2 bk0
  have hL0 : L1 w (w2.alloc bk0) w2.heap.size bx #[.int .i64 lk, .int .i64 gl, .int .i64 ot, .slice ra l.length ca] [] [] (fun g => g = w2.heap.size) [] [] (.slice none 0 0) (.slice none 0 0) := ⟨dp_nil hB2, ⟨rfl, .inl ⟨rfl, rfl⟩⟩, ⟨rfl, .inl ⟨rfl, rfl⟩⟩, (fun g hg => by cases hg), (fun g hg => by cases hg), (hq3.block bx (heap_lt hbx2)).trans hbx2⟩
  unfold bk0 at hL0
  obtain ⟨w3, hw3⟩ : ∃ w3, w3 = w2.alloc (.cells #[.slice none 0 0, .slice none 0 0, .slice none 0 0, .slice none 0 0, .slice none 0 0, .slice none 0 0, .slice none 0 0, .slice none 0 0, .slice none 0 0, .slice none 0 0, .slice none 0 0, .slice none 0 0, .slice none 0 0, .slice none 0 0, .slice none 0 0, .slice none 0 0, .slice none 0 0] 45) := ⟨_, rfl⟩
  obtain ⟨kb, hkb⟩ : ∃ kb, kb = w2.heap.size := ⟨_, rfl⟩
  rw [← hw3, ← hkb] at hL0
  have HW3 : Hid (w3 = w2.alloc (.cells #[.slice none 0 0, .slice none 0 0, .slice none 0 0, .slice none 0 0, .slice none 0 0, .slice none 0 0, .slice none 0 0, .slice none 0 0, .slice none 0 0, .slice none 0 0, .slice none 0 0, .slice none 0 0, .slice none 0 0, .slice none 0 0, .slice none 0 0, .slice none 0 0, .slice none 0 0] 45)) := hw3
  have HKB : Hid (kb = w2.heap.size) := hkb
  have HL0 : Hid _ := hL0
  clear hb2 hB2 hbx2 hq3 hL0 hw3 hkb HK x0 x1 x2 x3 lx HB1
  go_upto_region 8 with fail
  rw [← HW3.out, ← HKB.out]
  clear HW3 HKB
  go_wp2
  go_loopw [3, 8, 9, 10] (fun v3 v8 v9 q wr => ∃ (i pn : Nat) (mn : Int) (P : List (Nat × Nat)) (FF : List (Nat → Prop)) (G : Nat → Prop) (sb sr : Sl), q = .int .i64 i ∧ v3 = .int .i64 mn ∧ v8 = .slice sb.ra pn sb.cap ∧ v9 = .slice sr.ra pn sr.cap ∧ i ≤ 2 ∧ pn ≤ i ∧ Hid (P.length = pn ∧ L1 w wr kb bx #[.int .i64 lk, .int .i64 gl, .int .i64 ot, .slice ra l.length ca] P FF G (P.map (·.1)) (P.map (·.2)) (.slice sb.ra pn sb.cap) (.slice sr.ra pn sr.cap))) (fun _ _ _ q _ => 2 - (intOf q).toNat)
  case atStart => exact ⟨0, 0, lk, [], [], _, ⟨none, 0⟩, ⟨none, 0⟩, rfl, rfl, rfl, rfl, by omega, by omega, rfl, HL0.out⟩
  case round =>
    obtain ⟨i, pn, mn, P, FF, G, sb, sr, rfl, rfl, rfl, rfl, hi, hpn, HL⟩ := hrel
    obtain ⟨sra, sca⟩ := sb
    obtain ⟨tra, tca⟩ := sr
    dsimp only at HL
    by_cases hi2 : i < 2
    · have k1 : (i : Int) < 2 := by omega
      by_cases hok : (0 ≤ mn ∧ mn ≤ 8) ∧ 0 ≤ gl ∧ gl ≤ 64
      · obtain ⟨n, rfl⟩ : ∃ n : Nat, mn = (n : Int) := ⟨mn.toNat, by omega⟩
        obtain ⟨m, rfl⟩ : ∃ m : Nat, gl = (m : Int) := ⟨gl.toNat, by omega⟩
        have HN : Hid _ := new_any n m (by omega) (by omega) wr (HT.out.below HL.out.2.dp.bl)
        clear HL0
        go_wp2_with fail
        refine Calls.mono HN.out ?_
        rintro e w4 ⟨b, F1, rfl, hB, hF1, hb4⟩
        have HD4 : Hid _ := dNew_any n m (by omega) (by omega) w4
        have HB4 : Hid (BB w4 b (newB n m) F1 ∧ (∀ g, F1 g → wr.heap.size ≤ g) ∧ Below wr.heap.size wr w4) := ⟨hB, hF1, hb4⟩
        clear hB hF1 hb4 HN
        go_wp2_with fail
        refine Calls.mono HD4.out ?_
        rintro e w5 ⟨r, F2, rfl, hD, hF2, hb5⟩
        have HL5 : Hid (L1 w w5 kb bx #[.int .i64 lk, .int .i64 (m : Int), .int .i64 ot, .slice ra l.length ca] (P ++ [(b, r)]) (FF ++ [fun g => F1 g ∨ F2 g]) G (P.map (·.1)) (P.map (·.2)) (.slice sra pn sca) (.slice tra pn tca)) := HL.out.2.new HB4.out.1 HB4.out.2.1 HB4.out.2.2 hD hF2 hb5
        have HPl : Hid (P.length = pn) := HL.out.1
        clear hD hF2 hb5 HD4 HB4 HL
        obtain ⟨i1, hi1, hz0, hz1, hz2⟩ := info_parts infoP1
        obtain ⟨j1, hj1, hy0, hy1, hy2⟩ := info_parts infoP2
        have HO5 : Hid (w5.ownsRow 0 48 1 (.slice sra pn sca) pn ((P.map (·.1)).map pb)) := by
          have := HL5.out.b
          rw [List.length_map, HPl.out] at this
          exact this
        go_wp2_with (at_builtin; refine stop_of ?_)
        unfold Hid
        refine wpList_append_told _ rfl _ _ 46 rfl 0 48 i1 (.pointer none) 1 8 Tryd.underlying46 hi1 hz0 hz1 hz2 rfl (by decide) (.slice sra pn sca) pn ((P.map (·.1)).map pb) rfl (HO5.out.alloc _) _ 1 1 [pb b] rfl rfl (cell_one_new _ _ _) (ptr_one _) (by unfold maxLen; omega) (by omega) (Nat.zero_le _) (by decide) ?_
        intro v6 w6 hown6 hgr6 hold6 hw6
        obtain ⟨ra6, q6, hv6⟩ := own_sl hown6
        subst hv6
        have HL6 : Hid (L1 w w6 kb bx #[.int .i64 lk, .int .i64 (m : Int), .int .i64 ot, .slice ra l.length ca] (P ++ [(b, r)]) (FF ++ [fun g => F1 g ∨ F2 g]) G (P.map (·.1) ++ [b]) (P.map (·.2)) (.slice ra6 (pn + 1) q6) (.slice tra pn tca)) := HL5.out.growB hgr6 (by rw [List.length_map, HPl.out]; exact hown6) hw6
        have HO6 : Hid (w6.ownsRow 0 52 1 (.slice tra pn tca) pn ((P.map (·.2)).map pb)) := by
          have := HL6.out.r
          rw [List.length_map, HPl.out] at this
          exact this
        clear hown6 hgr6 hold6 hw6 HO5 HL5
        go_wp2_with (at_builtin; refine stop_of ?_)
        unfold Hid
        refine wpList_append_told _ rfl _ _ 47 rfl 0 52 j1 (.pointer none) 1 8 Tryd.underlying47 hj1 hy0 hy1 hy2 rfl (by decide) (.slice tra pn tca) pn ((P.map (·.2)).map pb) rfl (HO6.out.alloc _) _ 1 1 [pb r] rfl rfl (cell_one_new _ _ _) (ptr_one _) (by unfold maxLen; omega) (by omega) (Nat.zero_le _) (by decide) ?_
        intro v7 w7 hown7 hgr7 hold7 hw7
        obtain ⟨ra7, q7, hv7⟩ := own_sl hown7
        subst hv7
        have hL7 := HL6.out.growR hgr7 (by rw [List.length_map, HPl.out]; exact hown7) hw7
        have HL7 : Hid ((P ++ [(b, r)]).length = pn + 1 ∧ L1 w w7 kb bx #[.int .i64 lk, .int .i64 (m : Int), .int .i64 ot, .slice ra l.length ca] (P ++ [(b, r)]) (FF ++ [fun g => F1 g ∨ F2 g]) G ((P ++ [(b, r)]).map (·.1)) ((P ++ [(b, r)]).map (·.2)) (.slice ra6 (pn + 1) q6) (.slice ra7 (pn + 1) q7)) := ⟨by rw [List.length_append, HPl.out]; rfl, by rw [List.map_append, List.map_append]; exact hL7⟩
        have x2 := heap_cell (j := 2) hL7.bx rfl
        have lx := heap_lt hL7.bx
        clear hown7 hgr7 hold7 hw7 HO6 HL6 hL7
        go_wp2
        go_roundw
        case rel => exact ⟨i + 1, pn + 1, ot, P ++ [(b, r)], _, G, ⟨ra6, q6⟩, ⟨ra7, q7⟩, by go_num, rfl, rfl, rfl, by omega, by omega, HL7⟩
        case measure => simp [intOf]; omega
      · have hbad : mn < 0 ∨ 8 < mn ∨ gl < 0 ∨ 64 < gl := by omega
        have C1 : Hid _ := new_bad mn gl hbad wr
        have C2 : Hid _ := dNew_bad mn gl hbad wr
        have x2 := heap_cell (j := 2) HL.out.2.bx rfl
        have lx := heap_lt HL.out.2.bx
        clear hok hbad HL0
        go_wp2_with fail
        refine Calls.mono C1.out ?_
        rintro e w2 ⟨rfl, hw2⟩
        rw [hw2]
        clear hw2
        go_wp2_with fail
        refine Calls.mono C2.out ?_
        rintro e w2 ⟨rfl, hw2⟩
        rw [hw2]
        clear hw2
        go_wp2
        go_roundw
        case rel => exact ⟨i + 1, pn, ot, P, FF, G, ⟨sra, sca⟩, ⟨tra, tca⟩, by go_num, rfl, rfl, rfl, by omega, by omega, HL⟩
        case measure => simp [intOf]; omega
    · have k1 : ¬ (i : Int) < 2 := by omega
      have HD0 : Hid (DP w wr kb 0 P FF G ∧ RW wr (.slice sra pn sca) (.slice tra pn tca) P ∧ P.length = pn) := ⟨HL.out.2.dp, HL.out.2.rw', HL.out.1⟩
      clear HL HL0
      by_cases hp0 : pn = 0
      · subst hp0
        have HF : Hid (Below w.heap.size w wr) := HD0.out.1.bl
        clear HD0
        go_wp2
        go_ret
        exact ⟨rfl, HF.out⟩
      · have kp : ((pn : Int) == 0) = false := by simp; omega
        obtain ⟨wA, hwA⟩ : ∃ wA, wA = wr := ⟨_, rfl⟩
        go_wp2
        rw [← hwA] at HD0 ⊢
        clear hwA
        go_loopw [15, 16] (fun v15 q wr => ∃ (j k M : Nat) (FF : List (Nat → Prop)) (G : Nat → Prop), q = .int .i64 j ∧ v15 = .int .i64 k ∧ j ≤ l.length ∧ k < pn ∧ M ≤ 2 * j ∧ Hid (DP w wr kb M P FF G ∧ RW wr (.slice sra pn sca) (.slice tra pn tca) P)) (fun _ q _ => l.length - (intOf q).toNat)
        case atStart => exact ⟨0, 0, 0, FF, G, rfl, rfl, Nat.zero_le _, by omega, by omega, HD0.out.1, HD0.out.2.1⟩
        case round =>
          obtain ⟨j, k, M, FF1, G1, rfl, rfl, hj, hk, hM, HD⟩ := hrel
          by_cases hjl : j < l.length
          · have q1 : (j : Int) < (l.length : Int) := by omega
            have q0 : (0 : Int) ≤ (j : Int) := by omega
            obtain ⟨o, ho⟩ : ∃ o, l[j]? = some o := ⟨_, List.getElem?_eq_getElem hjl⟩
            obtain ⟨sb, so, hsa, hso⟩ := HS.out
            obtain ⟨lsb0, t0, t1, t2, t3, t4, -, -, -⟩ := hso j o ho
            have hra := hsa.resolve_left (by omega)
            have HCl : Hid (∀ W, Below w.heap.size w W → W.cell? ⟨sb, so + j * 5, none⟩ = some (.int .i64 o.k) ∧ W.cell? ⟨sb, so + j * 5 + 1, none⟩ = some (.int .i64 o.t) ∧ W.cell? ⟨sb, so + j * 5 + 2, none⟩ = some (.int .i64 o.n) ∧ W.cell? ⟨sb, so + j * 5 + 3, none⟩ = some (.int .u64 o.w) ∧ W.cell? ⟨sb, so + j * 5 + 4, none⟩ = some (.int .i64 o.e) ∧ sb < W.heap.size) := fun W hb => by
              have cc : ∀ {q : Nat} {u : Value}, w.cell? ⟨sb, q, none⟩ = some u → W.cell? ⟨sb, q, none⟩ = some u := fun {q u} h => (World.cell?_of_block (a := ⟨sb, q, none⟩) (hb.block sb lsb0)).trans h
              exact ⟨cc t0, cc t1, cc t2, cc t3, cc t4, Nat.lt_of_lt_of_le lsb0 hb.size⟩
            obtain ⟨s0, s1, s2, s3, s4, lsb⟩ := HCl.out wr HD.out.1.bl
            clear t0 t1 t2 t3 t4
            subst hra
            by_cases hk8 : o.k = 8
            · rw [hk8] at s0
              have hrem : ((k : Int) + 1).tmod (pn : Int) = (((k + 1) % pn : Nat) : Int) := by
                rw [show (k : Int) + 1 = ((k + 1 : Nat) : Int) by omega, ← Int.ofNat_tmod]
              have hlt : (k + 1) % pn < pn := Nat.mod_lt _ (by omega)
              generalize (k + 1) % pn = k2 at hrem hlt
              clear ho hso hsa hk8 s1 s2 s3 s4 HD0
              go_wp2
              go_roundw
              case rel => exact ⟨j + 1, k2, M, FF1, G1, by go_num, rfl, by omega, hlt, by omega, HD⟩
              case measure => simp [intOf]; omega
            · have hk8' : (o.k == 8) = false := beq_false_of_ne hk8
              have kk0 : (0 : Int) ≤ (k : Int) := by omega
              have kk1 : (k : Int) < (pn : Int) := by omega
              obtain ⟨p, hp⟩ : ∃ p, P[k]? = some p := ⟨_, List.getElem?_eq_getElem (by rw [HD0.out.2.2]; exact hk)⟩
              obtain ⟨g1, c1, g2, c2, e1, e2, lg1, lg2, d1, d2⟩ := HD.out.2.at hp
              have e1a := (Value.slice.inj e1).1
              have e1c := (Value.slice.inj e1).2.2
              have e2a := (Value.slice.inj e2).1
              have e2c := (Value.slice.inj e2).2.2
              have HSt : Hid (∀ W, Below wr.heap.size wr W → Calls Tryd.prog 10 #[.pointer (some ⟨p.1, 0, none⟩), .pointer (some ⟨p.2, 0, none⟩), .agg #[.int .i64 o.k, .int .i64 o.t, .int .i64 o.n, .int .u64 o.w, .int .i64 o.e], .pointer (some ⟨kb, 0, none⟩)] W fun e w' => e = .returned (.bool true) ∧ (∃ FF' G', DP w w' kb (M + 1) P FF' G') ∧ RW w' (.slice sra pn sca) (.slice tra pn tca) P) := fun W hb => by
                refine Calls.mono (dp_step (HD.out.1.quiet hb) (by omega) hp o) ?_
                rintro e w' ⟨rfl, h1, -, h2⟩
                exact ⟨rfl, h1, (HD.out.2.quiet hb).kept h2⟩
              have HTl : Hid (∀ (W : World) (FF' : List (Nat → Prop)) (G' : Nat → Prop), DP w W kb (M + 1) P FF' G' → RW W (.slice sra pn sca) (.slice tra pn tca) P → Calls Tryd.prog 11 #[.pointer (some ⟨p.1, 0, none⟩), .pointer (some ⟨p.2, 0, none⟩), .pointer (some ⟨kb, 0, none⟩)] W fun e w' => e = .returned (.bool true) ∧ (∃ FF' G', DP w w' kb (M + 1 + 1) P FF' G') ∧ RW w' (.slice sra pn sca) (.slice tra pn tca) P) := fun W FF' G' hD hR => by
                refine Calls.mono (dp_tells hD (by omega) hp) ?_
                rintro e w' ⟨rfl, h1, -, h2⟩
                exact ⟨rfl, h1, hR.kept h2⟩
              have HP : Hid (P[k]? = some p) := hp
              obtain ⟨pb1, pr1⟩ := p
              obtain ⟨ok, otk, on, ow, oe⟩ := o
              dsimp only at s0 s1 s2 s3 s4 d1 d2 hk8' HSt HTl
              subst e1a e2a
              have HKp : Hid (∀ (W : World) (M' : Nat) (FF' : List (Nat → Prop)) (G' : Nat → Prop), DP w W kb M' P FF' G' → RW W (.slice (some ⟨g1, 0, none⟩) pn sca) (.slice (some ⟨g2, 0, none⟩) pn tca) P → ((W.cell? ⟨g1, k, none⟩ = some (.pointer (some ⟨pb1, 0, none⟩)) ∧ W.cell? ⟨g2, k, none⟩ = some (.pointer (some ⟨pr1, 0, none⟩)) ∧ W.cell? ⟨sb, so + j * 5, none⟩ = some (.int .i64 ok) ∧ W.cell? ⟨sb, so + j * 5 + 1, none⟩ = some (.int .i64 otk) ∧ W.cell? ⟨sb, so + j * 5 + 2, none⟩ = some (.int .i64 on) ∧ W.cell? ⟨sb, so + j * 5 + 3, none⟩ = some (.int .u64 ow) ∧ W.cell? ⟨sb, so + j * 5 + 4, none⟩ = some (.int .i64 oe)) ∧ g1 < W.heap.size ∧ g2 < W.heap.size ∧ sb < W.heap.size)) := fun W M' FF' G' hD hR => by
                obtain ⟨a1, f1, a2, f2, j1, j2, la1, la2, i1, i2⟩ := hR.at HP.out
                have ea1 : a1 = g1 := by
                  have := (Value.slice.inj j1).1
                  cases this
                  rfl
                have ea2 : a2 = g2 := by
                  have := (Value.slice.inj j2).1
                  cases this
                  rfl
                subst ea1 ea2
                obtain ⟨z0, z1, z2, z3, z4, z5⟩ := HCl.out W hD.bl
                exact ⟨⟨i1, i2, z0, z1, z2, z3, z4⟩, la1, la2, z5⟩
              clear ho hso hsa hk8 e1 e2 e1c e2c hp HD0 HCl
              have hmx : Tryd.prog.follows .mixedOrders = true := by kernel_rfl
              go_upto_region 29 with fail
              go_region_held3 (fun wx => (wx.cell? ⟨g1, k, none⟩ = some (.pointer (some ⟨pb1, 0, none⟩)) ∧ wx.cell? ⟨g2, k, none⟩ = some (.pointer (some ⟨pr1, 0, none⟩)) ∧ wx.cell? ⟨sb, so + j * 5, none⟩ = some (.int .i64 ok) ∧ wx.cell? ⟨sb, so + j * 5 + 1, none⟩ = some (.int .i64 otk) ∧ wx.cell? ⟨sb, so + j * 5 + 2, none⟩ = some (.int .i64 on) ∧ wx.cell? ⟨sb, so + j * 5 + 3, none⟩ = some (.int .u64 ow) ∧ wx.cell? ⟨sb, so + j * 5 + 4, none⟩ = some (.int .i64 oe)) ∧ g1 < wx.heap.size ∧ g2 < wx.heap.size ∧ sb < wx.heap.size) (first | (go_keep; done) | exact HKp.out _ _ _ _ hD9 hR9) (first | (go_at_call 10; refine (HSt.out _ (Below.refl _ _).drew).mono ?_; rintro e w9 ⟨rfl, ⟨FF9, G9, hD9⟩, hR9⟩) | fail)
              obtain ⟨⟨y1, y2, -⟩, ly1, ly2, -⟩ := HKp.out _ _ _ _ hD9 hR9
              have HT9 : Hid (∀ W, Below w9.heap.size w9 W → Calls Tryd.prog 11 #[.pointer (some ⟨pb1, 0, none⟩), .pointer (some ⟨pr1, 0, none⟩), .pointer (some ⟨kb, 0, none⟩)] W fun e w' => e = .returned (.bool true) ∧ (∃ FF' G', DP w w' kb (M + 1 + 1) P FF' G') ∧ RW w' (.slice (some ⟨g1, 0, none⟩) pn sca) (.slice (some ⟨g2, 0, none⟩) pn tca) P) := fun W hb => HTl.out W FF9 G9 (hD9.quiet hb) (hR9.quiet hb)
              clear HSt HTl hD9 hR9 s0 s1 s2 s3 s4 lsb d1 d2 lg1 lg2
              go_upto_region 30 with fail
              go_region_held3 (fun wx => (wx.cell? ⟨g1, k, none⟩ = some (.pointer (some ⟨pb1, 0, none⟩)) ∧ wx.cell? ⟨g2, k, none⟩ = some (.pointer (some ⟨pr1, 0, none⟩))) ∧ g1 < wx.heap.size ∧ g2 < wx.heap.size) (first | (go_keep; done) | exact ⟨⟨(HKp.out _ _ _ _ hD10 hR10).1.1, (HKp.out _ _ _ _ hD10 hR10).1.2.1⟩, (HKp.out _ _ _ _ hD10 hR10).2.1, (HKp.out _ _ _ _ hD10 hR10).2.2.1⟩) (first | (go_at_call 11; refine (HT9.out _ (Below.refl _ _).drew).mono ?_; rintro e w10 ⟨rfl, ⟨FF10, G10, hD10⟩, hR10⟩) | fail)
              have HD10 : Hid (DP w w10 kb (M + 1 + 1) P FF10 G10 ∧ RW w10 (.slice (some ⟨g1, 0, none⟩) pn sca) (.slice (some ⟨g2, 0, none⟩) pn tca) P) := ⟨hD10, hR10⟩
              clear HT9 hD10 hR10 HKp y1 y2 ly1 ly2 HD
              go_wp2
              go_roundw
              case rel => exact ⟨j + 1, k, M + 1 + 1, FF10, G10, by go_num, rfl, by omega, hk, by omega, HD10⟩
              case measure => simp [intOf]; omega
          · have q1 : ¬ (j : Int) < (l.length : Int) := by omega
            have HOw : Hid _ := dp_own HD.out.1 (by omega)
            clear HD0
            go_wp2_with fail
            refine Calls.mono HOw.out ?_
            rintro e w9 ⟨rfl, hb9⟩
            have HF : Hid (Below w.heap.size w w9) := hb9
            clear hb9 HOw
            go_wp2
            go_ret
            exact ⟨rfl, HF.out⟩
end Go.Proofs.YtdlnkdcgipaoeaaDoor
