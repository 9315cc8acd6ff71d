/- The walk of LocksStay. -/
import Derived.Test.YtdlnkdcgipaoeaaDoorHLStayA
import Derived.Deep.CutRange
namespace Go.Proofs.YtdlnkdcgipaoeaaDoor
open Go.RowKit

def stM (j : Nat) : Bk := ⟨List.replicate j ⟨[], false, 0, 0⟩, List.replicate 3 ⟨[], 0⟩, List.replicate 2 4⟩
theorem stM_0 : newB 3 2 = stM 0 := rfl
theorem stM_s {j : Nat} (h : j < 6) : startM (stM j) = (((j : Int) + 1, 0), stM (j + 1)) := by
  unfold startM stM
  simp only [List.length_replicate]
  rw [if_neg (by omega)]
  show _ = (_, (⟨List.replicate (j + 1) _, _, _⟩ : Bk))
  rw [List.replicate_succ' (n := j)]
theorem stM_iv : ∀ j, j ≤ 6 → Iv (stM j)
  | 0, _ => new_iv 3 2
  | j + 1, h => by
    have := start_iv (stM_iv j (by omega))
    rw [stM_s (by omega)] at this
    exact this
theorem sim_new (n m : Nat) : Sim (newB n m) (newD n m) := by
  refine ⟨rfl, ?_, rfl, fun i x y hx _ => ?_, fun i y hy => ?_, fun i y hy => ?_⟩
  · simp [newD, newB, dlOf]
  · simp [newB] at hx
  · simp [newD] at hy
  · simp [newD] at hy
/-- How it stands beside a list of those who are stuck. -/
structure SK (w0 w : World) (b r : Nat) (B : Bk) (U : Nat → Prop) (s : Sl) (L : List Int) : Prop where
  ss : SS w0 w b r B U
  ro : RO w s L
  nf : ∀ g, s.blk = some g → ¬ U g
  st : ∀ x ∈ L, x ∈ stB B B.t.length
theorem SK.quiet {w0 w w' : World} {b r : Nat} {B : Bk} {U : Nat → Prop} {s : Sl} {L : List Int} (h : SK w0 w b r B U s L) (hb : Below w.heap.size w w') : SK w0 w' b r B U s L :=
  ⟨h.ss.quiet hb, h.ro.kept (fun g hg => hb.block g (h.ro.lt hg)), h.nf, h.st⟩
theorem SK.step {w0 w w' : World} {b r : Nat} {B : Bk} {U U' : Nat → Prop} {s : Sl} {L : List Int} {o : Sp} (h : SK w0 w b r B U s L) (hS : SS w0 w' b r (stepB B o) U') (hC : Chg U U' w w') : SK w0 w' b r (stepB B o) U' s L :=
  ⟨hS, h.ro.kept (fun g hg => hC.1 g (h.ro.lt hg) (h.nf g hg)), fun g hg => hC.off (h.ro.lt hg) (h.nf g hg), fun x hx => st_stays h.ss.iv o (h.st x hx)⟩
/-- A step with the box ahead of it. -/
theorem ss_boxed {w0 w : World} {b r : Nat} {B : Bk} {U : Nat → Prop} (h : SS w0 w b r B U) (o : Sp) :
    Calls Tryd.prog 10 #[.pointer (some ⟨b, 0, none⟩), .pointer (some ⟨r, 0, none⟩), .agg #[.int .i64 o.k, .int .i64 o.t, .int .i64 o.n, .int .u64 o.w, .int .i64 o.e], .pointer (some ⟨w.heap.size + 1, 0, none⟩)] ((w.alloc (.cells #[.int .i64 o.k, .int .i64 o.t, .int .i64 o.n, .int .u64 o.w, .int .i64 o.e] 58)).alloc (.cells #[.slice none 0 0, .slice none 0 0, .slice none 0 0, .slice none 0 0, .slice none 0 0, .slice none 0 0, .slice none 0 0, .slice none 0 0, .slice none 0 0, .slice none 0 0, .slice none 0 0, .slice none 0 0, .slice none 0 0, .slice none 0 0, .slice none 0 0, .slice none 0 0, .slice none 0 0] 45)) fun e w' => (∃ v, e = .returned (.bool v)) ∧ ∃ U', SS w0 w' b r (stepB B o) U' ∧ Chg U U' w w' := by
  have hq : Below w.heap.size w (w.alloc (.cells #[.int .i64 o.k, .int .i64 o.t, .int .i64 o.n, .int .u64 o.w, .int .i64 o.e] 58)) := (Below.refl _ _).alloc (Nat.le_refl _) _
  have := ss_step (h.quiet hq) o
  rw [World.size_alloc] at this
  refine Calls.mono this ?_
  rintro e w' ⟨hv, U', h1, h2⟩
  exact ⟨hv, U', h1, (Chg.quiet U hq).trans h2⟩
theorem st_len {B : Bk} (h : Iv B) : (stB B B.t.length).length ≤ 8 := by
  unfold stB
  have h1 := List.length_filter_le (fun x => ringB B x B.t.length x) ((List.range B.t.length).map (fun i : Nat => (i : Int) + 1))
  have h2 := h.tn
  simp only [List.length_map, List.length_range] at h1
  omega
set_option maxRecDepth 100000 in
set_option maxHeartbeats 40000000 in
theorem locksStay_walk (w : World) (hT : Tab w) (ra rb : Option Addr) (l m : List Sp) (ca cb : Nat) (hS : SR w ra l) (hR : SR w rb m) (hl : l.length ≤ 281474976710656) (hm : m.length ≤ 281474976710656) :
    Calls Tryd.prog 6 #[.slice ra l.length ca, .slice rb m.length cb] w fun e w' => e = .returned (.bool true) ∧ Below w.heap.size w w' := by
  have HK : Hid _ := known_any w hT
  have HN : Hid (∀ w1, Below w.heap.size w w1 → Calls Tryd.prog 8 #[.int .i64 3, .int .i64 2] w1 fun e w' => NewR 3 2 w1 e w') := fun w1 hb => new_any 3 2 (by omega) (by omega) w1 (hT.below hb)
  have HS : Hid (SR w ra l) := hS
  have HR : Hid (SR w rb m) := hR
  clear hT hS hR
  by_cases h5 : l.length > 5000
  · have k5 : (l.length : Int) > 5000 := by omega
    clear HK HN
    go_enter Tryd.func6, Tryd.ntmps6
    go_wp2
    go_ret
    exact ⟨rfl, Below.refl _ _⟩
  by_cases h6 : m.length > 5000
  · have k5 : ¬ (l.length : Int) > 5000 := by omega
    have k6 : (m.length : Int) > 5000 := by omega
    clear HK HN
    go_enter Tryd.func6, Tryd.ntmps6
    go_wp2
    go_ret
    exact ⟨rfl, Below.refl _ _⟩
  have k5 : ¬ (l.length : Int) > 5000 := by omega
  have k6 : ¬ (m.length : Int) > 5000 := by omega
  go_enter Tryd.func6, Tryd.ntmps6
  go_wp2_with fail
  refine Calls.mono HK.out ?_
  rintro e w1 ⟨rfl, hb1⟩
  have HN1 : Hid _ := HN.out w1 hb1
  have HB1 : Hid (Below w.heap.size w w1) := hb1
  clear HK HN hb1
  go_wp2_with fail
  refine Calls.mono HN1.out ?_
  rintro e w2 ⟨b, F0, rfl, hB0, hF0, hb2⟩
  rw [stM_0] at hB0
  have hs1 := HB1.out.size
  have HJ0 : Hid (BB w2 b (stM 0) F0 ∧ (∀ g, F0 g → w.heap.size ≤ g) ∧ Below w.heap.size w w2) := ⟨hB0, fun g hg => Nat.le_trans hs1 (hF0 g hg), HB1.out.trans (hb2.mono hs1)⟩
  clear hB0 hF0 hb2 HN1 HB1 hs1
  go_wp2
  go_loopw [8] (fun q wr => ∃ (j : Nat) (F : Nat → Prop), q = .int .i64 j ∧ j ≤ 6 ∧ Hid (BB wr b (stM j) F ∧ (∀ g, F g → w.heap.size ≤ g) ∧ Below w.heap.size w wr)) (fun q _ => 6 - (intOf q).toNat)
  case atStart => exact ⟨0, F0, rfl, by omega, HJ0.out⟩
  case round =>
    obtain ⟨j, F, rfl, hj, HJ⟩ := hrel
    by_cases hj5 : j < 6
    · have k1 : (j : Int) < 6 := by omega
      have HSt : Hid (Calls Tryd.prog 13 #[.pointer (some ⟨b, 0, none⟩)] wr fun e w' => e = .returned (.tuple #[.int .i64 ((j : Int) + 1), .int .i64 0]) ∧ BR b (stM (j + 1)) F wr w') := by
        have := start_any HJ.out.1
        rw [stM_s hj5] at this
        exact this
      go_wp2_with fail
      refine Calls.mono HSt.out ?_
      rintro e w4 ⟨rfl, F4, hB4, hC4⟩
      have HJ4 : Hid (BB w4 b (stM (j + 1)) F4 ∧ (∀ g, F4 g → w.heap.size ≤ g) ∧ Below w.heap.size w w4) := kstep HJ.out hB4 hC4
      clear hB4 hC4 HSt HJ
      go_wp2
      go_roundw
      case rel => exact ⟨j + 1, F4, by go_num, by omega, HJ4⟩
      case measure => simp [intOf]; omega
    · have k1 : ¬ (j : Int) < 6 := by omega
      have hj' : j = 6 := by omega
      subst hj'
      have HNw : Hid _ := dNew_any 3 2 (by omega) (by omega) wr
      go_wp2_with fail
      refine Calls.mono HNw.out ?_
      rintro e w5 ⟨r, F5, rfl, hD5, hF5, hb5⟩
      have HS5 : Hid (SS w w5 b r (stM 6) (fun g => F g ∨ F5 g)) := ⟨⟨newD 3 2, F, F5, HJ.out.1.below hb5, hD5, fun g h1 h2 => by
        have := HJ.out.1.lt h1
        have := hF5 g h2
        omega, ⟨newB 3 2, sim_new 3 2, new_iv 3 2⟩, rfl⟩, stM_iv 6 (by omega), fun g hg => by
        rcases hg with hg | hg
        · exact HJ.out.2.1 g hg
        · exact Nat.le_trans HJ.out.2.2.size (hF5 g hg), HJ.out.2.2.trans (hb5.mono HJ.out.2.2.size)⟩
      clear hD5 hF5 hb5 HNw HJ HJ0 k1 hj hj5
      go_wp2
      obtain ⟨wA, hwA⟩ : ∃ wA, wA = w5 := ⟨_, rfl⟩
      rw [← hwA] at HS5 ⊢
      clear hwA
      go_loopw [11] (fun q wr => ∃ (j : Nat) (B : Bk) (U : Nat → Prop), q = .int .i64 j ∧ j ≤ l.length ∧ Hid (SS w wr b r B U)) (fun q _ => l.length - (intOf q).toNat)
      case atStart => exact ⟨0, stM 6, _, rfl, Nat.zero_le _, HS5⟩
      case round =>
        obtain ⟨j, B, U, rfl, hj, HB⟩ := hrel
        by_cases hjl : j < l.length
        · have k1 : (j : Int) < (l.length : Int) := by omega
          have k0 : (0 : Int) ≤ (j : Int) := by omega
          obtain ⟨o, ho⟩ : ∃ o, l[j]? = some o := ⟨_, List.getElem?_eq_getElem hjl⟩
          obtain ⟨sb, so, hsa, hso⟩ := HS.out.below HB.out.bl
          obtain ⟨lsb, s0, s1, s2, s3, s4, -, rt, rn⟩ := hso j o ho
          have hra := hsa.resolve_left (by omega)
          subst hra
          have HSm : Hid _ := small_any wr o rt rn
          clear ho hso hsa rt rn HS5
          go_wp2_with fail
          refine Calls.mono HSm.out ?_
          rintro e w7 ⟨rfl, hb7⟩
          have HSt : Hid _ := ss_boxed (HB.out.quiet hb7) (smallM o)
          clear HSm hb7 HB s0 s1 s2 s3 s4 lsb
          go_wp2_with fail
          refine Calls.mono HSt.out ?_
          rintro e w8 ⟨⟨v, rfl⟩, U8, hS8, hC8⟩
          have HS8 : Hid (SS w w8 b r (stepB B (smallM o)) U8) := hS8
          clear hS8 hC8 HSt
          go_wp2
          go_roundw
          case rel => exact ⟨j + 1, _, _, by go_num, by omega, HS8⟩
          case measure => simp [intOf]; omega
        · have k1 : ¬ (j : Int) < (l.length : Int) := by omega
          have hjj : j = l.length := by omega
          subst hjj
          obtain ⟨F, hF⟩ := HB.out.bb
          have HStk : Hid _ := stuck_B hF HB.out.iv.sh
          clear hF HS5 hj hjl
          go_wp2_with fail
          refine Calls.mono HStk.out ?_
          rintro e w6 ⟨s, rfl, hro, hnew, hb6⟩
          have hlen : (stB B B.t.length).length ≤ 8 := st_len HB.out.iv
          have HK0 : Hid (SK w w6 b r B U s (stB B B.t.length)) := ⟨HB.out.quiet hb6, hro, fun g hg hu => by
            have := hnew g hg
            have := HB.out.lt g hu
            omega, fun x hx => hx⟩
          generalize stB B B.t.length = L0 at HK0 hlen ⊢
          obtain ⟨sra, sca⟩ := s
          dsimp only
          clear hro hnew hb6 HB HStk k1
          go_wp2
          obtain ⟨wB, hwB⟩ : ∃ wB, wB = w6 := ⟨_, rfl⟩
          rw [← hwB] at HK0 ⊢
          clear hwB
          go_loopw [14] (fun q wr => ∃ (j : Nat) (B : Bk) (U : Nat → Prop), q = .int .i64 j ∧ j ≤ m.length ∧ Hid (SK w wr b r B U ⟨sra, sca⟩ L0)) (fun q _ => m.length - (intOf q).toNat)
          case atStart => exact ⟨0, B, U, rfl, Nat.zero_le _, HK0⟩
          case round =>
            obtain ⟨j, B1, U1, rfl, hj, HK1⟩ := hrel
            by_cases hjm : j < m.length
            · have k1 : (j : Int) < (m.length : Int) := by omega
              have k0 : (0 : Int) ≤ (j : Int) := by omega
              obtain ⟨o, ho⟩ : ∃ o, m[j]? = some o := ⟨_, List.getElem?_eq_getElem hjm⟩
              obtain ⟨sb, so, hsa, hso⟩ := HR.out.below HK1.out.ss.bl
              obtain ⟨lsb, s0, s1, s2, s3, s4, -, rt, rn⟩ := hso j o ho
              have hra := hsa.resolve_left (by omega)
              subst hra
              have HSm : Hid _ := small_any wr o rt rn
              clear ho hso hsa rt rn HK0
              go_wp2_with fail
              refine Calls.mono HSm.out ?_
              rintro e w7 ⟨rfl, hb7⟩
              have HSt : Hid _ := ss_boxed (HK1.out.ss.quiet hb7) (smallM o)
              have HK7 : Hid (SK w w7 b r B1 U1 ⟨sra, sca⟩ L0) := HK1.out.quiet hb7
              clear HSm hb7 HK1 s0 s1 s2 s3 s4 lsb
              go_wp2_with fail
              refine Calls.mono HSt.out ?_
              rintro e w8 ⟨⟨v, rfl⟩, U8, hS8, hC8⟩
              have HK8 : Hid (SK w w8 b r (stepB B1 (smallM o)) U8 ⟨sra, sca⟩ L0) := HK7.out.step hS8 hC8
              obtain ⟨F8, hF8⟩ := hS8.bb
              have HStk : Hid _ := stuck_B hF8 hS8.iv.sh
              have hlen2 : (stB (stepB B1 (smallM o)) (stepB B1 (smallM o)).t.length).length ≤ 8 := st_len hS8.iv
              generalize stepB B1 (smallM o) = B8 at HK8 HStk hlen2
              clear hS8 hC8 HSt HK7 hF8
              go_wp2_with fail
              refine Calls.mono HStk.out ?_
              rintro e w9 ⟨s2, rfl, hro2, -, hb9⟩
              have HK9 : Hid (SK w w9 b r B8 U8 ⟨sra, sca⟩ L0) := HK8.out.quiet hb9
              have HIn : Hid (∀ x ∈ L0, x ∈ stB B8 B8.t.length) := HK8.out.st
              have HR9 : Hid (RO w9 s2 (stB B8 B8.t.length)) := hro2
              generalize hNN : stB B8 B8.t.length = N at HR9 HIn hlen2 ⊢
              have HNN : Hid (stB B8 B8.t.length = N) := hNN
              obtain ⟨ra2, ca2⟩ := s2
              dsimp only
              clear hro2 hb9 HK8 HStk hNN
              go_wp2
              obtain ⟨wC, hwC⟩ : ∃ wC, wC = w9 := ⟨_, rfl⟩
              rw [← hwC] at HK9 HR9 ⊢
              clear hwC
              go_loopw [17] (fun q wr => ∃ (k : Nat), q = .int .i64 k ∧ k ≤ L0.length ∧ Hid (Below wC.heap.size wC wr)) (fun q _ => L0.length - (intOf q).toNat)
              case atStart => exact ⟨0, rfl, Nat.zero_le _, Below.refl _ _⟩
              case round =>
                obtain ⟨k, rfl, hk, HB4⟩ := hrel
                have hKr := HK9.out.quiet HB4.out
                by_cases hkl : k < L0.length
                · have q1 : (k : Int) < (L0.length : Int) := by omega
                  have q0 : (0 : Int) ≤ (k : Int) := by omega
                  obtain ⟨x, hx⟩ : ∃ x, L0[k]? = some x := ⟨_, List.getElem?_eq_getElem hkl⟩
                  have hxm := List.mem_of_getElem? hx
                  obtain ⟨hwt, i, t, hxi, ht, hte⟩ := st_facts hKr.ss.iv (hKr.st x hxm)
                  have HCn : Hid (N.contains x = true) := by
                    show _ = _
                    have := HIn.out x hxm
                    simpa using this
                  obtain ⟨gb, go, hga, hgc⟩ := hKr.ro.rx.at
                  have hsra := hga (by omega)
                  dsimp only at hsra
                  obtain ⟨lgb, cx⟩ := hgc k x hx
                  obtain ⟨F9, hF9⟩ := hKr.ss.bb
                  have HE : Hid (Calls Tryd.prog 15 #[.pointer (some ⟨b, 0, none⟩), .int .i64 x] wr fun e w' => e = .returned (.tuple #[.agg #[.bool false, .int .u64 t.wd, .int .i64 t.er], .int .i64 0]) ∧ Below wr.heap.size wr w') := by
                    have := ended_i hF9 ht
                    rw [hte, ← hxi] at this
                    exact this
                  have HW : Hid (∀ W, Below wr.heap.size wr W → Calls Tryd.prog 16 #[.pointer (some ⟨b, 0, none⟩), .int .i64 x] W fun e w' => e = .returned (.bool true) ∧ w' = W) := fun W hb => by
                    have := waits_B (hF9.below hb) hKr.ss.iv.sh x
                    rw [hwt] at this
                    exact this
                  have HCx : Hid (gb < wr.heap.size ∧ wr.cell? ⟨gb, go + k, none⟩ = some (.int .i64 x)) := ⟨lgb, cx⟩
                  generalize t.wd = twd at HE
                  generalize t.er = ter at HE
                  subst hsra
                  clear hx hxm hwt hxi ht hte hga hgc hKr hF9
                  go_wp2_with fail
                  refine Calls.mono HE.out ?_
                  rintro e w10 ⟨rfl, hb10⟩
                  have hbA : Below wr.heap.size wr (w10.alloc (.cells #[.bool false, .int .u64 twd, .int .i64 ter] 67)) := hb10.alloc hb10.size _
                  have hbx := heap_alloc_new w10 (.cells #[.bool false, .int .u64 twd, .int .i64 ter] 67)
                  obtain ⟨WD, hWD⟩ : ∃ WD, WD = w10.alloc (.cells #[.bool false, .int .u64 twd, .int .i64 ter] 67) := ⟨_, rfl⟩
                  obtain ⟨xg, hxg⟩ : ∃ xg, xg = w10.heap.size := ⟨_, rfl⟩
                  rw [← hWD] at hbA hbx
                  rw [← hxg] at hbx
                  have HBA : Hid (Below wr.heap.size wr WD ∧ WD.heap[xg]? = some (.cells #[.bool false, .int .u64 twd, .int .i64 ter] 67 (0, 0))) := ⟨hbA, hbx⟩
                  have HWD : Hid (WD = w10.alloc (.cells #[.bool false, .int .u64 twd, .int .i64 ter] 67)) := hWD
                  have HXG : Hid (xg = w10.heap.size) := hxg
                  clear hb10 hbA hbx HE hWD hxg cx lgb
                  go_upto_region 28 with fail
                  rw [← HWD.out, ← HXG.out]
                  go_wp2
                  obtain ⟨WR, hWR⟩ : ∃ WR, WR = wr := ⟨_, rfl⟩
                  rw [← hWR] at HBA HB4 HW HCx
                  clear hWR HWD HXG
                  go_loopw [20, 21] (fun v20 q wr' => ∃ (j2 : Nat), q = .int .i64 j2 ∧ v20 = .bool ((N.take j2).contains x) ∧ j2 ≤ N.length ∧ Hid (Below WD.heap.size WD wr')) (fun _ q _ => N.length - (intOf q).toNat)
                  case atStart => exact ⟨0, rfl, by simp, Nat.zero_le _, Below.refl _ _⟩
                  case round =>
                    obtain ⟨j2, rfl, rfl, hj2, HB5⟩ := hrel
                    have hb45 : Below WR.heap.size WR wr := HBA.out.1.trans (HB5.out.mono HBA.out.1.size)
                    have hbC5 : Below wC.heap.size wC wr := HB4.out.trans (hb45.mono HB4.out.size)
                    by_cases hjn : j2 < N.length
                    · have n1 : (j2 : Int) < (N.length : Int) := by omega
                      have n0 : (0 : Int) ≤ (j2 : Int) := by omega
                      obtain ⟨u, hu⟩ : ∃ u, N[j2]? = some u := ⟨_, List.getElem?_eq_getElem hjn⟩
                      obtain ⟨nb, no, hna, hnc⟩ := (HR9.out.rx.below hbC5).at
                      have hra2 := hna (by omega)
                      dsimp only at hra2
                      obtain ⟨lnb, cu⟩ := hnc j2 u hu
                      have cx : wr.cell? ⟨gb, go + k, none⟩ = some (.int .i64 x) := (World.cell?_of_block (a := ⟨gb, go + k, none⟩) (hb45.block gb HCx.out.1)).trans HCx.out.2
                      have lgb := Nat.lt_of_lt_of_le HCx.out.1 hb45.size
                      have HU : Hid ((N.take (j2 + 1)).contains x = ((N.take j2).contains x || (u == x))) := by
                        show _ = _
                        rw [List.take_add_one, hu, ← contains_snoc]
                        rfl
                      subst hra2
                      clear hu hna hnc hbC5 hb45
                      generalize (N.take j2).contains x = c2 at HU ⊢
                      cases c2
                      · cases hc : (u == x)
                        · rw [hc] at HU
                          go_upto_region 32 with fail
                          go_quiet (fail)
                          go_wp2
                          go_roundw
                          case rel => exact ⟨j2 + 1, by go_num, by rw [HU.out]; rfl, by omega, below_drewM HB5.out _⟩
                          case measure => simp [intOf]; omega
                        · rw [hc] at HU
                          go_upto_region 32 with fail
                          go_quiet (fail)
                          go_wp2
                          go_roundw
                          case rel => exact ⟨j2 + 1, by go_num, by rw [HU.out]; rfl, by omega, below_drewM HB5.out _⟩
                          case measure => simp [intOf]; omega
                      · go_upto_region 32 with fail
                        go_quiet (fail)
                        go_wp2
                        go_roundw
                        case rel => exact ⟨j2 + 1, by go_num, by rw [HU.out, Bool.true_or], by omega, below_drewM HB5.out _⟩
                        case measure => simp [intOf]; omega
                    · have n1 : ¬ (j2 : Int) < (N.length : Int) := by omega
                      have hje : j2 = N.length := by omega
                      subst hje
                      rw [List.take_length, HCn.out]
                      have HWt : Hid _ := HW.out wr hb45
                      have cx : wr.cell? ⟨gb, go + k, none⟩ = some (.int .i64 x) := (World.cell?_of_block (a := ⟨gb, go + k, none⟩) (hb45.block gb HCx.out.1)).trans HCx.out.2
                      have lgb := Nat.lt_of_lt_of_le HCx.out.1 hb45.size
                      have hbx := (HB5.out.block xg (heap_lt HBA.out.2)).trans HBA.out.2
                      have x0 := heap_cell (j := 0) hbx rfl
                      have lx := heap_lt hbx
                      have HBB : Hid (Below wC.heap.size wC wr) := hbC5
                      clear hb45 hbC5 hbx hj2 hjn
                      go_wp2_with fail
                      refine Calls.mono HWt.out ?_
                      rintro e w2 ⟨rfl, hw2⟩
                      rw [hw2]
                      clear hw2
                      go_wp2
                      go_roundw
                      case rel => exact ⟨k + 1, by go_num, by omega, HBB⟩
                      case measure => simp [intOf]; omega
                · have q1 : ¬ (k : Int) < (L0.length : Int) := by omega
                  have HKr : Hid (SK w wr b r B8 U8 ⟨sra, sca⟩ L0) := hKr
                  clear hKr hk hkl
                  go_wp2
                  go_roundw
                  case rel => exact ⟨j + 1, B8, U8, by go_num, by omega, HKr⟩
                  case measure => simp [intOf]; omega
            · have k1 : ¬ (j : Int) < (m.length : Int) := by omega
              have HF : Hid (Below w.heap.size w wr) := HK1.out.ss.bl
              clear HK1 hj hjm
              go_wp2
              go_ret
              exact ⟨rfl, HF.out⟩
end Go.Proofs.YtdlnkdcgipaoeaaDoor
