/- Where it is a heap. -/
import Derived.Test.YteekfahpbnbalaaDoorHGForms0
import Derived.Test.YteekfahpbnbalaaDoorHGFTurn
namespace Go.Proofs.YteekfahpbnbalaaDoor
open Go.RowKit

set_option maxRecDepth 100000 in
set_option maxHeartbeats 40000000 in
theorem graphForms_good (h : List Cl) (l od : List Int) (at' : Int) (ra rb rc : Option Addr) (ca cb cc : Nat) (w : World) (hH : HR w ra h) (hR : WR w rb l) (hO : RX (Value.int .i64) w rc od) (hT : Tab w) (hod : ∀ x ∈ od, -9223372036854775808 ≤ x ∧ x ≤ 9223372036854775807) (hat : -9223372036854775808 ≤ at' ∧ at' ≤ 9223372036854775807) (h1 : h.length ≤ 2000) (h2 : l.length ≤ 1000) (h3 : od.length ≤ 4000) (hok : heapB h l = true) :
    Calls Tryd.prog 5 #[.agg #[.slice ra h.length ca, .slice rb l.length cb, .slice rc od.length cc, .int .i64 at']] w fun e w' => e = .returned (.bool true) ∧ Below w.heap.size w w' := by
  have a0 := al_below w (.cells #[.slice ra h.length ca, .slice rb l.length cb, .slice rc od.length cc, .int .i64 at'] 45)
  have b0 := heap_alloc_new w (.cells #[.slice ra h.length ca, .slice rb l.length cb, .slice rc od.length cc, .int .i64 at'] 45)
  have c0 := heap_cell (j := 0) b0 rfl
  have c1 := heap_cell (j := 1) b0 rfl
  have c2 := heap_cell (j := 2) b0 rfl
  have l0 := heap_lt b0
  have HG : Hid (Gv h l od at' ra rb rc ca cb cc w.heap.size (w.alloc (.cells #[.slice ra h.length ca, .slice rb l.length cb, .slice rc od.length cc, .int .i64 at'] 45))) := ⟨hH.below a0, hR.below a0, hO.below a0, hT.below a0, b0⟩
  have HB : Hid (Below w.heap.size w (w.alloc (.cells #[.slice ra h.length ca, .slice rb l.length cb, .slice rc od.length cc, .int .i64 at'] 45))) := a0
  have HN : Hid (∀ x ∈ od, -9223372036854775808 ≤ x ∧ x ≤ 9223372036854775807) := hod
  clear hH hR hO hT a0 b0 hod
  have j1 : ¬ (2000 : Int) < (h.length : Int) := by omega
  have j2 : ¬ (1000 : Int) < (l.length : Int) := by omega
  have j3 : ¬ (4000 : Int) < (od.length : Int) := by omega
  have HO : Hid (heapB h l = true) := hok
  clear hok
  go_enter Tryd.func5, Tryd.ntmps5
  go_upto_region 1 with fail
  generalize w.alloc (.cells #[.slice ra h.length ca, .slice rb l.length cb, .slice rc od.length cc, .int .i64 at'] 45) = W at *
  go_wp2_with fail
  refine Calls.mono (known_any W HG.out.t) ?_
  rintro e w1 ⟨rfl, hb⟩
  have HG1 : Hid (Gv h l od at' ra rb rc ca cb cc w.heap.size w1) := HG.out.below hb
  have HB1 : Hid (Below w.heap.size w w1) := HB.out.trans (hb.mono HB.out.size)
  clear hb HG HB c0 c1 c2 l0
  go_wp2_with fail
  refine Calls.mono (form_ok h l ra rb ca cb w1 HG1.out.hh HG1.out.ll HG1.out.t (by omega) (by omega) HO.out) ?_
  rintro e w2 ⟨⟨g1, g2, rfl, hx, hy⟩, hb⟩
  have HG2 : Hid (Gv h l od at' ra rb rc ca cb cc w.heap.size w2) := HG1.out.below hb
  have HX2 : Hid (HR w2 (some ⟨g1, 0, none⟩) (fH h l) ∧ WR w2 (some ⟨g2, 0, none⟩) (fR h l)) := ⟨hx, hy⟩
  have HB2 : Hid (Below w.heap.size w w2) := HB1.out.trans (hb.mono HB1.out.size)
  clear hb hx hy HG1 HB1
  have hff := form_form HO.out (by omega) (r := walkM h false l) rfl (y := fR h l) rfl
  have Hff : Hid (heapB (fH h l) (fR h l) = true ∧ fH (fH h l) (fR h l) = fH h l ∧ fR (fH h l) (fR h l) = fR h l) := hff
  have hwl : (walkM h false l).length ≤ h.length := (walk_ok false HO.out).len
  have lx : (fH h l).length ≤ 2000 := by rw [fH_len]; omega
  have ly : (fR h l).length ≤ 1000 := by rw [fR_len]; omega
  clear hff
  go_wp2_with fail
  refine Calls.mono (form_ok (fH h l) (fR h l) _ _ _ _ w2 HX2.out.1 HX2.out.2 HG2.out.t (by omega) (by omega) Hff.out.1) ?_
  rintro e w3 ⟨⟨g3, g4, rfl, hx, hy⟩, hb⟩
  have HG3 : Hid (Gv h l od at' ra rb rc ca cb cc w.heap.size w3) := HG2.out.below hb
  have HX3 : Hid (HR w3 (some ⟨g1, 0, none⟩) (fH h l) ∧ WR w3 (some ⟨g2, 0, none⟩) (fR h l)) := ⟨HX2.out.1.below hb, HX2.out.2.below hb⟩
  have HU3 : Hid (HR w3 (some ⟨g3, 0, none⟩) (fH (fH h l) (fR h l)) ∧ WR w3 (some ⟨g4, 0, none⟩) (fR (fH h l) (fR h l))) := ⟨hx, hy⟩
  have HB3 : Hid (Below w.heap.size w w3) := HB2.out.trans (hb.mono HB2.out.size)
  have HL3 : Hid ((fH (fH h l) (fR h l)).length ≤ 1000001 ∧ (fR (fH h l) (fR h l)).length ≤ 1000001) := ⟨by rw [Hff.out.2.1]; omega, by rw [Hff.out.2.2]; omega⟩
  clear hb hx hy HG2 HB2 HX2
  go_wp2_with fail
  refine Calls.mono (sameK_true HL3.out.1 HU3.out.1.hx HX3.out.1.hx Hff.out.2.1) ?_
  rintro e w4 ⟨rfl, hb⟩
  have HG4 : Hid (Gv h l od at' ra rb rc ca cb cc w.heap.size w4) := HG3.out.below hb
  have HX4 : Hid (HR w4 (some ⟨g1, 0, none⟩) (fH h l) ∧ WR w4 (some ⟨g2, 0, none⟩) (fR h l)) := ⟨HX3.out.1.below hb, HX3.out.2.below hb⟩
  have HU4 : Hid (WR w4 (some ⟨g4, 0, none⟩) (fR (fH h l) (fR h l))) := HU3.out.2.below hb
  have HB4 : Hid (Below w.heap.size w w4) := HB3.out.trans (hb.mono HB3.out.size)
  clear hb HG3 HB3 HX3 HU3
  go_wp2_with fail
  refine Calls.mono (sameW_true HL3.out.2 HU4.out HX4.out.2 Hff.out.2.2) ?_
  rintro e w5 ⟨rfl, hb⟩
  have HG5 : Hid (Gv h l od at' ra rb rc ca cb cc w.heap.size w5) := HG4.out.below hb
  have HX5 : Hid (HR w5 (some ⟨g1, 0, none⟩) (fH h l) ∧ WR w5 (some ⟨g2, 0, none⟩) (fR h l)) := ⟨HX4.out.1.below hb, HX4.out.2.below hb⟩
  have HB5 : Hid (Below w.heap.size w w5) := HB4.out.trans (hb.mono HB4.out.size)
  clear hb HG4 HB4 HX4 HU4 HL3 Hff
  obtain ⟨i0, hi0, hz0, hz1, hz2⟩ := info_parts infoI
  obtain ⟨N, hN⟩ : ∃ N : Nat, N = h.length + 1 := ⟨_, rfl⟩
  have n1 : (h.length : Int) + 1 = (N : Int) := by omega
  have HNq : Hid (N = h.length + 1) := hN
  have n2 : N ≤ 2001 := by omega
  have n3 : 0 < N := by omega
  clear hN
  go_wp2_with (at_make; refine stop_of ?_)
  unfold Hid
  refine wpList_make_full _ rfl _ _ 29 rfl w5.heap.size 3 i0 (.int .i64 0) 1 Tryd.underlying29 hi0 hz0 hz1 .i64 .i64 _ _ N rfl rfl rfl rfl (by rw [hz2]; omega) (by unfold maxLen; omega) (Nat.le_refl _) ?_
  intro w6 hown hgr
  have hd6 := dr_made hown (made_zero _)
  have HD6 : Hid (DR w6 3 w5.heap.size N (fun k u => k < 0 → u = .int .i64 k)) := hd6.mono (fun k u _ _ hk => by omega)
  have HB6 : Hid (Below w5.heap.size w5 w6) := grown_low hgr (fun g hg => by cases hg) (Nat.le_refl _)
  clear hown hgr hd6 hi0 hz0 hz1 hz2 n1
  go_wp2
  go_loopw [16] (fun i wr => ∃ j : Nat, i = .int .i64 j ∧ j ≤ N ∧ Hid (DR wr 3 w5.heap.size N (fun k u => k < j → u = .int .i64 k)) ∧ Hid (Below w5.heap.size w5 wr)) (fun i _ => N - (intOf i).toNat)
  case atStart => exact ⟨0, rfl, Nat.zero_le _, HD6, HB6⟩
  case round =>
    obtain ⟨j, rfl, hj, HD, HBr⟩ := hrel
    by_cases hlt : j < N
    · have k1 : (j : Int) < (N : Int) := by omega
      obtain ⟨u0, hu0, _⟩ := HD.out.cell hlt
      have z0 := HD.out.fz j
      have s4 := HD.out.lt
      have HD7 : Hid (DR (wr.setCell ⟨w5.heap.size, j, none⟩ (.int .i64 j)) 3 w5.heap.size N (fun k u => k < j + 1 → u = .int .i64 k)) := HD.out.set (fun k u hk hh hl => hh (by omega)) (fun _ => rfl)
      have HB7 : Hid (Below w5.heap.size w5 (wr.setCell ⟨w5.heap.size, j, none⟩ (.int .i64 j))) := HBr.out.setCell (p := ⟨w5.heap.size, j, none⟩) (Nat.le_refl _) _
      go_wp2
      go_roundw
      case rel => exact ⟨j + 1, by go_num, by omega, HD7, HB7⟩
      case measure => simp [intOf]; omega
    · have k1 : ¬ (j : Int) < (N : Int) := by omega
      have HD7 : Hid (DR wr 3 w5.heap.size N (fun k u => u = .int .i64 ((fun k => k) k : Nat))) := HD.out.mono (fun k u hk hh => hh (by omega))
      have HB7 : Hid (Below w5.heap.size w5 wr) := HBr
      clear HD HBr HD6 HB6 hlt hj
      obtain ⟨wA, rfl⟩ : ∃ wA, wA = wr := ⟨_, rfl⟩
      go_wp2
      go_loopw [17, 18, 19] (fun i _ _ wr => ∃ (j : Nat) (τ ρ : Nat → Nat), i = .int .i64 j ∧ j ≤ od.length ∧ Hid (Perm N τ ρ) ∧ Hid (DR wr 3 w5.heap.size N (fun k u => u = .int .i64 (τ k : Nat))) ∧ Hid (Below w5.heap.size w5 wr)) (fun i _ _ _ => od.length - (intOf i).toNat)
      case atStart => exact ⟨0, fun k => k, fun k => k, rfl, Nat.zero_le _, Perm.id N, HD7, HB7⟩
      case round =>
        obtain ⟨j, τ, ρ, rfl, hj, HP, HD, HBr⟩ := hrel
        obtain ⟨j', hj'⟩ : ∃ j' : Nat, j' = j + 1 := ⟨_, rfl⟩
        have e1 : (j : Int) + 1 = (j' : Int) := by omega
        have e2 : (j' : Int) ≤ 9223372036854775807 := by omega
        by_cases hlt : j' < od.length
        · have k1 : (j' : Int) < (od.length : Int) := by omega
          have k2 : (j : Int) < (od.length : Int) := by omega
          obtain ⟨x, hx⟩ : ∃ x, od[j]? = some x := ⟨_, List.getElem?_eq_getElem (by omega)⟩
          obtain ⟨y, hy⟩ : ∃ y, od[j']? = some y := ⟨_, List.getElem?_eq_getElem hlt⟩
          obtain ⟨bo, oo, q1, q2⟩ := (HG5.out.below HBr.out).oo
          obtain rfl : rc = some ⟨bo, oo, none⟩ := q1.resolve_left (by omega)
          obtain ⟨l1, c1⟩ := q2 j x hx
          obtain ⟨_, c2⟩ := q2 j' y hy
          obtain ⟨a, ha, hpa⟩ := pick_fix x N (HN.out x (List.mem_of_getElem? hx)) (by omega) (by omega)
          obtain ⟨b, hb, hpb⟩ := pick_fix y N (HN.out y (List.mem_of_getElem? hy)) (by omega) (by omega)
          have HPA : Hid (∀ w : World, Calls Tryd.prog 15 #[.int .i64 x, .int .i64 N] w fun e w' => e = .returned (.int .i64 a) ∧ w' = w) := hpa
          have HPB : Hid (∀ w : World, Calls Tryd.prog 15 #[.int .i64 y, .int .i64 N] w fun e w' => e = .returned (.int .i64 b) ∧ w' = w) := hpb
          have HJ : Hid (j' = j + 1) := hj'
          clear q1 q2 hx hy hpa hpb hj'
          go_wp2_with fail
          refine Calls.mono (HPA.out _) ?_
          rintro e wq ⟨rfl, hq⟩
          rw [hq]
          clear hq
          go_wp2_with fail
          refine Calls.mono (HPB.out _) ?_
          rintro e wq' ⟨rfl, hq⟩
          rw [hq]
          clear hq
          have ka : (a : Int) < (N : Int) := by omega
          have kb : (b : Int) < (N : Int) := by omega
          have sg := HD.out.lt
          obtain ⟨ua, hua, rfl⟩ := HD.out.cell ha
          obtain ⟨ub, hub, rfl⟩ := HD.out.cell hb
          have za := HD.out.fz a
          have zb := HD.out.fz b
          have qa := HD.out.set (j := a) (v := .int .i64 (τ b : Nat)) (P' := fun k u => (k = a → u = .int .i64 (τ b : Nat)) ∧ (k ≠ a → u = .int .i64 (τ k : Nat))) (fun k u hk hh => ⟨fun e => absurd e hk, fun _ => hh⟩) ⟨fun _ => rfl, fun e => absurd rfl e⟩
          obtain ⟨vb, hvb, _⟩ := qa.cell hb
          have HD8 : Hid (DR ((wr.setCell ⟨w5.heap.size, a, none⟩ (.int .i64 (τ b : Nat))).setCell ⟨w5.heap.size, b, none⟩ (.int .i64 (τ a : Nat))) 3 w5.heap.size N (fun k u => u = .int .i64 ((fun k => τ (sw a b k)) k : Nat))) := qa.set (fun k u hk hh => by
            by_cases he : k = a
            · rw [hh.1 he, he]; simp [sw]
            · rw [hh.2 he]; simp [sw, he, hk]) (by
            show Value.int .i64 (τ a : Nat) = .int .i64 (τ (sw a b b) : Nat)
            unfold sw
            by_cases he : b = a
            · rw [if_pos he, he]
            · rw [if_neg he, if_pos rfl])
          have HP8 : Hid (Perm N (fun k => τ (sw a b k)) (fun k => sw a b (ρ k))) := HP.out.swap ha hb
          have HB8 : Hid (Below w5.heap.size w5 ((wr.setCell ⟨w5.heap.size, a, none⟩ (.int .i64 (τ b : Nat))).setCell ⟨w5.heap.size, b, none⟩ (.int .i64 (τ a : Nat)))) := (HBr.out.setCell (p := ⟨w5.heap.size, a, none⟩) (Nat.le_refl _) _).setCell (p := ⟨w5.heap.size, b, none⟩) (Nat.le_refl _) _
          clear qa HP
          generalize τ a = ta at *
          generalize τ b = tb at *
          go_wp2_with fail
          go_region
          go_wp2
          go_roundw
          case rel => exact ⟨j', _, _, rfl, by omega, HP8, HD8, HB8.out.drew⟩
          case measure => have := HJ.out; simp [intOf]; omega
        · have k1 : ¬ (j' : Int) < (od.length : Int) := by omega
          obtain ⟨i1, hi1, hy0, hy1, hy2⟩ := info_parts infoCl
          clear hj' HD7 HB7 hlt hj
          have HDt : Hid (DR wr 3 w5.heap.size N (fun k u => u = .int .i64 (τ k : Nat))) := HD
          have HBt : Hid (Below w5.heap.size w5 wr) := HBr
          clear HD HBr
          obtain ⟨wB, rfl⟩ : ∃ wB, wB = wr := ⟨_, rfl⟩
          go_wp2_with (at_make; refine stop_of ?_)
          unfold Hid
          refine wpList_make_full _ rfl _ _ 23 rfl wB.heap.size 39 i1 (.agg #[.int .u8 0, .int .u8 0, .int .u64 0, .int .u64 0]) 4 Tryd.underlying23 hi1 hy0 hy1 .i64 .i64 _ _ N rfl rfl rfl rfl (by rw [hy2]; omega) (by unfold maxLen; omega) (Nat.le_refl _) ?_
          intro w7 hown hgr
          have hd7 := dr_own hown
          rw [HNq.out] at hd7
          have HE7 : Hid (OthD w7 wB.heap.size h τ 0) := DR.mono hd7 (fun k u _ _ i hi => by omega)
          have HB7 : Hid (Below wB.heap.size wB w7) := grown_low hgr (fun g hg => by cases hg) (Nat.le_refl _)
          have sB : w5.heap.size < wB.heap.size := HDt.out.lt
          clear hown hgr hd7 hi1 hy0 hy1 hy2
          go_wp2
          go_loopw [21, 22] (fun i _ wr => ∃ (j : Nat), i = .int .i64 j ∧ j ≤ h.length ∧ Hid (OthD wr wB.heap.size h τ j) ∧ Hid (Below wB.heap.size wB wr)) (fun i _ _ => h.length - (intOf i).toNat)
          case atStart => exact ⟨0, rfl, Nat.zero_le _, HE7, HB7⟩
          case round =>
            obtain ⟨j, rfl, hj, HE, HBr⟩ := hrel
            by_cases hlt : j < h.length
            · have k1 : (j : Int) < (h.length : Int) := by omega
              obtain ⟨x, hx⟩ : ∃ x, h[j]? = some x := ⟨_, List.getElem?_eq_getElem hlt⟩
              have hBw : Below w5.heap.size w5 wr := HBt.out.trans (HBr.out.mono (by omega))
              have gv := HG5.out.below hBw
              obtain ⟨bh, oh, q1, q2⟩ := gv.hh
              obtain rfl : ra = some ⟨bh, oh, none⟩ := q1.resolve_left (by omega)
              obtain ⟨l1, ⟨d0, d1, d2, d3⟩, hkx⟩ := q2 j x hx
              have hp := HP.out
              have hpn : τ j < N := hp.lt j (by have := HNq.out; omega)
              have kt : (τ j : Int) < (N : Int) := by omega
              have al := al_below wr (KO x)
              have HDr : Hid (DR (wr.alloc (KO x)) 3 w5.heap.size N (fun k u => u = .int .i64 (τ k : Nat))) := HDt.out.kept ((al.block _ (Nat.lt_of_lt_of_le sB HBr.out.size)).trans (HBr.out.block _ sB))
              obtain ⟨ut, hut, rfl⟩ := HDr.out.cell (j := j) (by have := HNq.out; omega)
              have hn := heap_alloc_new wr (KO x)
              have m0 := heap_cell (j := 0) hn rfl
              have m2 := heap_cell (j := 2) hn rfl
              have m3 := heap_cell (j := 3) hn rfl
              have HA1 : Hid (Calls Tryd.prog 16 #[.int .u64 x.a, .slice (some ⟨w5.heap.size, 0, none⟩) N N] (wr.alloc (KO x)).drew fun e w' => e = .returned (.int .u64 (mvM N τ x.a)) ∧ w' = (wr.alloc (KO x)).drew) := movedL_any N _ τ x.a _ HDr.out hkx.a
              have HA2 : Hid (Calls Tryd.prog 16 #[.int .u64 x.b, .slice (some ⟨w5.heap.size, 0, none⟩) N N] (wr.alloc (KO x)).drew fun e w' => e = .returned (.int .u64 (mvM N τ x.b)) ∧ w' = (wr.alloc (KO x)).drew) := movedL_any N _ τ x.b _ HDr.out hkx.b
              obtain ⟨cj, hcj⟩ : ∃ cj : Int, cj = ((j % 3 : Nat) : Int) := ⟨_, rfl⟩
              have t3 : IntKind.u8.wrap ((j : Int) % 3) = cj := by rw [hcj]; show ((j : Int) % 3) % 256 = _; omega
              have t4 : IntKind.u8.wrap ((j : Int).tmod 3) = cj := by rw [Int.tmod_eq_emod_of_nonneg (by omega)]; exact t3
              obtain ⟨y, hy⟩ : ∃ y : Cl, y = ⟨x.k, cj, mvM N τ x.a, mvM N τ x.b⟩ := ⟨_, rfl⟩
              have hoa : othAt h τ j = y := by rw [hy, hcj]; unfold othAt; rw [hx, HNq.out]
              have s7 : wB.heap.size < wr.heap.size := DR.lt HE.out
              have HE1 : OthD (wr.alloc (KO x)) wB.heap.size h τ j := DR.kept HE.out (al.block _ s7)
              have HB1' : Below wB.heap.size wB (wr.alloc (KO x)) := HBr.out.trans (al.mono HBr.out.size)
              have hNq := HNq.out
              obtain ⟨u0, hu0, _⟩ := DR.cell HE1 (j := τ j * 4) (by omega)
              obtain ⟨u1, hu1, _⟩ := DR.cell HE1 (j := τ j * 4 + 1) (by omega)
              obtain ⟨u2, hu2, _⟩ := DR.cell HE1 (j := τ j * 4 + 1 + 1) (by omega)
              obtain ⟨u3, hu3, _⟩ := DR.cell HE1 (j := τ j * 4 + 1 + 1 + 1) (by omega)
              have f0 := DR.fz HE1 (τ j * 4)
              have f1 := DR.fz HE1 (τ j * 4 + 1)
              have f2 := DR.fz HE1 (τ j * 4 + 1 + 1)
              have f3 := DR.fz HE1 (τ j * 4 + 1 + 1 + 1)
              have sg := DR.lt HE1
              have sc := heap_lt hn
              have st := HDr.out.lt
              have ne1 : ¬ w5.heap.size = wB.heap.size := by omega
              have ne2 : ¬ wr.heap.size = wB.heap.size := by omega
              have HS8 := HE1.step (ρ := ρ) (by rw [← hNq]; exact hp) (by omega) hoa
              have HT8 := below_set4 wB.heap.size (τ j) y HB1' (Nat.le_refl _)
              subst hy
              have kj : (j : Int) < (N : Int) := by omega
              clear hcj hoa hx q1 q2 hkx gv hp hBw al hn HE1 HB1' hNq HE HBr
              generalize mvM N τ x.a = A at *
              generalize mvM N τ x.b = B at *
              have HS : Hid (OthD (((((wr.alloc (KO x)).setCell ⟨wB.heap.size, τ j * 4, none⟩ (.int .u8 x.k)).setCell ⟨wB.heap.size, τ j * 4 + 1, none⟩ (.int .u8 cj)).setCell ⟨wB.heap.size, τ j * 4 + 1 + 1, none⟩ (.int .u64 A)).setCell ⟨wB.heap.size, τ j * 4 + 1 + 1 + 1, none⟩ (.int .u64 B)) wB.heap.size h τ (j + 1)) := HS8
              have HT : Hid (Below wB.heap.size wB (((((wr.alloc (KO x)).setCell ⟨wB.heap.size, τ j * 4, none⟩ (.int .u8 x.k)).setCell ⟨wB.heap.size, τ j * 4 + 1, none⟩ (.int .u8 cj)).setCell ⟨wB.heap.size, τ j * 4 + 1 + 1, none⟩ (.int .u64 A)).setCell ⟨wB.heap.size, τ j * 4 + 1 + 1 + 1, none⟩ (.int .u64 B))) := HT8
              clear HS8 HT8
              go_upto_region 31 with fail
              generalize wr.alloc (KO x) = W1 at *
              go_wp2_with fail
              go_region_held3 (fun wx => wx.cell? ⟨w5.heap.size, j, none⟩ = some (.int .i64 (τ j : Nat)) ∧ wx.cell? ⟨wr.heap.size, 0, none⟩ = some (.int .u8 x.k) ∧ wx.cell? ⟨wr.heap.size, 2, none⟩ = some (.int .u64 x.a) ∧ wx.cell? ⟨wr.heap.size, 3, none⟩ = some (.int .u64 x.b)) (first | (go_keep; done) | exact ⟨(cell_far4 ne1).trans hut, (cell_far4 ne2).trans m0, (cell_far4 ne2).trans m2, (cell_far4 ne2).trans m3⟩)
                (first | (go_at_call_of 16 (Value.int IntKind.u64 x.a); refine HA1.out.mono ?_; rintro e w' ⟨rfl, rfl⟩) | (go_at_call_of 16 (Value.int IntKind.u64 x.b); refine HA2.out.mono ?_; rintro e w' ⟨rfl, rfl⟩))
              go_wp2
              go_roundw
              case rel => exact ⟨j + 1, by go_num, by omega, HS, HT.out.drew⟩
              case measure => simp [intOf]; omega
            · have k1 : ¬ (j : Int) < (h.length : Int) := by omega
              have hje : j = h.length := by omega
              subst hje
              have HE8 : Hid (OthD wr wB.heap.size h τ h.length) := HE
              have HB8 : Hid (Below wB.heap.size wB wr) := HBr
              clear HE HBr HE7 HB7 hlt hj
              obtain ⟨wC, rfl⟩ : ∃ wC, wC = wr := ⟨_, rfl⟩
              have sC : wB.heap.size < wC.heap.size := DR.lt HE8.out
              have hNq := HNq.out
              have hp := HP.out
              have hpn : τ h.length < N := hp.lt h.length (by omega)
              have kt : (τ h.length : Int) < (N : Int) := by omega
              have kh : (h.length : Int) < (N : Int) := by omega
              have HDr : Hid (DR wC 3 w5.heap.size N (fun k u => u = .int .i64 (τ k : Nat))) := HDt.out.kept (HB8.out.block _ sB)
              obtain ⟨ut, hut, rfl⟩ := HDr.out.cell (j := h.length) (by omega)
              obtain ⟨u0, hu0, _⟩ := DR.cell HE8.out (j := τ h.length * 4) (by omega)
              obtain ⟨u1, hu1, _⟩ := DR.cell HE8.out (j := τ h.length * 4 + 1) (by omega)
              obtain ⟨u2, hu2, _⟩ := DR.cell HE8.out (j := τ h.length * 4 + 1 + 1) (by omega)
              obtain ⟨u3, hu3, _⟩ := DR.cell HE8.out (j := τ h.length * 4 + 1 + 1 + 1) (by omega)
              have f0 := DR.fz HE8.out (τ h.length * 4)
              have f1 := DR.fz HE8.out (τ h.length * 4 + 1)
              have f2 := DR.fz HE8.out (τ h.length * 4 + 1 + 1)
              have f3 := DR.fz HE8.out (τ h.length * 4 + 1 + 1 + 1)
              have HR0 : Hid (∀ w, Calls Tryd.prog 18 #[.int .i64 0] w fun e w' => e = .returned (.int .u64 8) ∧ w' = w) := fun w => refRef_any 0 w
              obtain ⟨rn, hrn⟩ : ∃ rn : Int, rn = mkW 8 (h.length : Nat) := ⟨_, rfl⟩
              have HR1 : Hid (∀ w, Calls Tryd.prog 18 #[.int .i64 h.length] w fun e w' => e = .returned (.int .u64 rn) ∧ w' = w) := fun w => by rw [hrn]; exact refRef_any h.length w
              have HRn : Hid (rn = mkW 8 (h.length : Nat)) := hrn
              have ne1 : ¬ w5.heap.size = wB.heap.size := by omega
              clear hrn hNq hp
              have s5C : w5.heap.size < wC.heap.size := by omega
              go_wp2_with fail
              go_region_held3 (fun wx => wx.cell? ⟨w5.heap.size, h.length, none⟩ = some (.int .i64 (τ h.length : Nat))) (first | (go_keep; done) | exact (hb9.cell (p := ⟨w5.heap.size, h.length, none⟩) s5C).trans hut | exact (cell_far4 ne1).trans ((hb9.cell (p := ⟨w5.heap.size, h.length, none⟩) s5C).trans hut))
                (first | (go_at_call_of 18 (Value.int IntKind.i64 0); refine (HR0.out _).mono ?_; rintro e w' ⟨rfl, rfl⟩) | (go_at_call_of 18 (Value.int IntKind.i64 (h.length : Int)); refine (HR1.out _).mono ?_; rintro e w' ⟨rfl, rfl⟩) | (go_at_call_of 17 (Value.int IntKind.u64 rn); refine (pair_any 8 rn _).mono ?_; rintro e w9 ⟨rfl, hb9⟩; have v0 := (hb9.cell (p := ⟨wB.heap.size, τ h.length * 4, none⟩) sC).trans hu0; have v1 := (hb9.cell (p := ⟨wB.heap.size, τ h.length * 4 + 1, none⟩) sC).trans hu1; have v2 := (hb9.cell (p := ⟨wB.heap.size, τ h.length * 4 + 1 + 1, none⟩) sC).trans hu2; have v3 := (hb9.cell (p := ⟨wB.heap.size, τ h.length * 4 + 1 + 1 + 1, none⟩) sC).trans hu3; have hE9 : OthD w9 wB.heap.size h τ h.length := DR.kept HE8.out (hb9.block _ sC); have z0 := DR.fz hE9 (τ h.length * 4); have z1 := DR.fz hE9 (τ h.length * 4 + 1); have z2 := DR.fz hE9 (τ h.length * 4 + 1 + 1); have z3 := DR.fz hE9 (τ h.length * 4 + 1 + 1 + 1); have s9 := DR.lt hE9))
              have hpm := HP.out
              have hNq := HNq.out
              have hEd : OthD ((((w9.setCell ⟨wB.heap.size, τ h.length * 4, none⟩ (.int .u8 1)).setCell ⟨wB.heap.size, τ h.length * 4 + 1, none⟩ (.int .u8 0)).setCell ⟨wB.heap.size, τ h.length * 4 + 2, none⟩ (.int .u64 8)).setCell ⟨wB.heap.size, τ h.length * 4 + 3, none⟩ (.int .u64 rn)) wB.heap.size h τ (h.length + 1) := hE9.step (ρ := ρ) (x := ⟨1, 0, 8, rn⟩) (by rw [← hNq]; exact hpm) (by omega) (by unfold othAt; rw [List.getElem?_eq_none (Nat.le_refl _), HRn.out])
              have b9 : Below wB.heap.size wB w9 := HB8.out.drew.trans (hb9.mono HB8.out.size)
              have hBd : Below wB.heap.size wB ((((w9.setCell ⟨wB.heap.size, τ h.length * 4, none⟩ (.int .u8 1)).setCell ⟨wB.heap.size, τ h.length * 4 + 1, none⟩ (.int .u8 0)).setCell ⟨wB.heap.size, τ h.length * 4 + 2, none⟩ (.int .u64 8)).setCell ⟨wB.heap.size, τ h.length * 4 + 3, none⟩ (.int .u64 rn)) := below_set4 wB.heap.size (τ h.length) ⟨1, 0, 8, rn⟩ b9 (Nat.le_refl _)
              have hB5 : Below w5.heap.size w5 ((((w9.setCell ⟨wB.heap.size, τ h.length * 4, none⟩ (.int .u8 1)).setCell ⟨wB.heap.size, τ h.length * 4 + 1, none⟩ (.int .u8 0)).setCell ⟨wB.heap.size, τ h.length * 4 + 2, none⟩ (.int .u64 8)).setCell ⟨wB.heap.size, τ h.length * 4 + 3, none⟩ (.int .u64 rn)) := HBt.out.trans (hBd.mono (by omega))
              have HXd : Hid (HR ((((w9.setCell ⟨wB.heap.size, τ h.length * 4, none⟩ (.int .u8 1)).setCell ⟨wB.heap.size, τ h.length * 4 + 1, none⟩ (.int .u8 0)).setCell ⟨wB.heap.size, τ h.length * 4 + 2, none⟩ (.int .u64 8)).setCell ⟨wB.heap.size, τ h.length * 4 + 3, none⟩ (.int .u64 rn)) (some ⟨wB.heap.size, 0, none⟩) (othH h τ ρ)) := (OthD.hx (by rw [← hNq]; exact hpm) hEd).hr (oth_ok (hr_ok HG5.out.hh))
              have HDd : Hid (DR ((((w9.setCell ⟨wB.heap.size, τ h.length * 4, none⟩ (.int .u8 1)).setCell ⟨wB.heap.size, τ h.length * 4 + 1, none⟩ (.int .u8 0)).setCell ⟨wB.heap.size, τ h.length * 4 + 2, none⟩ (.int .u64 8)).setCell ⟨wB.heap.size, τ h.length * 4 + 3, none⟩ (.int .u64 rn)) 3 w5.heap.size N (fun k u => u = .int .i64 (τ k : Nat))) := HDt.out.kept (hBd.block _ sB)
              have HGd : Hid (Gv h l od at' ra rb rc ca cb cc w.heap.size ((((w9.setCell ⟨wB.heap.size, τ h.length * 4, none⟩ (.int .u8 1)).setCell ⟨wB.heap.size, τ h.length * 4 + 1, none⟩ (.int .u8 0)).setCell ⟨wB.heap.size, τ h.length * 4 + 2, none⟩ (.int .u64 8)).setCell ⟨wB.heap.size, τ h.length * 4 + 3, none⟩ (.int .u64 rn))) := HG5.out.below hB5
              have HYd : Hid (HR ((((w9.setCell ⟨wB.heap.size, τ h.length * 4, none⟩ (.int .u8 1)).setCell ⟨wB.heap.size, τ h.length * 4 + 1, none⟩ (.int .u8 0)).setCell ⟨wB.heap.size, τ h.length * 4 + 2, none⟩ (.int .u64 8)).setCell ⟨wB.heap.size, τ h.length * 4 + 3, none⟩ (.int .u64 rn)) (some ⟨g1, 0, none⟩) (fH h l) ∧ WR ((((w9.setCell ⟨wB.heap.size, τ h.length * 4, none⟩ (.int .u8 1)).setCell ⟨wB.heap.size, τ h.length * 4 + 1, none⟩ (.int .u8 0)).setCell ⟨wB.heap.size, τ h.length * 4 + 2, none⟩ (.int .u64 8)).setCell ⟨wB.heap.size, τ h.length * 4 + 3, none⟩ (.int .u64 rn)) (some ⟨g2, 0, none⟩) (fR h l)) := ⟨HX5.out.1.below hB5, HX5.out.2.below hB5⟩
              have HBD : Hid (Below w.heap.size w ((((w9.setCell ⟨wB.heap.size, τ h.length * 4, none⟩ (.int .u8 1)).setCell ⟨wB.heap.size, τ h.length * 4 + 1, none⟩ (.int .u8 0)).setCell ⟨wB.heap.size, τ h.length * 4 + 2, none⟩ (.int .u64 8)).setCell ⟨wB.heap.size, τ h.length * 4 + 3, none⟩ (.int .u64 rn))) := HB5.out.trans (hB5.mono HB5.out.size)
              clear hEd b9 hBd hB5 hb9 v0 v1 v2 v3 hE9 z0 z1 z2 z3 s9 f0 f1 f2 f3 hu0 hu1 hu2 hu3 hut hpm hNq HE8 HB8 HDr HR0 HR1
              clear HDt HBt HG5 HX5 HB5
              obtain ⟨wD, hwD⟩ : ∃ wD, wD = ((((w9.setCell ⟨wB.heap.size, τ h.length * 4, none⟩ (.int .u8 1)).setCell ⟨wB.heap.size, τ h.length * 4 + 1, none⟩ (.int .u8 0)).setCell ⟨wB.heap.size, τ h.length * 4 + 2, none⟩ (.int .u64 8)).setCell ⟨wB.heap.size, τ h.length * 4 + 3, none⟩ (.int .u64 rn)) := ⟨_, rfl⟩
              rw [← hwD] at HXd HDd HGd HYd HBD ⊢
              clear hwD
              obtain ⟨i2, hi2, hv0, hv1, hv2⟩ := info_parts infoW
              go_wp2
              go_loopw [23, 24] (fun v i wr => ∃ (j : Nat) (rs : Option Addr) (cs : Nat), v = .slice rs j cs ∧ i = .int .i64 j ∧ j ≤ l.length ∧ Hid (wr.ownsRow wD.heap.size 35 1 (.slice rs j cs) j (encU ((othR h τ l).take j))) ∧ Hid (Below wD.heap.size wD wr)) (fun _ i _ => l.length - (intOf i).toNat)
              case atStart => exact ⟨0, none, 0, rfl, rfl, Nat.zero_le _, ⟨by simp, .inl ⟨rfl, rfl⟩⟩, Below.refl _ _⟩
              case round =>
                obtain ⟨j, rs, cs, rfl, rfl, hj, HW, HBr⟩ := hrel
                by_cases hlt : j < l.length
                · have k1 : (j : Int) < (l.length : Int) := by omega
                  obtain ⟨x, hx⟩ : ∃ x, l[j]? = some x := ⟨_, List.getElem?_eq_getElem hlt⟩
                  obtain ⟨bl, ol, q1, q2⟩ := (HGd.out.below HBr.out).ll
                  obtain rfl : rb = some ⟨bl, ol, none⟩ := q1.resolve_left (by omega)
                  obtain ⟨l1, c1, hrg⟩ := q2 j x hx
                  have HM : Hid (Calls Tryd.prog 16 #[.int .u64 x, .slice (some ⟨w5.heap.size, 0, none⟩) N N] wr fun e w' => e = .returned (.int .u64 (mvM N τ x)) ∧ w' = wr) := movedL_any N _ τ x wr (HDd.out.kept (HBr.out.block _ HDd.out.lt)) hrg
                  have HT1 : Hid ((othR h τ l).take (j + 1) = (othR h τ l).take j ++ [mvM N τ x]) := by
                    show _ = _
                    rw [List.take_add_one]
                    unfold othR
                    rw [List.getElem?_map, hx, HNq.out]; rfl
                  have z3 := HBr.out.size
                  clear q1 q2 hx hrg
                  generalize mvM N τ x = m at *
                  go_wp2_with fail
                  refine Calls.mono HM.out ?_
                  rintro e wq ⟨rfl, hq⟩
                  rw [hq]
                  clear hq HM
                  go_wp2_with (at_builtin; refine stop_of ?_)
                  unfold Hid
                  refine wpList_append_lies _ rfl _ _ 24 rfl wD.heap.size 35 i2 (.int .u64 0) 1 8 Tryd.underlying24 hi2 hv0 hv1 hv2 rfl (by decide) (.slice rs j cs) j (encU ((othR h τ l).take j)) rfl (HW.out.alloc _) ⟨wr.heap.size, 0, none⟩ 1 1 [.int .u64 m] rfl rfl (fun j u hu => ?_) (fun u hu => ?_) (by omega) (by unfold maxLen; omega) (by omega) (by rw [World.size_alloc]; omega) _ rfl ?_
                  · rw [ad_add, Nat.zero_add]
                    exact new_cell _ #[.int .u64 m] _ j u hu
                  · simp at hu; subst hu; rfl
                  intro gn cn w10 hown hgr hat2 hlt2
                  have hal := al_below wr (.cells #[.int .u64 m] 35)
                  have nb : ∀ k, (Value.slice rs j cs).ownBlock = some k → wD.heap.size ≤ k := fun k hk => (HW.out.lt k hk).1
                  have b10 : Below wD.heap.size wr w10 := (hal.mono z3).trans (grown_low hgr (fun k hk => nb k (by rw [← hk])) (by rw [World.size_alloc]; omega))
                  have HB10 : Hid (Below wD.heap.size wD w10) := HBr.out.trans b10
                  have HW10 : Hid (w10.ownsRow wD.heap.size 35 1 (.slice (some ⟨gn, 0, none⟩) (j + 1) cn) (j + 1) (encU ((othR h τ l).take (j + 1)))) := by
                    show World.ownsRow ..
                    rw [HT1.out, show encU ((othR h τ l).take j ++ [m]) = encU ((othR h τ l).take j) ++ [.int .u64 m] from List.map_append ..]; exact hown
                  clear hown hgr hat2 hal nb b10 HBr HW HT1 z3
                  go_wp2
                  go_roundw
                  case rel => exact ⟨j + 1, some ⟨gn, 0, none⟩, cn, rfl, by go_num, by omega, HW10, HB10⟩
                  case measure => simp [intOf]; omega
                · have k1 : ¬ (j : Int) < (l.length : Int) := by omega
                  have hje : j = l.length := by omega
                  subst hje
                  have HWR : Hid (WR wr rs (othR h τ l)) := by
                    have h9 := HW.out
                    rw [List.take_of_length_le (by rw [othR_len]; omega)] at h9
                    refine wr_own h9 (othR_len ..) (fun z hz => ?_)
                    unfold othR at hz
                    obtain ⟨z', hz', rfl⟩ := List.mem_map.1 hz
                    exact mv_rng (wr_rng HGd.out.ll z' hz')
                  have HGe : Hid (Gv h l od at' ra rb rc ca cb cc w.heap.size wr) := HGd.out.below HBr.out
                  have HYe : Hid (HR wr (some ⟨g1, 0, none⟩) (fH h l) ∧ WR wr (some ⟨g2, 0, none⟩) (fR h l)) := ⟨HYd.out.1.below HBr.out, HYd.out.2.below HBr.out⟩
                  have HBe : Hid (Below w.heap.size w wr) := HBD.out.trans (HBr.out.mono HBD.out.size)
                  have HFo := oth_form h l (cs := cs) HNq.out HP.out h1 h2 HO.out (HXd.out.below HBr.out) HWR.out HGe.out.t
                  have HFh : Hid _ := HFo
                  clear HW HBr HWR HXd HDd HGd HYd HBD hlt hj HFo
                  obtain ⟨wE, rfl⟩ : ∃ wE, wE = wr := ⟨_, rfl⟩
                  go_wp2_with fail
                  refine Calls.mono HFh.out ?_
                  rintro e wF ⟨⟨g5, g6, rfl, hx, hy⟩, hb⟩
                  have HGf : Hid (Gv h l od at' ra rb rc ca cb cc w.heap.size wF) := HGe.out.below hb
                  have HYf : Hid (HR wF (some ⟨g1, 0, none⟩) (fH h l) ∧ WR wF (some ⟨g2, 0, none⟩) (fR h l)) := ⟨HYe.out.1.below hb, HYe.out.2.below hb⟩
                  have HPf : Hid (HR wF (some ⟨g5, 0, none⟩) (fH h l) ∧ WR wF (some ⟨g6, 0, none⟩) (fR h l)) := ⟨hx, hy⟩
                  have HBf : Hid (Below w.heap.size w wF) := HBe.out.trans (hb.mono HBe.out.size)
                  clear hb hx hy HGe HYe HBe HFh
                  go_wp2_with fail
                  refine Calls.mono (sameK_true (by omega) HPf.out.1.hx HYf.out.1.hx rfl) ?_
                  rintro e wG ⟨rfl, hb⟩
                  have HGg : Hid (Gv h l od at' ra rb rc ca cb cc w.heap.size wG) := HGf.out.below hb
                  have HYg : Hid (HR wG (some ⟨g1, 0, none⟩) (fH h l) ∧ WR wG (some ⟨g2, 0, none⟩) (fR h l)) := ⟨HYf.out.1.below hb, HYf.out.2.below hb⟩
                  have HPg : Hid (WR wG (some ⟨g6, 0, none⟩) (fR h l)) := HPf.out.2.below hb
                  have HBg : Hid (Below w.heap.size w wG) := HBf.out.trans (hb.mono HBf.out.size)
                  clear hb HGf HYf HPf HBf
                  go_wp2_with fail
                  refine Calls.mono (sameW_true (by omega) HPg.out HYg.out.2 rfl) ?_
                  rintro e wH ⟨rfl, hb⟩
                  have HGh : Hid (Gv h l od at' ra rb rc ca cb cc w.heap.size wH) := HGg.out.below hb
                  have HYh : Hid (HR wH (some ⟨g1, 0, none⟩) (fH h l)) := HYg.out.1.below hb
                  have HBh : Hid (Below w.heap.size w wH) := HBg.out.trans (hb.mono HBg.out.size)
                  clear hb HGg HYg HPg HBg
                  go_wp2_with fail
                  refine Calls.mono (order_ok2 h l ra rb ca cb wH HGh.out.hh HGh.out.ll HGh.out.t h1 h2 HO.out) ?_
                  rintro e wI ⟨⟨rv, cv, rfl, hr⟩, hb⟩
                  have HGi : Hid (Gv h l od at' ra rb rc ca cb cc w.heap.size wI) := HGh.out.below hb
                  have HYi : Hid (HR wI (some ⟨g1, 0, none⟩) (fH h l)) := HYh.out.below hb
                  have HBi : Hid (Below w.heap.size w wI) := HBh.out.trans (hb.mono HBh.out.size)
                  have HRi : Hid (RX (Value.int .i64) wI rv ((walkM h false l).map (fun p => (p.1 : Int)))) := hr
                  clear hb hr HGh HYh HBh
                  have HRo : Hid (OkS h.length (walkM h false l)) := walk_ok false HO.out
                  obtain ⟨R, hRq⟩ : ∃ R, R = walkM h false l := ⟨_, rfl⟩
                  have HRq : Hid (R = walkM h false l) := hRq
                  rw [← hRq] at HRi HRo hwl ⊢
                  clear hRq
                  by_cases hR0 : R.length = 0
                  · have k2 : ((R.length : Int) == 0) = true := by simp; exact List.length_eq_zero_iff.1 hR0
                    clear HRi
                    go_wp2
                    go_ret
                    exact ⟨rfl, HBi.out⟩
                  have k2 : ((R.length : Int) == 0) = false := by simp; exact fun e => hR0 (by rw [e]; rfl)
                  obtain ⟨k, hk, hpk⟩ := pick_fix at' R.length hat (by omega) (by omega)
                  have HPk : Hid (∀ w : World, Calls Tryd.prog 15 #[.int .i64 at', .int .i64 R.length] w fun e w' => e = .returned (.int .i64 k) ∧ w' = w) := hpk
                  obtain ⟨p, hp⟩ : ∃ p, R[k]? = some p := ⟨_, List.getElem?_eq_getElem hk⟩
                  have kk : (k : Int) < (R.length : Int) := by omega
                  obtain ⟨br, or', q1, q2⟩ := HRi.out
                  obtain rfl : rv = some ⟨br, or', none⟩ := q1.resolve_left (by rw [List.length_map]; exact hR0)
                  obtain ⟨lr, cr⟩ := q2 k (p.1 : Int) (by rw [List.getElem?_map, hp]; rfl)
                  have hpc : p.1 < h.length := HRo.out.lt p (List.mem_of_getElem? hp)
                  obtain ⟨x, hx⟩ : ∃ x, h[p.1]? = some x := ⟨_, List.getElem?_eq_getElem hpc⟩
                  obtain ⟨bh, oh, y1, y2⟩ := HGi.out.hh
                  obtain rfl : ra = some ⟨bh, oh, none⟩ := y1.resolve_left (by omega)
                  obtain ⟨lh, ⟨d0, d1, d2, d3⟩, hkx⟩ := y2 p.1 x hx
                  have kc : (p.1 : Int) < (h.length : Int) := by omega
                  have b3 := heap_cell (j := 3) HGi.out.b rfl
                  have lb := heap_lt HGi.out.b
                  have HXx : Hid (h[p.1]? = some x) := hx
                  have HPp : Hid (R[k]? = some p) := hp
                  clear q1 q2 y1 y2 hpk hp hx hkx
                  go_wp2_with fail
                  refine Calls.mono (HPk.out _) ?_
                  rintro e wq ⟨rfl, hq⟩
                  rw [hq]
                  clear hq HPk
                  by_cases hk0 : x.k = 0
                  · have k3 : (x.k == 0) = true := by simpa using hk0
                    clear hk0
                    go_wp2
                    go_ret
                    exact ⟨rfl, HBi.out⟩
                  have k3 : (x.k == 0) = false := by simpa using hk0
                  have Hk0 : Hid (x.k ≠ 0) := hk0
                  clear hk0
                  obtain ⟨i1, hi1, hy0, hy1, hy2⟩ := info_parts infoCl
                  go_wp2_with (at_builtin; refine stop_of ?_)
                  unfold Hid
                  refine wpList_append_lies _ rfl _ _ 23 rfl wI.heap.size 39 i1 (.agg #[.int .u8 0, .int .u8 0, .int .u64 0, .int .u64 0]) 4 24 Tryd.underlying23 hi1 hy0 hy1 hy2 rfl (by decide) (.slice none 0 0) 0 [] rfl ⟨by simp, .inl ⟨rfl, rfl⟩⟩ ⟨bh, oh, none⟩ h.length ca (clCells h) rfl (clCells_len h) (hr_all HGi.out.hh.hx) (clCells_one h) (by omega) (by unfold maxLen; omega) (by omega) (Nat.le_refl _) _ rfl ?_
                  intro gT cT wJ hown hgr hat2 hlt2
                  rw [Nat.zero_add] at hown ⊢
                  rw [List.nil_append] at hown
                  have bJ : Below wI.heap.size wI wJ := grown_low hgr (fun g hg => by cases hg) (Nat.le_refl _)
                  have hgT : wI.heap.size ≤ gT := (hown.lt gT rfl).1
                  have hT : OwnH wJ gT (cT * 4) h := own_h hown rfl
                  have lT := hT.1.lt
                  have c2 : wJ.cell? ⟨gT, p.1 * 4 + 1 + 1, none⟩ = some (.int .u64 x.a) := by
                    obtain ⟨bb, ob, e1, e2⟩ := hT.hx
                    have e4 : (some ⟨gT, 0, none⟩ : Option Addr) = some ⟨bb, ob, none⟩ := e1.resolve_left (by omega)
                    cases e4
                    have := (e2 p.1 x HXx.out).2.2.2.1
                    rwa [Nat.zero_add] at this
                  have z2 := hT.1.fz (p.1 * 4 + 1 + 1)
                  clear hown hgr hat2 hlt2 hi1 hy0 hy1 hy2 d0 d1 d2 d3 cr lr b3 lb
                  go_wp2_with fail
                  refine Calls.mono (refInt_any 7 wJ) ?_
                  rintro e wq ⟨rfl, hq⟩
                  rw [hq, show mkW 5 7 = 117 from by kernel_rfl]
                  clear hq
                  by_cases ha : x.a = 117
                  · have k4 : (x.a == 117) = true := by simpa using ha
                    have hne : x.a ≠ 133 := by omega
                    clear ha
                    go_wp2_with fail
                    refine Calls.mono (refInt_any 8 wJ) ?_
                    rintro e wq ⟨rfl, hq⟩
                    rw [hq, show mkW 5 8 = 133 from by kernel_rfl]
                    clear hq
                    have hturn := turn_ok (by rw [← HO.out]) HXx.out Hk0.out (v := 133) (by omega) hne (i := k) (q := p.2) (by rw [← HRq.out]; exact HPp.out)
                    have hTn := hT.turn HXx.out 133
                    have bT : Below wI.heap.size wI (wJ.setCell ⟨gT, p.1 * 4 + 1 + 1, none⟩ (.int .u64 133)) := bJ.setCell (p := ⟨gT, p.1 * 4 + 1 + 1, none⟩) hgT _
                    have HFo := turn_form h l (c := p.1) (x := x) (v := 133) (n := h.length) (cs := cT) (cb := cb) h1 h2 hturn.1 (hTn.hx.hr (turn_k (hr_ok HGi.out.hh) HXx.out (int_no (by omega)).2.2)) (HGi.out.ll.below bT) (HGi.out.t.below bT) rfl
                    have hlen : (fH (h.set p.1 ⟨x.k, x.c, 133, x.b⟩) l).length ≤ 1000001 := by
                      rw [fH_len]
                      have := (walk_ok false hturn.1).len
                      rw [List.length_set] at this; omega
                    have Hne : Hid (fH (h.set p.1 ⟨x.k, x.c, 133, x.b⟩) l ≠ fH h l) := hturn.2
                    generalize h.set p.1 ⟨x.k, x.c, 133, x.b⟩ = ht at *
                    have HFh : Hid _ := HFo
                    have HYt : Hid (HR (wJ.setCell ⟨gT, p.1 * 4 + 1 + 1, none⟩ (.int .u64 133)) (some ⟨g1, 0, none⟩) (fH h l)) := HYi.out.below bT
                    have HBt : Hid (Below w.heap.size w (wJ.setCell ⟨gT, p.1 * 4 + 1 + 1, none⟩ (.int .u64 133))) := HBi.out.trans (bT.mono HBi.out.size)
                    clear hturn hTn bT HFo
                    go_wp2_with fail
                    refine Calls.mono HFh.out ?_
                    rintro e wK ⟨⟨g7, g8, rfl, hx, hy⟩, hb⟩
                    have HYk : Hid (HR wK (some ⟨g1, 0, none⟩) (fH h l)) := HYt.out.below hb
                    have HXk : Hid (HR wK (some ⟨g7, 0, none⟩) (fH ht l)) := hx
                    have HBk : Hid (Below w.heap.size w wK) := HBt.out.trans (hb.mono HBt.out.size)
                    clear hx hy hb HFh HYt HBt
                    go_wp2_with fail
                    refine Calls.mono (sameK_false hlen (by omega) HXk.out.hx HYk.out.hx Hne.out) ?_
                    rintro e wL ⟨rfl, hb⟩
                    have HBl : Hid (Below w.heap.size w wL) := HBk.out.trans (hb.mono HBk.out.size)
                    clear hb HYk HXk HBk
                    go_wp2
                    go_ret
                    exact ⟨rfl, HBl.out⟩
                  · have k4 : (x.a == 117) = false := by simpa using ha
                    have hne : x.a ≠ 117 := ha
                    clear ha
                    have hturn := turn_ok (by rw [← HO.out]) HXx.out Hk0.out (v := 117) (by omega) hne (i := k) (q := p.2) (by rw [← HRq.out]; exact HPp.out)
                    have hTn := hT.turn HXx.out 117
                    have bT : Below wI.heap.size wI (wJ.setCell ⟨gT, p.1 * 4 + 1 + 1, none⟩ (.int .u64 117)) := bJ.setCell (p := ⟨gT, p.1 * 4 + 1 + 1, none⟩) hgT _
                    have HFo := turn_form h l (c := p.1) (x := x) (v := 117) (n := h.length) (cs := cT) (cb := cb) h1 h2 hturn.1 (hTn.hx.hr (turn_k (hr_ok HGi.out.hh) HXx.out (int_no (by omega)).2.2)) (HGi.out.ll.below bT) (HGi.out.t.below bT) rfl
                    have hlen : (fH (h.set p.1 ⟨x.k, x.c, 117, x.b⟩) l).length ≤ 1000001 := by
                      rw [fH_len]
                      have := (walk_ok false hturn.1).len
                      rw [List.length_set] at this; omega
                    have Hne : Hid (fH (h.set p.1 ⟨x.k, x.c, 117, x.b⟩) l ≠ fH h l) := hturn.2
                    generalize h.set p.1 ⟨x.k, x.c, 117, x.b⟩ = ht at *
                    have HFh : Hid _ := HFo
                    have HYt : Hid (HR (wJ.setCell ⟨gT, p.1 * 4 + 1 + 1, none⟩ (.int .u64 117)) (some ⟨g1, 0, none⟩) (fH h l)) := HYi.out.below bT
                    have HBt : Hid (Below w.heap.size w (wJ.setCell ⟨gT, p.1 * 4 + 1 + 1, none⟩ (.int .u64 117))) := HBi.out.trans (bT.mono HBi.out.size)
                    clear hturn hTn bT HFo
                    go_wp2_with fail
                    refine Calls.mono HFh.out ?_
                    rintro e wK ⟨⟨g7, g8, rfl, hx, hy⟩, hb⟩
                    have HYk : Hid (HR wK (some ⟨g1, 0, none⟩) (fH h l)) := HYt.out.below hb
                    have HXk : Hid (HR wK (some ⟨g7, 0, none⟩) (fH ht l)) := hx
                    have HBk : Hid (Below w.heap.size w wK) := HBt.out.trans (hb.mono HBt.out.size)
                    clear hx hy hb HFh HYt HBt
                    go_wp2_with fail
                    refine Calls.mono (sameK_false hlen (by omega) HXk.out.hx HYk.out.hx Hne.out) ?_
                    rintro e wL ⟨rfl, hb⟩
                    have HBl : Hid (Below w.heap.size w wL) := HBk.out.trans (hb.mono HBk.out.size)
                    clear hb HYk HXk HBk
                    go_wp2
                    go_ret
                    exact ⟨rfl, HBl.out⟩
end Go.Proofs.YteekfahpbnbalaaDoor
