/- GraphReaches, walked. -/
import Derived.Test.YtdcmkifljcdmmaaGreatDoorHHLaw0
namespace Go.Proofs.YtdcmkifljcdmmaaGreatDoor
open Go.RowKit

set_option maxRecDepth 100000 in
set_option maxHeartbeats 16000000 in
theorem graphReaches_walk (H : List Cl) (R : List Int) (ra rb : Option Addr) (ca cb : Nat) (w : World) (hH : HR w ra H) (hR : WR w rb R) (hT : Tab w) (hl : H.length ≤ 281474976710656) (hr : R.length ≤ 281474976710656) :
    Calls Tryz.prog 3 #[.slice ra H.length ca, .slice rb R.length cb] w fun e w' => e = .returned (.bool true) ∧ Below w.heap.size w w' := by
  by_cases hbig : 100000 < H.length + R.length
  · have z1 : decide ((H.length : Int) + (R.length : Int) > 100000) = true := decide_eq_true (by omega)
    clear hbig hH hR hT
    go_enter Tryz.func3, Tryz.ntmps3
    go_wp2
    go_ret
    exact ⟨rfl, Below.refl _ _⟩
  · have z1 : decide ((H.length : Int) + (R.length : Int) > 100000) = false := decide_eq_false (by omega)
    have hl2 : H.length ≤ 1000000 := by omega
    have hr2 : R.length ≤ 1000000 := by omega
    have HH : Hid (HR w ra H) := hH
    have HR' : Hid (WR w rb R) := hR
    have HT : Hid (Tab w) := hT
    have HOk : Hid (∀ x ∈ H, OkK x) := hH.ok
    have HRg : Hid (∀ x ∈ R, Rng x) := hR.ok
    clear hbig hH hR hT hl hr
    go_enter Tryz.func3, Tryz.ntmps3
    go_wp2_with fail
    refine Calls.mono (known_any w HT.out) ?_
    rintro e w1 ⟨rfl, hb1⟩
    have HB1 : Hid (Below w.heap.size w w1) := hb1
    clear hb1 z1
    have HC1 : Hid _ := lentK_any H ra ca w1 (HH.out.below HB1.out) (by omega)
    go_wp2_with fail
    refine Calls.mono HC1.out ?_
    rintro e w2 ⟨⟨g, rfl, hown2⟩, hb2⟩
    have HL2 : Hid (LentW w2 w.heap.size g H) := own_mono hown2 HB1.out.size
    have HB2 : Hid (Below w.heap.size w w2) := HB1.out.trans (hb2.mono HB1.out.size)
    clear hb2 hown2 HC1 HB1
    have HC2 : Hid _ := lentV_any R rb cb w2 (HR'.out.below HB2.out).rx hr2
    go_wp2_with fail
    refine Calls.mono HC2.out ?_
    rintro e w3 ⟨⟨gr, rfl, hown3⟩, hb3⟩
    have HV3 : Hid (LenV w3 w.heap.size gr R) := own_mono hown3 HB2.out.size
    have HL3 : Hid (LentW w3 w.heap.size g H) := own_same HL2.out (fun k hk => hb3.block k (HL2.out.lt k hk).2)
    have HB3 : Hid (Below w.heap.size w w3) := HB2.out.trans (hb3.mono HB2.out.size)
    clear hb3 hown3 HC2 HB2 HL2
    go_upto_region 7 with fail
    have HX3 : Hid (GX w (w3.alloc (.cells #[.slice none 0 0, .slice none 0 0, .slice none 0 0, .slice none 0 0, .slice none 0 0, .slice none 0 0, .slice none 0 0, .slice none 0 0, .slice none 0 0, .slice none 0 0, .slice none 0 0, .slice none 0 0, .slice none 0 0, .slice none 0 0, .slice none 0 0, .slice none 0 0, .slice none 0 0] 46)) g gr w3.heap.size H R (fun _ => nilV) (fun _ => 0) (fun _ _ => nilV)) := gx_new HL3.out HV3.out HB3.out HOk.out ((Below.refl _ w3).alloc (Nat.le_refl _) _) (heap_alloc_new w3 _)
    clear HL3 HV3 HB3
    generalize w3.alloc (.cells #[.slice none 0 0, .slice none 0 0, .slice none 0 0, .slice none 0 0, .slice none 0 0, .slice none 0 0, .slice none 0 0, .slice none 0 0, .slice none 0 0, .slice none 0 0, .slice none 0 0, .slice none 0 0, .slice none 0 0, .slice none 0 0, .slice none 0 0, .slice none 0 0, .slice none 0 0] 46) = W4 at *
    generalize w3.heap.size = b at *
    go_wp2_with fail
    go_loopw [9, 10] (fun i _ wr => ∃ (k : Nat) (c : Nat → Value) (N : Nat → Nat) (V : Nat → Nat → Value), i = .int .i64 k ∧ k ≤ 2 ∧ Hid (GX w wr g gr b H R c N V ∧ ∀ j, N j ≤ k)) (fun i _ _ => 2 - (intOf i).toNat)
    case atStart => exact ⟨0, _, _, _, rfl, Nat.zero_le _, HX3.out, fun _ => Nat.le_refl _⟩
    case round =>
      clear HX3
      obtain ⟨k, c, N, V, rfl, hk, HX⟩ := hrel
      have HSt : Hid (∀ W', SmK (BkF b c N V Fo) wr W' → HR W' ra H ∧ WR W' rb R ∧ Tab W') := fun W' hk => by
        obtain ⟨h1, h2⟩ := HX.out.1.stays hk
        exact ⟨hr_same HH.out h1 h2, wr_same HR'.out h1 h2, fun t ht => by
          have e : ∀ o, W'.cell? ⟨0, o, none⟩ = w.cell? ⟨0, o, none⟩ := fun o => by simp only [World.cell?, h2 _ HT.out.lt]
          rw [e, e]; exact HT.out t ht⟩
      have HSr : Hid (SmK (BkF b c N V Fo) wr wr) := ⟨Nat.le_refl _, fun _ _ _ => rfl⟩
      by_cases hk2 : k < 2
      · have k1 : (k : Int) < 2 := by omega
        have HC : Hid _ := reaches_any H R (some ⟨g, 0, none⟩) (some ⟨gr, 0, none⟩) ra rb (H.length + 2) (R.length + 2) ca cb b c N V wr (HSt.out _ HSr.out).2.2 hl2 hr2 HX.out.1.bk (fun j => by have := HX.out.2 j; omega) HX.out.1.hrk (HX.out.1.wrk HRg.out) (fun W' h => (HSt.out W' h).1) (fun W' h => (HSt.out W' h).2.1)
        clear HSt HSr
        go_wp2_with fail
        refine Calls.mono HC.out ?_
        rintro e w5 ⟨rfl, hre⟩
        obtain ⟨c', N', V', h5, h6⟩ := HX.out.1.re hre
        have HX5 : Hid (GX w w5 g gr b H R c' N' V' ∧ ∀ j, N' j ≤ k + 1) := ⟨h5, fun j => by have := h6 j; have := HX.out.2 j; omega⟩
        clear h5 h6 hre HC HX
        go_wp2
        go_roundw
        case rel => exact ⟨k + 1, c', N', V', by go_num, by omega, HX5⟩
        case measure => simp [intOf]; omega
      · have k1 : ¬ (k : Int) < 2 := by omega
        have HWh : Hid _ := wholeK_any H g w.heap.size ra ca wr hl2 HX.out.1.lent HX.out.1.ok (HSt.out _ HSr.out).1.hx
        go_wp2_with fail
        refine Calls.mono HWh.out ?_
        rintro e w5 ⟨rfl, hb5⟩
        have HX5 : Hid (GX w w5 g gr b H R c N V) := HX.out.1.below hb5
        have HWv : Hid _ := wholeV_any R gr w.heap.size rb cb w5 hr2 HX5.out.wds (HSt.out w5 (SmK.of hb5)).2.1.rx
        clear hb5 HWh
        go_wp2_with fail
        refine Calls.mono HWv.out ?_
        rintro e w6 ⟨rfl, hb6⟩
        have HX6 : Hid (GX w w6 g gr b H R c N V) := HX5.out.below hb6
        have HNk : Hid (∀ j, N j ≤ 2) := fun j => by have := HX.out.2 j; omega
        clear hb6 HWv HX5 HX HSt HSr k1 hk hk2
        go_wp2_with fail
        go_loopw [12] (fun i wr => ∃ (j : Nat) (H' : List Cl), i = .int .i64 j ∧ j ≤ H.length ∧ Hid (GX w wr g gr b H' R c N V ∧ H'.length = H.length)) (fun i _ => H.length - (intOf i).toNat)
        case atStart => exact ⟨0, H, rfl, Nat.zero_le _, HX6.out, rfl⟩
        case round =>
          clear HX6
          obtain ⟨j, H', rfl, hj, HX⟩ := hrel
          by_cases hjl : j < H.length
          · have j1 : (j : Int) < (H.length : Int) := by omega
            obtain ⟨x, hx⟩ : ∃ x, H'[j]? = some x := ⟨_, List.getElem?_eq_getElem (by rw [HX.out.2]; exact hjl)⟩
            have hjH := (List.getElem?_eq_some_iff.1 hx).1
            obtain ⟨_, _, qa, qb⟩ := clCells_at H' j x hx
            have ca' := own_cell HX.out.1.lent (k := j * 4 + 1 + 1) (by rw [List.getElem?_append_left (by rw [clCells_len]; omega)]; exact qa)
            have cb' := own_cell HX.out.1.lent (k := j * 4 + 1 + 1 + 1) (by rw [List.getElem?_append_left (by rw [clCells_len]; omega)]; exact qb)
            have lg : g < wr.heap.size := (HX.out.1.lent.lt g rfl).2
            obtain ⟨cs, hG, _⟩ := lent_at HX.out.1.lent
            have fza : wr.frozen? ⟨g, j * 4 + 1 + 1, none⟩ = false := by simp [World.frozen?, hG]
            have fzb : wr.frozen? ⟨g, j * 4 + 1 + 1 + 1, none⟩ = false := by simp [World.frozen?, hG]
            have HX2 : Hid _ := HX.out.1.swap hx
            have HLn : Hid ((H'.set j ⟨x.k, x.c, x.b, x.a⟩).length = H.length) := by show _ = _; rw [List.length_set]; exact HX.out.2
            clear hx qa qb hG HX hjH
            go_upto_region 17 with fail
            go_region
            go_wp2_with fail
            go_roundw
            case rel => exact ⟨j + 1, _, by go_num, by omega, HX2.out.below ((Below.refl _ _).drew), HLn.out⟩
            case measure => simp [intOf]; omega
          · have j1 : ¬ (j : Int) < (H.length : Int) := by omega
            have HSt : Hid (Tab wr) := fun t ht => by
              have e : ∀ o, wr.cell? ⟨0, o, none⟩ = w.cell? ⟨0, o, none⟩ := fun o => by simp only [World.cell?, HX.out.1.bel.block _ HT.out.lt]
              rw [e, e]; exact HT.out t ht
            have HC : Hid (Calls Tryz.prog 8 #[.slice (some ⟨g, 0, none⟩) H.length (H.length + 2), .slice (some ⟨gr, 0, none⟩) R.length (R.length + 2), .slice (some ⟨g, 0, none⟩) H.length (H.length + 2), .slice (some ⟨gr, 0, none⟩) R.length (R.length + 2), .pointer (some ⟨b, 0, none⟩)] wr fun e w' => e = .returned (.bool true) ∧ ReR wr w' b c N V) := by
              have := reaches_any H' R (some ⟨g, 0, none⟩) (some ⟨gr, 0, none⟩) (some ⟨g, 0, none⟩) (some ⟨gr, 0, none⟩) (H.length + 2) (R.length + 2) (H.length + 2) (R.length + 2) b c N V wr HSt.out (by rw [HX.out.2]; exact hl2) hr2 HX.out.1.bk (fun j => by have := HNk.out j; omega) HX.out.1.hrk (HX.out.1.wrk HRg.out) HX.out.1.hrk (HX.out.1.wrk HRg.out)
              rwa [HX.out.2] at this
            clear HSt
            go_wp2_with fail
            refine Calls.mono HC.out ?_
            rintro e w7 ⟨rfl, hre⟩
            obtain ⟨c', N', V', h7, h8⟩ := HX.out.1.re hre
            have HX7 : Hid (GX w w7 g gr b H' R c' N' V') := h7
            have HN7 : Hid (∀ j, N' j ≤ 1000) := fun j => by have := h8 j; have := HNk.out j; omega
            have HD7 : Hid (DR w7 55 g ((H.length + 2) * 4) (fun _ _ => True)) := by
              obtain ⟨cs, q1, q2, _⟩ := own_out h7.lent
              exact ⟨cs, q1, by rw [q2, HX.out.2], fun _ _ _ => trivial⟩
            have HDv : Hid (DR w7 53 gr (R.length + 2) (fun _ _ => True)) := (lenV_at h7.wds).2.2.2.2
            clear h7 h8 hre HC HX
            go_wp2_with fail
            refine Calls.mono (spoilK_any H.length g w7 hl2 HD7.out) ?_
            rintro e w8 ⟨rfl, hf8⟩
            have hne : gr ≠ g := by
              obtain ⟨cs, q1, _⟩ := HDv.out
              obtain ⟨ds, q2, _⟩ := HD7.out
              exact ty_ne q1 q2 (by decide)
            have HD8 : Hid (DR w8 53 gr (R.length + 2) (fun _ _ => True)) := HDv.out.kept (hf8.2 gr hne HDv.out.lt)
            have HK8 : Hid (Bk w8 b c' N' V' Fo ∧ Below w.heap.size w w8) := HX7.out.spoilt (.inl rfl) hf8
            have HG8 : Hid (¬ BkF b c' N' V' Fo gr ∧ w.heap.size ≤ gr ∧ ∀ k, BkF b c' N' V' Fo k → w.heap.size ≤ k) := ⟨HX7.out.fr, (HX7.out.wds.lt gr rfl).1, HX7.out.low⟩
            clear hf8 hne HD7 HDv HX7
            go_wp2_with fail
            refine Calls.mono (spoilV_any R.length gr w8 hr2 HD8.out) ?_
            rintro e w9 ⟨rfl, hf9⟩
            have HK9 : Hid (Bk w9 b c' N' V' Fo ∧ Below w.heap.size w w9) := ⟨HK8.out.1.kept (fun j hj => hf9.2 j (fun e => HG8.out.1 (by rw [← e]; exact hj)) (HK8.out.1.lt j hj)), HK8.out.2.trans ⟨hf9.1.os, hf9.1.tape, hf9.1.output, hf9.1.size, fun j hj => hf9.2 j (fun e => by have := HG8.out.2.1; have e' : j = gr := e; omega) (Nat.lt_of_lt_of_le hj HK8.out.2.size)⟩⟩
            clear hf9 HD8 HK8
            have HOw : Hid _ := bookOwn_any (fun k => k < w.heap.size) b c' N' V' w9 HN7.out (fun k hk => Nat.lt_of_lt_of_le hk HK9.out.2.size) HK9.out.1 (fun k hk j hj q hq hlt => by have := HG8.out.2.2 q (.inr ⟨k, hk, .inr ⟨j, hj, hq⟩⟩); omega)
            go_wp2_with fail
            refine Calls.mono HOw.out ?_
            rintro e w10 ⟨rfl, hf10⟩
            have HBe : Hid (Below w.heap.size w w10) := HK9.out.2.trans (hf10.below HK9.out.2.size)
            clear hf10 HOw HK9 HG8
            go_wp2
            go_ret
            exact ⟨rfl, HBe.out⟩
end Go.Proofs.YtdcmkifljcdmmaaGreatDoor
