/- The walk of ReadTails. -/
import Derived.Test.YtinpjpcokjfinaaDoorHTailCat
import Derived.Deep.DeepCutAuto
import Derived.Deep.RegionWith
namespace Go.Proofs.YtinpjpcokjfinaaDoor
open Go.RowKit

set_option maxRecDepth 100000 in
set_option maxHeartbeats 16000000 in
theorem tails_main (k n : Int) (t : List UInt8) (s : Fo) (d : Bool) (rr : Fo) (ra : Option Addr) (ca : Nat) (fm : Fo) (rb : Option Addr) (cb : Nat) (w : World) (hm : (Fo.cons k n t s d rr).len ≤ maxLen) (hst : (Fo.cons k n t s d rr).st) (hR : RS w ra (.cons k n t s d rr)) (hm2 : fm.len ≤ maxLen) (hst2 : fm.st) (hR2 : RS w rb fm) (hE : EV w) (hT : TB w)
   (hmu1 : muchB (.cons k n t s d rr) = false) (hmu2 : muchB fm = false) (he1 : (writeOf (.cons k n t s d rr)).2 = 0) (he2 : (writeOf fm).2 = 0) (hlen : (textA (.cons k n t s d rr)).length + (textA fm).length ≤ 60000) :
    Calls Tryd.prog 6 #[.slice ra (rr.len + 1) ca, .slice rb fm.len cb] w fun e w' => e = .returned (.bool true) ∧ Below w.heap.size w w' := by
  have HE : Hid (EV w) := hE
  have HT : Hid (TB w) := hT
  have HR : Hid (RS w ra (.cons k n t s d rr)) := hR
  have HR2 : Hid (RS w rb fm) := hR2
  have HS : Hid ((Fo.cons k n t s d rr).st) := hst
  have HS2 : Hid (fm.st) := hst2
  have Hmu1 : Hid _ := hmu1
  have Hmu2 : Hid _ := hmu2
  obtain ⟨hsz, htx⟩ := much_fits hmu1
  obtain ⟨hsz2, htx2⟩ := much_fits hmu2
  have Htx : Hid _ := htx
  have Htx2 : Hid _ := htx2
  obtain ⟨hw1, hd1⟩ := write_ok he1
  obtain ⟨hw2, hd2⟩ := write_ok he2
  have Hw1 : Hid _ := hw1
  have Hw2 : Hid _ := hw2
  obtain ⟨F1, e1, p1, h1e, h1c⟩ := told3_cases (tails1 hd1 hd2 (by simp) hlen)
  obtain ⟨F2, e2, p2, h2e, h2c⟩ := told3_cases (tails2 hd1 hd2 (by simp) hlen)
  obtain ⟨F3, e3, p3, h3e, h3c⟩ := told3_cases (tails3 hd1 (by omega))
  obtain ⟨A, hA⟩ : ∃ A, textA (.cons k n t s d rr) = A := ⟨_, rfl⟩
  obtain ⟨B, hB⟩ : ∃ B, textA fm = B := ⟨_, rfl⟩
  rw [hA] at h1e h2e h3e hlen
  rw [hB] at h1e h2e hlen
  have HA : Hid _ := hA
  have HB : Hid _ := hB
  have hl1 : (40 :: (A ++ (32 :: 46 :: 32 :: 40 :: (B ++ [41, 41])))).length ≤ 281474976710656 := by simp only [List.length_cons, List.length_append, List.length_nil]; omega
  have hl2 : (40 :: (A ++ (10 :: (B ++ [41])))).length ≤ 281474976710656 := by simp only [List.length_cons, List.length_append, List.length_nil]; omega
  have hl3 : (39 :: A).length ≤ 281474976710656 := by simp only [List.length_cons]; omega
  have Hl1 : Hid _ := hl1
  have Hl2 : Hid _ := hl2
  have Hl3 : Hid _ := hl3
  have Ht1 : Hid _ := h1e
  have Ht2 : Hid _ := h2e
  have Ht3 : Hid _ := h3e
  have Hc1 : Hid ((e1 = 0 ∧ F1 = .cons 5 0 [] ((Fo.cons k n t s d rr).app fm) false .nil) ∨ ((e1 = 61 ∨ e1 = 62) ∧ F1 = .nil)) := h1c
  have Hc2 : Hid ((e2 = 0 ∧ F2 = .cons 5 0 [] ((Fo.cons k n t s d rr).app fm) false .nil) ∨ ((e2 = 61 ∨ e2 = 62) ∧ F2 = .nil)) := h2c
  have Hc3 : Hid ((e3 = 0 ∧ F3 = .cons 5 0 [] (.cons 2 0 quoteB .nil false (.cons k n t s d .nil)) false rr) ∨ ((e3 = 61 ∨ e3 = 62) ∧ F3 = .nil)) := h3c
  have hmx : Tryd.prog.follows .mixedOrders = true := by kernel_rfl
  obtain ⟨sa, hsa⟩ : ∃ sa : ByteArray, (⟨A.toArray⟩ : ByteArray) = sa := ⟨_, rfl⟩
  obtain ⟨sb, hsb⟩ : ∃ sb : ByteArray, (⟨B.toArray⟩ : ByteArray) = sb := ⟨_, rfl⟩
  have sas : sa.size = A.length := by rw [← hsa]; show A.toArray.size = _; simp
  have sbs : sb.size = B.length := by rw [← hsb]; show B.toArray.size = _; simp
  have HSa : Hid _ := hsa
  have HSb : Hid _ := hsb
  have hla : (sa.size : Int) ≤ 60000 := by omega
  have hlb : (sb.size : Int) ≤ 60000 := by omega
  have hdec : decide ((60000 : Int) < (sa.size : Int) + (sb.size : Int)) = false := decide_eq_false (by omega)
  have hrl : (rr.len : Int) + 1 ≤ 9223372036854775807 := by unfold maxLen at hm; simp only [Fo.len] at hm; omega
  have hr0 : ((rr.len : Int) + 1 == 0) = false := by rw [beq_eq_false_iff_ne]; omega
  clear sas sbs hsa hsb hlen h1e h2e h3e hl1 hl2 hl3 h1c h2c h3c hE hT hR hR2 hst hst2 hmu1 hmu2 htx htx2 hw1 hw2 hd1 hd2 he1 he2 hA hB
  go_enter Tryd.func6, Tryd.ntmps6
  go_wp2_with fail
  refine (works_any w HE.out HT.out).mono ?_
  rintro e w1 ⟨rfl, hb1⟩
  have H1 : Hid (Below w.heap.size w w1) := hb1
  clear hb1
  go_wp2_with fail
  refine (much_any ra ca (.cons k n t s d rr) w1 hm HS.out (HR.out.below H1.out)).mono ?_
  rw [Hmu1.out]
  rintro e w2 ⟨rfl, hb2⟩
  have H2 : Hid (Below w.heap.size w w2) := H1.out.trans (hb2.mono H1.out.size)
  clear hb2 H1
  go_wp2_with fail
  refine (much_any rb cb fm w2 hm2 HS2.out (HR2.out.below H2.out)).mono ?_
  rw [Hmu2.out]
  rintro e w3 ⟨rfl, hb3⟩
  have H3 : Hid (Below w.heap.size w w3) := H2.out.trans (hb3.mono H2.out.size)
  clear hb3 H2
  go_wp2_with fail
  have hc4 := write_fn ra ca (.cons k n t s d rr) w3 hm (by omega) Htx.out (HR.out.below H3.out) (HE.out.below H3.out HE.out.lt) (HT.out.below H3.out)
  rw [Hw1.out, HA.out] at hc4
  dsimp only at hc4
  rw [HSa.out] at hc4
  refine Calls.mono hc4 ?_
  rintro e w4 ⟨rfl, hb4⟩
  have H4 : Hid (Below w.heap.size w w4) := H3.out.trans (hb4.mono H3.out.size)
  clear hb4 H3 hc4
  clear hr0 hrl
  go_wp2_with fail
  have hc5 := write_fn rb cb fm w4 hm2 (by omega) Htx2.out (HR2.out.below H4.out) (HE.out.below H4.out HE.out.lt) (HT.out.below H4.out)
  rw [Hw2.out, HB.out] at hc5
  dsimp only at hc5
  rw [HSb.out] at hc5
  refine Calls.mono hc5 ?_
  rintro e w5 ⟨rfl, hb5⟩
  have H5 : Hid (Below w.heap.size w w5) := H4.out.trans (hb5.mono H4.out.size)
  clear hb5 H4 hc5
  go_wp2_with fail
  rw [← HSa.out, ← HSb.out, cat1, HSa.out, HSb.out]
  refine (read_is Ht1.out Hl1.out w5 (HE.out.below H5.out HE.out.lt)).mono ?_
  rintro x w6 ⟨hb6, r6, c6, rfl, hR6, hm6⟩
  have H6 : Hid (Below w.heap.size w w6) := H5.out.trans (hb6.mono H5.out.size)
  have HR6 : Hid (RS w6 r6 F1) := hR6
  clear hb6 hR6 H5
  go_wp2_with fail
  rw [← HSa.out, ← HSb.out, cat2, HSa.out, HSb.out]
  refine (read_is Ht2.out Hl2.out w6 (HE.out.below H6.out HE.out.lt)).mono ?_
  rintro x w7 ⟨hb7, r7, c7, rfl, hR7, hm7⟩
  have H7 : Hid (Below w.heap.size w w7) := H6.out.trans (hb7.mono H6.out.size)
  have HR67 : Hid (RS w7 r6 F1) := HR6.out.below hb7
  have HR7 : Hid (RS w7 r7 F2) := hR7
  clear hb7 hR7 H6 HR6
  go_upto_region 11 with fail
  go_cut [89] (fun v wx => ∃ bb : Bool, v = .bool bb ∧ wx = w7 ∧ Hid (bb = (e1 == 0 && e2 == 0)))
  case first =>
    cases h1 : (e1 == 0) with
    | false =>
      go_wp2_with fail
      go_meet
      exact ⟨false, rfl, rfl, by show _ = _; simp [h1]⟩
    | true =>
      cases h2 : (e2 == 0) with
      | false =>
        go_wp2_with fail
        go_meet
        exact ⟨false, rfl, rfl, by show _ = _; simp [h2]⟩
      | true =>
        go_wp2_with fail
        go_meet
        exact ⟨true, rfl, rfl, by show _ = _; simp [h1, h2]⟩
  case rest =>
    obtain ⟨bb, rfl, rfl, Hbb⟩ := hcut
    go_upto_if 89 with fail
    go_cut [17] (fun v wx => Hid (Below w.heap.size w wx))
    case first =>
      cases bb with
      | true =>
        have h12 := Hbb.out
        simp only [Bool.true_eq, Bool.and_eq_true, beq_iff_eq] at h12
        obtain ⟨h1, h2⟩ := h12
        have hF1 : F1 = .cons 5 0 [] ((Fo.cons k n t s d rr).app fm) false .nil := by
          rcases Hc1.out with ⟨_, h⟩ | ⟨h, _⟩
          · exact h
          · omega
        have hF2 : F2 = .cons 5 0 [] ((Fo.cons k n t s d rr).app fm) false .nil := by
          rcases Hc2.out with ⟨_, h⟩ | ⟨h, _⟩
          · exact h
          · omega
        have Hs : Hid (F1.same F2 = true) := by show _ = _; rw [hF1, hF2]; exact (Fo.same_iff _ _).2 rfl
        clear h1 h2 hF1 hF2
        go_wp2_with fail
        refine (sameData_any F1 F2 r6 c6 r7 c7 wc hm6 hm7 HR67.out HR7.out).mono ?_
        rw [Hs.out]
        rintro e wx ⟨rfl, hbx⟩
        have Hx : Hid (Below w.heap.size w wx) := H7.out.trans (hbx.mono H7.out.size)
        clear hbx HR67 HR7 H7
        go_wp2_with fail
        go_meet
        exact Hx
      | false =>
        go_wp2_with fail
        go_meet
        exact H7
    case rest =>
      have Hx := hcut
      clear hcut HR67 HR7 H7
      go_upto_region 15 with fail
      go_cut [108] (fun v wx => v = .bool false ∧ Hid (Below w.heap.size w wx))
      case first =>
        rcases Hc2.out with ⟨rfl, rfl⟩ | ⟨h2c, rfl⟩
        · rcases Hc1.out with ⟨rfl, rfl⟩ | ⟨rfl | rfl, rfl⟩
          · go_wp2_with fail
            go_meet
            exact ⟨rfl, Hx⟩
          · go_wp2_with fail
            go_meet
            exact ⟨rfl, Hx⟩
          · go_wp2_with fail
            go_meet
            exact ⟨rfl, Hx⟩
        · have b2 : (e2 == 0) = false := by rw [beq_eq_false_iff_ne]; omega
          clear h2c
          go_wp2_with fail
          go_meet
          exact ⟨rfl, Hx⟩
      case rest =>
        obtain ⟨rfl, Hy⟩ := hcut
        clear Hx
        go_wp2_with fail
        rw [← HSa.out, cat3, HSa.out]
        refine (read_is Ht3.out Hl3.out _ (HE.out.below Hy.out HE.out.lt)).mono ?_
        rintro x w8 ⟨hb8, r8, c8, rfl, hR8, hm8⟩
        have H8 : Hid (Below w.heap.size w w8) := Hy.out.trans (hb8.mono Hy.out.size)
        have HR8 : Hid (RS w8 r8 F3) := hR8
        clear hb8 hR8
        rcases Hc3.out with ⟨rfl, rfl⟩ | ⟨h3c, rfl⟩
        · rw [show (Fo.cons 5 0 [] (.cons 2 0 quoteB .nil false (.cons k n t s d .nil)) false rr).len = rr.len + 1 from rfl]
          obtain ⟨bz, oz, hzz, ⟨z0, z1, z2, z3, z4, z5⟩, ⟨rkz, ckz, bkz, okz, zk, zz, zs⟩, _⟩ := HR8.out
          have hrz := hzz.resolve_left (by simp [Fo.len])
          subst hrz
          have HRz : Hid (RS w8 rkz (.cons 2 0 quoteB .nil false (.cons k n t s d .nil))) := ⟨bkz, okz, zz, zs⟩
          obtain ⟨b, o, hab, ⟨g0, g1, g2, g3, g4, g5⟩, ⟨rk, ck, bk, ok, gk, gz, gs⟩, _⟩ := HR.out
          have hra := hab.resolve_left (by simp [Fo.len])
          subst hra
          have HRk : Hid (RS w rk s) := ⟨bk, ok, gz, gs⟩
          have ec : ∀ o, w8.cell? ⟨b, o, none⟩ = w.cell? ⟨b, o, none⟩ := fun o => H8.out.cell (p := ⟨b, o, none⟩) g0
          have x1 := (ec _).trans g1
          have x2 := (ec _).trans g2
          have x3 := (ec _).trans g3
          have x4 := (ec _).trans g4
          have xk := (ec _).trans gk
          have b8 : b < w8.heap.size := Nat.lt_of_lt_of_le g0 H8.out.size
          have Hz : Hid ((w8.cell? ⟨bz, oz, none⟩ = some (.int .u8 5) ∧ w8.cell? ⟨bz, oz + 1, none⟩ = some (.int .i64 0) ∧ w8.cell? ⟨bz, oz + 1 + 1, none⟩ = some (S []) ∧ w8.cell? ⟨bz, oz + 1 + 1 + 1, none⟩ = some (.slice rkz 2 ckz) ∧ w8.cell? ⟨bz, oz + 1 + 1 + 1 + 1, none⟩ = some (.bool false)) ∧ bz < w8.heap.size) := ⟨⟨z1, z2, z3, zk, z4⟩, z0⟩
          have hzl := z5
          clear ec g1 g2 g3 g4 gk gz gs hab hzz z0 z1 z2 z3 z4 z5 zk zz zs
          have e8 : ¬ w8.heap.size = b := by omega
          have b8' : b < w8.heap.size + 1 := by omega
          go_upto_region 20 with fail
          go_cut [21] (fun q wx => Hid (Quot k n t s d w8 q wx))
          case first =>
            first
            | go_region_with (first
                | (go_at_call 14; refine (lsym_any [113, 117, 111, 116, 101] _).mono ?_; rintro e w9 ⟨rfl, hb9⟩; obtain ⟨⟨k0, k1, k2, k3, k4⟩, kl⟩ := keep1 (b := b) (o := o) (v0 := some (.int .u8 k)) (v1 := some (.int .i64 n)) (v2 := some (S t)) (v3 := some (.slice rk s.len ck)) (v4 := some (.bool d)) hb9 (by go_keep); have e9 : ¬ w9.heap.size = b := fun e => Nat.lt_irrefl b (e ▸ kl); first | (have q9 := (hb9.block w8.heap.size (lt0 _ _)).trans (World.alloc_heap_new w8 _)) | skip)
                | (go_at_call 13; refine (llist_any _ _ _ _).mono ?_; rintro e w10 ⟨rfl, hb10⟩
                   first
                   | (have q10 := (hb10.block (w9.heap.size + 1) (lt2 w9 _ _)).trans (zeroAt1 w9 _ _); obtain ⟨y0, y1, y2, y3, y4, yf⟩ := cells5 q10; have yl := (Array.getElem?_eq_some_iff.1 q10).1)
                   | (have q10 := (hb10.block w9.heap.size (lt1 w9 _ _)).trans (zeroAt0 w9 _ _); obtain ⟨y0, y1, y2, y3, y4, yf⟩ := cells5 q10; have yl := (Array.getElem?_eq_some_iff.1 q10).1)
                   | (have q10 := (hb10.block w8.heap.size (lt3 (Array.getElem?_eq_some_iff.1 q9).1 _)).trans ((Below.heap_alloc _ _ _ (Array.getElem?_eq_some_iff.1 q9).1).trans q9); obtain ⟨y0, y1, y2, y3, y4, yf⟩ := cells5 q10; have yl := (Array.getElem?_eq_some_iff.1 q10).1)
                   | skip))
            | fail
            all_goals go_wp2_with fail
            all_goals go_meet
            all_goals first | with_reducible exact quot_A H8.out HRk.out g5 hb9 hb10 | with_reducible exact quot_B H8.out HRk.out g5 hb9 hb10 | with_reducible exact quot_C H8.out HRk.out g5 hb9 hb10 | with_reducible exact quot_D H8.out HRk.out g5 hb9 hb10
          case rest =>
            obtain ⟨g, rq, rfl, HG, HRq, HB8⟩ := hcut.out
            obtain ⟨y0, y1, y2, y3, y4, _⟩ := cells5 HG.out
            have gl : g < wc.heap.size := (Array.getElem?_eq_some_iff.1 HG.out).1
            obtain ⟨⟨v0, v1, v2, v3, v4⟩, bl⟩ := keep1 HB8.out Hz.out
            have Hsm : Hid (sameB 5 0 [] (.cons 2 0 quoteB .nil false (.cons k n t s d .nil)) false 5 0 [] (.cons 2 0 quoteB .nil false (.cons k n t s d .nil)) false = true) := by show _ = _; simp [sameB, Fo.same_iff]
            have HRz2 : Hid (RS wc rkz (.cons 2 0 quoteB .nil false (.cons k n t s d .nil))) := HRz.out.below HB8.out
            have HBw : Hid (Below w.heap.size w wc) := H8.out.trans (HB8.out.mono H8.out.size)
            clear x1 x2 x3 x4 xk e8 b8' hcut HB8
            go_wp2_with fail
            first
            | go_region_held3 (fun wx => ((wx.cell? ⟨g, 0, none⟩ = some (.int .u8 5) ∧ wx.cell? ⟨g, 1, none⟩ = some (.int .i64 0) ∧ wx.cell? ⟨g, 2, none⟩ = some (S []) ∧ wx.cell? ⟨g, 3, none⟩ = some (.slice rq 2 2) ∧ wx.cell? ⟨g, 4, none⟩ = some (.bool false)) ∧ g < wx.heap.size) ∧ (wx.cell? ⟨bz, oz, none⟩ = some (.int .u8 5) ∧ wx.cell? ⟨bz, oz + 1, none⟩ = some (.int .i64 0) ∧ wx.cell? ⟨bz, oz + 1 + 1, none⟩ = some (S []) ∧ wx.cell? ⟨bz, oz + 1 + 1 + 1, none⟩ = some (.slice rkz 2 ckz) ∧ wx.cell? ⟨bz, oz + 1 + 1 + 1 + 1, none⟩ = some (.bool false)) ∧ bz < wx.heap.size) (first | go_keep | exact keepQ hb11 (by go_keep))
                (first | (go_at_call 15; refine (same_any 5 0 [] (.cons 2 0 quoteB .nil false (.cons k n t s d .nil)) false rkz ckz 5 0 [] (.cons 2 0 quoteB .nil false (.cons k n t s d .nil)) false rq 2 _ hzl hzl (HRz2.out.below (Below.refl _ _).drew) (HRq.out.below (Below.refl _ _).drew)).mono ?_; rintro e w11 ⟨rfl, hb11⟩))
            | fail
            rw [Hsm.out]
            have H11 : Hid (Below w.heap.size w w11) := HBw.out.trans (((Below.refl _ wc).drew.trans hb11).mono HBw.out.size)
            clear hb11
            go_wp2
            go_ret
            exact ⟨rfl, H11.out⟩
        · rcases h3c with rfl | rfl
          · go_wp2
            go_ret
            exact ⟨rfl, H8.out⟩
          · go_wp2
            go_ret
            exact ⟨rfl, H8.out⟩
end Go.Proofs.YtinpjpcokjfinaaDoor
