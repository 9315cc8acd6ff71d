/- The walk of ReadBack. -/
import Derived.Test.YtinpjpcokjfinaaDoorHReadings
namespace Go.Proofs.YtinpjpcokjfinaaDoor
open Go.RowKit

set_option maxRecDepth 100000 in
set_option maxHeartbeats 4000000 in
theorem readBack_walk (l : List UInt8) (hl : l.length ≤ 9223372036854775807) (ra : Option Addr) (ca : Nat) (f : Fo) (w : World) (hm : f.len ≤ maxLen) (hst : f.st) (hR : RS w ra f) (hE : EV w) (hT : TB w) :
    Calls Tryd.prog 4 #[.string ⟨l.toArray⟩, .slice ra f.len ca] w fun e w' => e = .returned (.bool true) ∧ Below w.heap.size w w' := by
  have HE : Hid (EV w) := hE
  have HT : Hid (TB w) := hT
  have HR : Hid (RS w ra f) := hR
  have HS : Hid (f.st) := hst
  clear hE hT hR hst
  go_enter Tryd.func4, Tryd.ntmps4
  go_wp2_with fail
  refine (works_any w HE.out HT.out).mono ?_
  rintro e w1 ⟨rfl, hb1⟩
  have H1 : Hid (Below w.heap.size w w1) := hb1
  clear hb1
  go_wp2_with fail
  refine (much_any ra ca f w1 hm HS.out (HR.out.below H1.out)).mono ?_
  rintro e w2 ⟨rfl, hb2⟩
  have H2 : Hid (Below w.heap.size w w2) := H1.out.trans (hb2.mono H1.out.size)
  clear hb2 H1
  cases hmu : muchB f
  · by_cases hlong : 200000 < l.length
    · have hlong' : (200000 : Int) < (l.length : Int) := by omega
      clear hmu
      go_wp2
      go_ret
      exact ⟨rfl, H2.out⟩
    · have hlong' : ¬ (200000 : Int) < (l.length : Int) := by omega
      have hs2 : l.length ≤ 281474976710656 := by omega
      obtain ⟨hsz, htx⟩ := much_fits hmu
      have Htx : Hid (f.tx) := htx
      clear hmu hlong htx
      go_wp2_with fail
      refine (write_fn ra ca f w2 hm (by omega) Htx.out (HR.out.below H2.out) (HE.out.below H2.out HE.out.lt) (HT.out.below H2.out)).mono ?_
      rintro e w3 ⟨rfl, hb3⟩
      have H3 : Hid (Below w.heap.size w w3) := H2.out.trans (hb3.mono H2.out.size)
      clear hb3
      by_cases he : (writeOf f).2 = 0
      · have hw : writeOf f = (linesT (textsT f), 0) ∧ chk f = 0 ∧ (linesT (textsT f)).length ≤ 65536 := by
          unfold writeOf at he ⊢
          by_cases h1 : chk f ≠ 0
          · rw [if_pos h1] at he; exact absurd he h1
          · rw [if_neg h1] at he ⊢
            by_cases h2 : 65536 < (linesT (textsT f)).length
            · rw [if_pos h2] at he; exact absurd he (by decide)
            · rw [if_neg h2]; exact ⟨rfl, by simpa using h1, by omega⟩
        have hwr := write_read hw.2.1 hw.2.2
        rw [hw.1]
        obtain ⟨u, hu⟩ : ∃ u, linesT (textsT f) = u := ⟨_, rfl⟩
        have hul : u.length ≤ 281474976710656 := by rw [← hu]; have := hw.2.2; omega
        rw [hu] at hwr ⊢
        have Hwr : Hid (readOf u = (f, 0, 0)) := hwr
        clear hw hu he hwr
        go_wp2_with fail
        refine (read_rs u hul w3 (HE.out.below H3.out HE.out.lt)).mono ?_
        rw [Hwr.out]
        rintro e w4 ⟨hb4, r4, c4, rfl, hR4, hm4⟩
        have H4 : Hid (Below w.heap.size w w4) := H3.out.trans (hb4.mono H3.out.size)
        have HR4 : Hid (RS w4 r4 f) := hR4
        clear hb4 hR4
        go_wp2_with fail
        refine (sameData_any f f r4 c4 ra ca w4 hm4 hm HR4.out (HR.out.below H4.out)).mono ?_
        rw [(Fo.same_iff f f).2 rfl]
        rintro e wx ⟨rfl, hbx⟩
        have Hx : Hid (Below w.heap.size w wx) := H4.out.trans (hbx.mono H4.out.size)
        clear hbx HR4
        go_wp2_with fail
        refine (read_rs l hs2 wx (HE.out.below Hx.out HE.out.lt)).mono ?_
        rintro e w5 ⟨hb5, r5, c5, rfl, hR5, hm5⟩
        have H5 : Hid (Below w.heap.size w w5) := Hx.out.trans (hb5.mono Hx.out.size)
        have HR5 : Hid (RS w5 r5 (readOf l).1) := hR5
        clear hb5 hR5
        by_cases hg : (readOf l).2.1 = 0
        · have Hg : Hid _ := hg
          rw [hg]
          clear hg
          go_wp2_with fail
          refine (write_back l Hg.out r5 c5 w5 hm5 HR5.out (HE.out.below H5.out HE.out.lt) (HT.out.below H5.out)).mono ?_
          rintro e w6 ⟨he6, hb6⟩
          have H6 : Hid (Below w5.heap.size w5 w6) := hb6
          have H6' : Hid (Below w.heap.size w w6) := H5.out.trans (hb6.mono H5.out.size)
          clear hb6
          by_cases hlong : 65536 < (linesT (textsT (readOf l).1)).length
          · rw [if_pos hlong] at he6
            subst he6
            clear hlong
            go_wp2
            go_ret
            exact ⟨rfl, H6'.out⟩
          · rw [if_neg hlong] at he6
            subst he6
            have hwr := write_read (read_chk Hg.out) (by omega)
            obtain ⟨u, hu⟩ : ∃ u, linesT (textsT (readOf l).1) = u := ⟨_, rfl⟩
            obtain ⟨f5, hf5⟩ : ∃ f5, (readOf l).1 = f5 := ⟨_, rfl⟩
            rw [hu] at hlong hwr ⊢
            rw [hf5] at hwr hm5 HR5 ⊢
            have hu' : linesT (textsT f5) = u := by rw [← hf5]; exact hu
            have Hu : Hid _ := hu'
            have Hwr : Hid (readOf u = (f5, 0, 0)) := hwr
            have hul : u.length ≤ 281474976710656 := by omega
            have Hnl : Hid (¬ 65536 < u.length) := hlong
            clear hu hu' hf5 hwr hlong
            go_wp2_with fail
            refine (read_rs u hul w6 (HE.out.below H6'.out HE.out.lt)).mono ?_
            rw [Hwr.out]
            rintro e w7 ⟨hb7, r7, c7, rfl, hR7, hm7⟩
            have H7 : Hid (Below w6.heap.size w6 w7) := hb7
            have H7' : Hid (Below w.heap.size w w7) := H6'.out.trans (hb7.mono H6'.out.size)
            have HR7 : Hid (RS w7 r7 f5) := hR7
            clear hb7 hR7
            go_wp2_with fail
            have h8 := write_back u (by rw [Hwr.out]) r7 c7 w7 (by rw [Hwr.out]; exact hm7) (by rw [Hwr.out]; exact HR7.out) (HE.out.below H7'.out HE.out.lt) (HT.out.below H7'.out)
            rw [Hwr.out] at h8
            dsimp only at h8
            rw [Hu.out] at h8
            refine Calls.mono h8 ?_
            rintro e w8 ⟨he8, hb8⟩
            rw [if_neg Hnl.out] at he8
            subst he8
            have H8 : Hid (Below w7.heap.size w7 w8) := hb8
            have H8' : Hid (Below w.heap.size w w8) := H7'.out.trans (hb8.mono H7'.out.size)
            clear hb8 h8
            go_wp2_with fail
            refine (sameData_any f5 f5 r7 c7 r5 c5 w8 hm7 hm5 (HR7.out.below H8.out) (((HR5.out.below H6.out).below H7.out).below H8.out)).mono ?_
            rw [(Fo.same_iff f5 f5).2 rfl]
            rintro e w9 ⟨rfl, hb9⟩
            have H9 : Hid (Below w.heap.size w w9) := H8'.out.trans (hb9.mono H8'.out.size)
            clear hb9
            go_wp2
            go_ret
            exact ⟨by simp, H9.out⟩
        · have h0 := readOf_err hg
          have bg : ((readOf l).2.1 == 0) = false := beq_eq_false_iff_ne.2 hg
          rw [h0]
          obtain ⟨g, hgg⟩ : ∃ g, (readOf l).2.1 = g := ⟨_, rfl⟩
          rw [hgg] at bg ⊢
          clear hg h0 hgg HR5 hm5
          go_wp2
          go_ret
          exact ⟨rfl, H5.out⟩
      · have be : ((writeOf f).2 == 0) = false := beq_eq_false_iff_ne.2 he
        obtain ⟨q, hq⟩ : ∃ q, (writeOf f).2 = q := ⟨_, rfl⟩
        rw [hq] at be ⊢
        clear he hq
        go_wp2_with fail
        refine (read_rs l hs2 w3 (HE.out.below H3.out HE.out.lt)).mono ?_
        rintro e w5 ⟨hb5, r5, c5, rfl, hR5, hm5⟩
        have H5 : Hid (Below w.heap.size w w5) := H3.out.trans (hb5.mono H3.out.size)
        have HR5 : Hid (RS w5 r5 (readOf l).1) := hR5
        clear hb5 hR5
        by_cases hg : (readOf l).2.1 = 0
        · have Hg : Hid _ := hg
          rw [hg]
          clear hg
          go_wp2_with fail
          refine (write_back l Hg.out r5 c5 w5 hm5 HR5.out (HE.out.below H5.out HE.out.lt) (HT.out.below H5.out)).mono ?_
          rintro e w6 ⟨he6, hb6⟩
          have H6 : Hid (Below w5.heap.size w5 w6) := hb6
          have H6' : Hid (Below w.heap.size w w6) := H5.out.trans (hb6.mono H5.out.size)
          clear hb6
          by_cases hlong : 65536 < (linesT (textsT (readOf l).1)).length
          · rw [if_pos hlong] at he6
            subst he6
            clear hlong
            go_wp2
            go_ret
            exact ⟨rfl, H6'.out⟩
          · rw [if_neg hlong] at he6
            subst he6
            have hwr := write_read (read_chk Hg.out) (by omega)
            obtain ⟨u, hu⟩ : ∃ u, linesT (textsT (readOf l).1) = u := ⟨_, rfl⟩
            obtain ⟨f5, hf5⟩ : ∃ f5, (readOf l).1 = f5 := ⟨_, rfl⟩
            rw [hu] at hlong hwr ⊢
            rw [hf5] at hwr hm5 HR5 ⊢
            have hu' : linesT (textsT f5) = u := by rw [← hf5]; exact hu
            have Hu : Hid _ := hu'
            have Hwr : Hid (readOf u = (f5, 0, 0)) := hwr
            have hul : u.length ≤ 281474976710656 := by omega
            have Hnl : Hid (¬ 65536 < u.length) := hlong
            clear hu hu' hf5 hwr hlong
            go_wp2_with fail
            refine (read_rs u hul w6 (HE.out.below H6'.out HE.out.lt)).mono ?_
            rw [Hwr.out]
            rintro e w7 ⟨hb7, r7, c7, rfl, hR7, hm7⟩
            have H7 : Hid (Below w6.heap.size w6 w7) := hb7
            have H7' : Hid (Below w.heap.size w w7) := H6'.out.trans (hb7.mono H6'.out.size)
            have HR7 : Hid (RS w7 r7 f5) := hR7
            clear hb7 hR7
            go_wp2_with fail
            have h8 := write_back u (by rw [Hwr.out]) r7 c7 w7 (by rw [Hwr.out]; exact hm7) (by rw [Hwr.out]; exact HR7.out) (HE.out.below H7'.out HE.out.lt) (HT.out.below H7'.out)
            rw [Hwr.out] at h8
            dsimp only at h8
            rw [Hu.out] at h8
            refine Calls.mono h8 ?_
            rintro e w8 ⟨he8, hb8⟩
            rw [if_neg Hnl.out] at he8
            subst he8
            have H8 : Hid (Below w7.heap.size w7 w8) := hb8
            have H8' : Hid (Below w.heap.size w w8) := H7'.out.trans (hb8.mono H7'.out.size)
            clear hb8 h8
            go_wp2_with fail
            refine (sameData_any f5 f5 r7 c7 r5 c5 w8 hm7 hm5 (HR7.out.below H8.out) (((HR5.out.below H6.out).below H7.out).below H8.out)).mono ?_
            rw [(Fo.same_iff f5 f5).2 rfl]
            rintro e w9 ⟨rfl, hb9⟩
            have H9 : Hid (Below w.heap.size w w9) := H8'.out.trans (hb9.mono H8'.out.size)
            clear hb9
            go_wp2
            go_ret
            exact ⟨by simp, H9.out⟩
        · have h0 := readOf_err hg
          have bg : ((readOf l).2.1 == 0) = false := beq_eq_false_iff_ne.2 hg
          rw [h0]
          obtain ⟨g, hgg⟩ : ∃ g, (readOf l).2.1 = g := ⟨_, rfl⟩
          rw [hgg] at bg ⊢
          clear hg h0 hgg HR5 hm5
          go_wp2
          go_ret
          exact ⟨rfl, H5.out⟩
  · clear hmu
    go_wp2
    go_ret
    exact ⟨rfl, H2.out⟩
end Go.Proofs.YtinpjpcokjfinaaDoor
