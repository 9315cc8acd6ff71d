/- ReadTails, at all inputs. -/
import Derived.Test.YtinpjpcokjfinaaDoorHTailWalk
namespace Go.Proofs.YtinpjpcokjfinaaDoor
open Go.RowKit

set_option maxRecDepth 100000 in
set_option maxHeartbeats 4000000 in
theorem tails_much1 (ra : Option Addr) (ca : Nat) (fl : Fo) (rb : Option Addr) (cb n : Nat) (w : World) (hm : fl.len ≤ maxLen) (hst : fl.st) (hR : RS w ra fl) (hE : EV w) (hT : TB w) (hmu : muchB fl = true) :
    Calls Tryd.prog 6 #[.slice ra fl.len ca, .slice rb n cb] w fun e w' => e = .returned (.bool true) ∧ Below w.heap.size w w' := by
  have HE : Hid (EV w) := hE
  have HT : Hid (TB w) := hT
  have HR : Hid (RS w ra fl) := hR
  have HS : Hid (fl.st) := hst
  have Hmu : Hid _ := hmu
  clear hE hT hR hst hmu
  go_enter Tryd.func6, Tryd.ntmps6
  go_wp2_with fail
  refine (works_any w HE.out HT.out).mono ?_
  rintro e w1 ⟨rfl, hb1⟩
  have H1 : Hid (Below w.heap.size w w1) := hb1
  clear hb1
  go_wp2_with fail
  refine (much_any ra ca fl w1 hm HS.out (HR.out.below H1.out)).mono ?_
  rw [Hmu.out]
  rintro e w2 ⟨rfl, hb2⟩
  have H2 : Hid (Below w.heap.size w w2) := H1.out.trans (hb2.mono H1.out.size)
  clear hb2 H1
  go_wp2
  go_ret
  exact ⟨rfl, H2.out⟩

set_option maxRecDepth 100000 in
set_option maxHeartbeats 4000000 in
theorem tails_much2 (ra : Option Addr) (ca : Nat) (fl : Fo) (rb : Option Addr) (cb : Nat) (fm : Fo) (w : World) (hm : fl.len ≤ maxLen) (hst : fl.st) (hR : RS w ra fl) (hm2 : fm.len ≤ maxLen) (hst2 : fm.st) (hR2 : RS w rb fm) (hE : EV w) (hT : TB w) (hmu : muchB fl = false) (hmu2 : muchB fm = true ∨ (muchB fm = false ∧ fl.len = 0)) :
    Calls Tryd.prog 6 #[.slice ra fl.len ca, .slice rb fm.len cb] w fun e w' => e = .returned (.bool true) ∧ Below w.heap.size w w' := by
  have HE : Hid (EV w) := hE
  have HT : Hid (TB w) := hT
  have HR : Hid (RS w ra fl) := hR
  have HR2 : Hid (RS w rb fm) := hR2
  have HS : Hid (fl.st) := hst
  have HS2 : Hid (fm.st) := hst2
  have Hmu : Hid _ := hmu
  have Hmu2 : Hid _ := hmu2
  clear hE hT hR hst hmu hR2 hst2 hmu2
  go_enter Tryd.func6, Tryd.ntmps6
  go_wp2_with fail
  refine (works_any w HE.out HT.out).mono ?_
  rintro e w1 ⟨rfl, hb1⟩
  have H1 : Hid (Below w.heap.size w w1) := hb1
  clear hb1
  go_wp2_with fail
  refine (much_any ra ca fl w1 hm HS.out (HR.out.below H1.out)).mono ?_
  rw [Hmu.out]
  rintro e w2 ⟨rfl, hb2⟩
  have H2 : Hid (Below w.heap.size w w2) := H1.out.trans (hb2.mono H1.out.size)
  clear hb2 H1
  go_wp2_with fail
  refine (much_any rb cb fm w2 hm2 HS2.out (HR2.out.below H2.out)).mono ?_
  rintro e w3 ⟨rfl, hb3⟩
  have H3 : Hid (Below w.heap.size w w3) := H2.out.trans (hb3.mono H2.out.size)
  clear hb3 H2
  rcases Hmu2.out with h | ⟨h, h0⟩
  · rw [h]
    clear h
    go_wp2
    go_ret
    exact ⟨rfl, H3.out⟩
  · rw [h]
    have h0' : ((fl.len : Int) == 0) = true := by rw [beq_iff_eq]; omega
    clear h h0
    go_wp2
    go_ret
    exact ⟨rfl, H3.out⟩

set_option maxRecDepth 100000 in
set_option maxHeartbeats 4000000 in
theorem tails_not (ra : Option Addr) (ca : Nat) (fl : Fo) (rb : Option Addr) (cb : Nat) (fm : Fo) (w : World) (hm : fl.len ≤ maxLen) (hst : fl.st) (hR : RS w ra fl) (hm2 : fm.len ≤ maxLen) (hst2 : fm.st) (hR2 : RS w rb fm) (hE : EV w) (hT : TB w) (hmu : muchB fl = false) (hmu2 : muchB fm = false) (hl0 : fl.len ≠ 0)
    (hno : (writeOf fl).2 ≠ 0 ∨ ((writeOf fl).2 = 0 ∧ (writeOf fm).2 ≠ 0) ∨ ((writeOf fl).2 = 0 ∧ (writeOf fm).2 = 0 ∧ 60000 < (writeOf fl).1.length + (writeOf fm).1.length)) :
    Calls Tryd.prog 6 #[.slice ra fl.len ca, .slice rb fm.len cb] w fun e w' => e = .returned (.bool true) ∧ Below w.heap.size w w' := by
  have HE : Hid (EV w) := hE
  have HT : Hid (TB w) := hT
  have HR : Hid (RS w ra fl) := hR
  have HR2 : Hid (RS w rb fm) := hR2
  have HS : Hid (fl.st) := hst
  have HS2 : Hid (fm.st) := hst2
  have Hmu : Hid _ := hmu
  have Hmu2 : Hid _ := hmu2
  obtain ⟨hsz, htx⟩ := much_fits hmu
  obtain ⟨hsz2, htx2⟩ := much_fits hmu2
  have Htx : Hid (fl.tx) := htx
  have Htx2 : Hid (fm.tx) := htx2
  have hla : (writeOf fl).1.length ≤ 400000 := by
    by_cases h : (writeOf fl).2 = 0
    · obtain ⟨h1, h2⟩ := write_ok h
      obtain ⟨_, _, h3⟩ := chk_zero.1 (show chk fl = 0 by
        unfold writeOf at h
        by_cases h1 : chk fl ≠ 0
        · rw [if_pos h1] at h; exact absurd h h1
        · simpa using h1)
      rw [h1]
      exact Nat.le_trans (lines_len _) (Nat.le_trans (sum3_texts fl h2) (by omega))
    · unfold writeOf at h ⊢
      split
      · simp
      · split
        · simp
        · rename_i h1 h2; rw [if_neg h1, if_neg h2] at h; exact absurd rfl h
  have hlb : (writeOf fm).1.length ≤ 400000 := by
    by_cases h : (writeOf fm).2 = 0
    · obtain ⟨h1, h2⟩ := write_ok h
      obtain ⟨_, _, h3⟩ := chk_zero.1 (show chk fm = 0 by
        unfold writeOf at h
        by_cases h1 : chk fm ≠ 0
        · rw [if_pos h1] at h; exact absurd h h1
        · simpa using h1)
      rw [h1]
      exact Nat.le_trans (lines_len _) (Nat.le_trans (sum3_texts fm h2) (by omega))
    · unfold writeOf at h ⊢
      split
      · simp
      · split
        · simp
        · rename_i h1 h2; rw [if_neg h1, if_neg h2] at h; exact absurd rfl h
  obtain ⟨A, hA⟩ : ∃ A : ByteArray, (⟨(writeOf fl).1.toArray⟩ : ByteArray) = A := ⟨_, rfl⟩
  obtain ⟨B, hB⟩ : ∃ B : ByteArray, (⟨(writeOf fm).1.toArray⟩ : ByteArray) = B := ⟨_, rfl⟩
  have hAs : A.size = (writeOf fl).1.length := by rw [← hA]; show (writeOf fl).1.toArray.size = _; simp
  have hBs : B.size = (writeOf fm).1.length := by rw [← hB]; show (writeOf fm).1.toArray.size = _; simp
  obtain ⟨ea, hea⟩ : ∃ e, (writeOf fl).2 = e := ⟨_, rfl⟩
  obtain ⟨eb, heb⟩ : ∃ e, (writeOf fm).2 = e := ⟨_, rfl⟩
  rw [hea, heb, ← hAs, ← hBs] at hno
  have Hno : Hid (ea ≠ 0 ∨ (ea = 0 ∧ eb ≠ 0) ∨ (ea = 0 ∧ eb = 0 ∧ 60000 < A.size + B.size)) := hno
  have HA : Hid _ := hA
  have HB : Hid _ := hB
  have Hea : Hid _ := hea
  have Heb : Hid _ := heb
  have hl0' : ((fl.len : Int) == 0) = false := by rw [beq_eq_false_iff_ne]; omega
  have sa : (A.size : Int) ≤ 400000 := by omega
  have sb : (B.size : Int) ≤ 400000 := by omega
  clear hE hT hR hst hmu hR2 hst2 hmu2 htx htx2 hno hA hB hea heb hAs hBs hla hlb
  go_enter Tryd.func6, Tryd.ntmps6
  go_wp2_with fail
  refine (works_any w HE.out HT.out).mono ?_
  rintro e w1 ⟨rfl, hb1⟩
  have H1 : Hid (Below w.heap.size w w1) := hb1
  clear hb1
  go_wp2_with fail
  refine (much_any ra ca fl w1 hm HS.out (HR.out.below H1.out)).mono ?_
  rw [Hmu.out]
  rintro e w2 ⟨rfl, hb2⟩
  have H2 : Hid (Below w.heap.size w w2) := H1.out.trans (hb2.mono H1.out.size)
  clear hb2 H1
  go_wp2_with fail
  refine (much_any rb cb fm w2 hm2 HS2.out (HR2.out.below H2.out)).mono ?_
  rw [Hmu2.out]
  rintro e w3 ⟨rfl, hb3⟩
  have H3 : Hid (Below w.heap.size w w3) := H2.out.trans (hb3.mono H2.out.size)
  clear hb3 H2
  go_wp2_with fail
  have hc4 := write_fn ra ca fl w3 hm (by omega) Htx.out (HR.out.below H3.out) (HE.out.below H3.out HE.out.lt) (HT.out.below H3.out)
  rw [HA.out, Hea.out] at hc4
  refine Calls.mono hc4 ?_
  rintro e w4 ⟨rfl, hb4⟩
  have H4 : Hid (Below w.heap.size w w4) := H3.out.trans (hb4.mono H3.out.size)
  clear hb4 H3 hc4 hl0'
  go_wp2_with fail
  have hc5 := write_fn rb cb fm w4 hm2 (by omega) Htx2.out (HR2.out.below H4.out) (HE.out.below H4.out HE.out.lt) (HT.out.below H4.out)
  rw [HB.out, Heb.out] at hc5
  refine Calls.mono hc5 ?_
  rintro e w5 ⟨rfl, hb5⟩
  have H5 : Hid (Below w.heap.size w w5) := H4.out.trans (hb5.mono H4.out.size)
  clear hb5 H4 hc5
  rcases Hno.out with h | ⟨rfl, h⟩ | ⟨rfl, rfl, h⟩
  · have h' : (ea == 0) = false := beq_eq_false_iff_ne.2 h
    have h2 : (ea != 0) = true := by simp [bne, h']
    clear h
    go_wp2
    go_ret
    exact ⟨rfl, H5.out⟩
  · have h' : (eb == 0) = false := beq_eq_false_iff_ne.2 h
    have h2 : (eb != 0) = true := by simp [bne, h']
    clear h
    go_wp2
    go_ret
    exact ⟨rfl, H5.out⟩
  · have hdec : decide ((60000 : Int) < (A.size : Int) + (B.size : Int)) = true := decide_eq_true (by omega)
    clear h
    go_wp2
    go_ret
    exact ⟨rfl, H5.out⟩

theorem readTails_walk (ra : Option Addr) (ca : Nat) (fl : Fo) (rb : Option Addr) (cb : Nat) (fm : Fo) (w : World) (hm : fl.len ≤ maxLen) (hst : fl.st) (hR : RS w ra fl) (hm2 : fm.len ≤ maxLen) (hst2 : fm.st) (hR2 : RS w rb fm) (hE : EV w) (hT : TB w) :
    Calls Tryd.prog 6 #[.slice ra fl.len ca, .slice rb fm.len cb] w fun e w' => e = .returned (.bool true) ∧ Below w.heap.size w w' := by
  cases hmu : muchB fl with
  | true => exact tails_much1 ra ca fl rb cb fm.len w hm hst hR hE hT hmu
  | false =>
    cases hmu2 : muchB fm with
    | true => exact tails_much2 ra ca fl rb cb fm w hm hst hR hm2 hst2 hR2 hE hT hmu (.inl hmu2)
    | false =>
      by_cases hl0 : fl.len = 0
      · exact tails_much2 ra ca fl rb cb fm w hm hst hR hm2 hst2 hR2 hE hT hmu (.inr ⟨hmu2, hl0⟩)
      by_cases h1 : (writeOf fl).2 = 0
      · by_cases h2 : (writeOf fm).2 = 0
        · by_cases h3 : 60000 < (writeOf fl).1.length + (writeOf fm).1.length
          · exact tails_not ra ca fl rb cb fm w hm hst hR hm2 hst2 hR2 hE hT hmu hmu2 hl0 (.inr (.inr ⟨h1, h2, h3⟩))
          · cases fl with
            | nil => exact absurd rfl hl0
            | cons k n t s d rr =>
              have e1 := (write_ok h1).1
              have e2 := (write_ok h2).1
              rw [e1, e2] at h3
              exact tails_main k n t s d rr ra ca fm rb cb w hm hst hR hm2 hst2 hR2 hE hT hmu hmu2 h1 h2 (by dsimp only at h3; omega)
        · exact tails_not ra ca fl rb cb fm w hm hst hR hm2 hst2 hR2 hE hT hmu hmu2 hl0 (.inr (.inl ⟨h1, h2⟩))
      · exact tails_not ra ca fl rb cb fm w hm hst hR hm2 hst2 hR2 hE hT hmu hmu2 hl0 (.inl h1)
end Go.Proofs.YtinpjpcokjfinaaDoor
