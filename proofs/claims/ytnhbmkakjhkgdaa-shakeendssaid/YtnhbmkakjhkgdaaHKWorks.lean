/- The examples; the errors and limits. -/
import Derived.Test.YtnhbmkakjhkgdaaHKBorn
namespace Go.Proofs.Ytnhbmkakjhkgdaa
open Go.RowKit

theorem KR.below {w0 w w' : World} {b n : Nat} {s' : Sk} (h : KR b s' w w') (hb : Below n w0 w) (hn : n ≤ b) : SL w' b s' ∧ Below n w0 w' := by
  refine ⟨h.1, hb.trans ⟨h.2.2.1.os, h.2.2.1.tape, h.2.2.1.output, h.2.2.1.size, fun g hg => h.2.1 g (by omega)⟩⟩
def x1 : Sk := (bornM sk0 0).2
def x2 : Sk := (bornM x1 1).2
def x3 : Sk := (begM x2).2
def x4 : Sk := (askM x3 2).2
set_option maxRecDepth 100000 in
set_option maxHeartbeats 4000000 in
theorem works_any (w : World) : Calls Try.prog 6 #[] w fun e w' => e = .returned (.bool true) ∧ Below w.heap.size w w' := by
  go_enter Try.func6, Try.ntmps6
  go_wp2_with fail
  refine Calls.mono (new_any w) ?_
  rintro e w1 ⟨rfl, hs, hb, _⟩
  have H : Hid (SL w1 w.heap.size sk0 ∧ Below w.heap.size w w1) := ⟨hs, hb⟩
  clear hs hb
  go_wp2_with fail
  refine Calls.mono (born_any w.heap.size sk0 0 w1 H.out.1 (by decide)) ?_
  rintro e w2 ⟨rfl, hk⟩
  have H2 : Hid (SL w2 w.heap.size x1 ∧ Below w.heap.size w w2) := hk.below H.out.2 (Nat.le_refl _)
  have e1 : (bornM sk0 0).1 = (1, 0) := rfl
  rw [e1]
  dsimp only
  clear hk e1 H
  go_wp2_with fail
  refine Calls.mono (born_any w.heap.size x1 1 w2 H2.out.1 (by decide)) ?_
  rintro e w3 ⟨rfl, hk⟩
  have H3 : Hid (SL w3 w.heap.size x2 ∧ Below w.heap.size w w3) := hk.below H2.out.2 (Nat.le_refl _)
  have e1 : (bornM x1 1).1 = (2, 0) := rfl
  rw [e1]
  dsimp only
  clear hk e1 H2
  go_wp2_with fail
  refine Calls.mono (scanned_any w.heap.size x2 1 w3 H3.out.1 (by decide)) ?_
  rintro e w4 ⟨rfl, rfl⟩
  have e1 : scanB x2 1 = true := rfl
  rw [e1]
  clear e1
  go_wp2_with fail
  refine Calls.mono (begin_any w.heap.size x2 w4 H3.out.1 (by decide)) ?_
  rintro e w5 ⟨rfl, hk⟩
  have H4 : Hid (SL w5 w.heap.size x3 ∧ Below w.heap.size w w5) := hk.below H3.out.2 (Nat.le_refl _)
  have e1 : (begM x2).1 = 0 := rfl
  rw [e1]
  clear hk e1 H3
  go_wp2_with fail
  refine Calls.mono (scanned_any w.heap.size x3 2 w5 H4.out.1 (by decide)) ?_
  rintro e w6 ⟨rfl, rfl⟩
  have e1 : scanB x3 2 = false := rfl
  rw [e1]
  clear e1
  go_wp2_with fail
  refine Calls.mono (ask_any w.heap.size x3 2 w6 H4.out.1 (by decide)) ?_
  rintro e w7 ⟨rfl, hk⟩
  have H5 : Hid (SL w7 w.heap.size x4 ∧ Below w.heap.size w w7) := hk.below H4.out.2 (Nat.le_refl _)
  have e1 : (askM x3 2).1 = 0 := rfl
  rw [e1]
  clear hk e1 H4
  go_wp2_with fail
  refine Calls.mono (ask_any w.heap.size x4 2 w7 H5.out.1 (by decide)) ?_
  rintro e w8 ⟨rfl, hk⟩
  have H6 : Hid (SL w8 w.heap.size (askM x4 2).2 ∧ Below w.heap.size w w8) := hk.below H5.out.2 (Nat.le_refl _)
  have e1 : (askM x4 2).1 = 140 := rfl
  have e2 : (askM x4 2).2 = x4 := rfl
  rw [e1]
  rw [e2] at H6
  clear hk e1 e2 H5
  go_wp2_with fail
  refine Calls.mono (left_any w.heap.size x4 w8 H6.out.1 (by decide)) ?_
  rintro e w9 ⟨rfl, rfl⟩
  have e1 : leftM x4 = 1 := rfl
  rw [e1]
  clear e1
  go_wp2
  go_ret
  exact ⟨rfl, H6.out.2⟩
set_option maxRecDepth 100000 in
set_option maxHeartbeats 4000000 in
theorem shakeNumbers_walk (w : World) : Calls Try.prog 3 #[] w fun e w' => e = .returned (.bool true) ∧ Below w.heap.size w w' := by
  go_enter Try.func3, Try.ntmps3
  go_wp2_with fail
  refine Calls.mono (works_any w) ?_
  rintro e w1 ⟨rfl, hb⟩
  have H : Hid (Below w.heap.size w w1) := hb
  clear hb
  go_wp2
  go_ret
  exact ⟨rfl, H.out⟩
end Go.Proofs.Ytnhbmkakjhkgdaa
