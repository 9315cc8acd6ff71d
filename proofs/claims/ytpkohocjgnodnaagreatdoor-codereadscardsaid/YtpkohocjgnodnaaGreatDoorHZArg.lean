/- The document's takes, puts, arg, behind. -/
import Derived.Test.YtpkohocjgnodnaaGreatDoorGAU
import Derived.Test.YtpkohocjgnodnaaGreatDoorGAG
namespace Go.Proofs.YtpkohocjgnodnaaGreatDoor
open Go.RowKit

set_option maxRecDepth 100000 in
set_option maxHeartbeats 8000000 in
theorem dArgs_any (a : Int) (w : World) (h1 : 1 ≤ a) (h2 : a ≤ 22) :
    Calls Tryz.prog 129 #[.int .i64 a] w fun e w' => e = .returned (.int .i64 (primN a)) ∧ Below w.heap.size w w' := by
  have HA : Hid (∀ o, Below w.heap.size w (w.alloc o)) := fun o => (Below.refl _ w).alloc (Nat.le_refl _) o
  have hd : a = 1 ∨ a = 2 ∨ a = 3 ∨ a = 4 ∨ a = 5 ∨ a = 6 ∨ a = 7 ∨ a = 8 ∨ a = 9 ∨ a = 10 ∨ a = 11 ∨ a = 12 ∨ a = 13 ∨ a = 14 ∨ a = 15 ∨ a = 16 ∨ a = 17 ∨ a = 18 ∨ a = 19 ∨ a = 20 ∨ a = 21 ∨ a = 22 := by omega
  clear h1 h2
  rcases hd with rfl | rfl | rfl | rfl | rfl | rfl | rfl | rfl | rfl | rfl | rfl | rfl | rfl | rfl | rfl | rfl | rfl | rfl | rfl | rfl | rfl | rfl
  all_goals
    go_enter Tryz.func129, Tryz.ntmps129
    go_wp2
    go_ret
    exact ⟨rfl, HA.out _⟩
set_option maxRecDepth 100000 in
set_option maxHeartbeats 8000000 in
theorem dTakes_any (op a : Int) (w : World) (h1 : 1 ≤ op) (h2 : op ≤ 18) (hp : op = 13 → 1 ≤ a ∧ a ≤ 22) (hc : op = 10 ∨ op = 11 → 0 ≤ a ∧ a ≤ 256) :
    Calls Tryz.prog 104 #[.agg #[.int .u8 op, .int .i64 a]] w fun e w' => e = .returned (.int .i64 (takesN ⟨op, a⟩)) ∧ Below w.heap.size w w' := by
  have HA : Hid (Below w.heap.size w (w.alloc (.cells #[.int .u8 op, .int .i64 a] 79))) := (Below.refl _ w).alloc (Nat.le_refl _) _
  by_cases h13 : op = 13
  · subst h13
    obtain ⟨p1, p2⟩ := hp rfl
    have HC : Hid _ := dArgs_any a (w.alloc (.cells #[.int .u8 13, .int .i64 a] 79)) p1 p2
    have HT : Hid (takesN ⟨13, a⟩ = primN a) := by show _ = _; simp [takesN]
    clear hp hc h1 h2 p1 p2
    go_enter Tryz.func104, Tryz.ntmps104
    go_wp2_with fail
    refine Calls.mono HC.out ?_
    rintro e w2 ⟨rfl, hb⟩
    have HB : Hid (Below w.heap.size w w2) := HA.out.trans (hb.mono HA.out.size)
    clear hb HC
    go_wp2
    go_ret
    exact ⟨by rw [HT.out]; rfl, HB.out⟩
  · have hd : op = 1 ∨ op = 2 ∨ op = 3 ∨ op = 4 ∨ op = 5 ∨ op = 6 ∨ op = 7 ∨ op = 8 ∨ op = 9 ∨ op = 10 ∨ op = 11 ∨ op = 12 ∨ op = 14 ∨ op = 15 ∨ op = 16 ∨ op = 17 ∨ op = 18 := by omega
    clear h1 h2 hp h13
    rcases hd with rfl | rfl | rfl | rfl | rfl | rfl | rfl | rfl | rfl | rfl | rfl | rfl | rfl | rfl | rfl | rfl | rfl
    all_goals
      have HC : Hid _ := hc
      clear hc
      go_enter Tryz.func104, Tryz.ntmps104
      go_wp2
      go_ret
      first
        | exact ⟨rfl, HA.out⟩
        | (have hw : wrap64 (a + 1) = a + 1 := by (have := HC.out (by first | trivial | omega | decide); exact wrap_id (by omega) (by omega))
           refine ⟨?_, HA.out⟩
           rw [hw]
           rfl)
set_option maxRecDepth 100000 in
set_option maxHeartbeats 8000000 in
theorem dPuts_any (op a : Int) (w : World) (h1 : 1 ≤ op) (h2 : op ≤ 18) :
    Calls Tryz.prog 105 #[.agg #[.int .u8 op, .int .i64 a]] w fun e w' => e = .returned (.int .i64 (putsN ⟨op, a⟩)) ∧ Below w.heap.size w w' := by
  have HA : Hid (Below w.heap.size w (w.alloc (.cells #[.int .u8 op, .int .i64 a] 79))) := (Below.refl _ w).alloc (Nat.le_refl _) _
  have hd : op = 1 ∨ op = 2 ∨ op = 3 ∨ op = 4 ∨ op = 5 ∨ op = 6 ∨ op = 7 ∨ op = 8 ∨ op = 9 ∨ op = 10 ∨ op = 11 ∨ op = 12 ∨ op = 13 ∨ op = 14 ∨ op = 15 ∨ op = 16 ∨ op = 17 ∨ op = 18 := by omega
  clear h1 h2
  rcases hd with rfl | rfl | rfl | rfl | rfl | rfl | rfl | rfl | rfl | rfl | rfl | rfl | rfl | rfl | rfl | rfl | rfl | rfl
  all_goals
    go_enter Tryz.func105, Tryz.ntmps105
    go_wp2
    go_ret
    exact ⟨rfl, HA.out⟩
/-- How many A's there are. -/
def argN (nc ng np ni : Nat) (op : Int) : Int := if op = 1 then (nc : Int) else if op = 4 ∨ op = 5 then (ng : Int) else if op = 6 then (np : Int) else if op = 8 ∨ op = 9 then (ni : Int) else if op = 2 ∨ op = 3 ∨ op = 10 ∨ op = 11 then 257 else 1
theorem fits_arg (nc ng np ni : Nat) (op a : Int) (h : op ≠ 13) : fitsB nc ng np ni ⟨op, a⟩ = (decide (0 ≤ a) && decide (a < argN nc ng np ni op)) := by
  have e : mostA nc ng np ni op = argN nc ng np ni op - 1 := by
    unfold mostA argN
    rw [if_neg h]
    split
    · rfl
    · split
      · rfl
      · split
        · rfl
        · split
          · rfl
          · split <;> rfl
  unfold fitsB leastA
  simp only
  rw [if_neg h, e]
  by_cases h0 : 0 ≤ a
  · by_cases h1 : a < argN nc ng np ni op
    · rw [decide_eq_true h0, decide_eq_true h1, decide_eq_true (by omega)]; rfl
    · rw [decide_eq_true h0, decide_eq_false h1, decide_eq_false (by omega)]; rfl
  · rw [decide_eq_false h0, decide_eq_false (by omega)]; rfl
set_option maxRecDepth 100000 in
set_option maxHeartbeats 16000000 in
theorem dArg_any (nc np ng ni : Nat) (pm op a : Int) (r1 r2 r3 ra : Option Addr) (c1 c2 c3 cp : Nat) (w : World) (h1 : 1 ≤ op) (h2 : op ≤ 18) :
    Calls Tryz.prog 75 #[.agg #[.slice r1 nc c1, .slice r2 np c2, .slice r3 ng c3], .agg #[.int .i64 pm, .slice ra ni cp], .agg #[.int .u8 op, .int .i64 a]] w fun e w' => e = .returned (.bool (fitsB nc ng np ni ⟨op, a⟩)) ∧ Below w.heap.size w w' := by
  have HA : Hid (Below w.heap.size w (((w.alloc (.cells #[.slice r1 nc c1, .slice r2 np c2, .slice r3 ng c3] 26)).alloc (.cells #[.int .i64 pm, .slice ra ni cp] 64)).alloc (.cells #[.int .u8 op, .int .i64 a] 79))) := (((Below.refl _ w).alloc (Nat.le_refl _) _).alloc (by simp) _).alloc (by simp; omega) _
  by_cases h13 : op = 13
  · subst h13
    by_cases ha : 1 ≤ a
    · have z1 : decide (a ≥ 1) = true := decide_eq_true ha
      have HV : Hid (fitsB nc ng np ni ⟨13, a⟩ = decide (a ≤ 22)) := by
        show _ = _
        unfold fitsB leastA mostA
        by_cases h22 : a ≤ 22
        · rw [decide_eq_true h22]; exact decide_eq_true (by simp; omega)
        · rw [decide_eq_false h22]; exact decide_eq_false (by simp; omega)
      clear ha h1 h2
      go_enter Tryz.func75, Tryz.ntmps75
      go_wp2
      go_ret
      exact ⟨by rw [HV.out]; rfl, HA.out⟩
    · have z1 : decide (a ≥ 1) = false := decide_eq_false ha
      have HV : Hid (fitsB nc ng np ni ⟨13, a⟩ = false) := by
        show _ = _
        unfold fitsB leastA mostA
        exact decide_eq_false (by simp; omega)
      clear ha h1 h2
      go_enter Tryz.func75, Tryz.ntmps75
      go_wp2
      go_ret
      exact ⟨by rw [HV.out]; rfl, HA.out⟩
  · have hd : op = 1 ∨ op = 2 ∨ op = 3 ∨ op = 4 ∨ op = 5 ∨ op = 6 ∨ op = 7 ∨ op = 8 ∨ op = 9 ∨ op = 10 ∨ op = 11 ∨ op = 12 ∨ op = 14 ∨ op = 15 ∨ op = 16 ∨ op = 17 ∨ op = 18 := by omega
    have HV : Hid (fitsB nc ng np ni ⟨op, a⟩ = (decide (0 ≤ a) && decide (a < argN nc ng np ni op))) := fits_arg nc ng np ni op a h13
    clear h1 h2 h13
    by_cases ha : 0 ≤ a
    · have z1 : decide (a ≥ 0) = true := decide_eq_true ha
      rw [decide_eq_true ha, Bool.true_and] at HV
      clear ha
      rcases hd with rfl | rfl | rfl | rfl | rfl | rfl | rfl | rfl | rfl | rfl | rfl | rfl | rfl | rfl | rfl | rfl | rfl
      all_goals
        go_enter Tryz.func75, Tryz.ntmps75
        go_wp2
        go_ret
        exact ⟨by rw [HV.out]; rfl, HA.out⟩
    · have z1 : decide (a ≥ 0) = false := decide_eq_false ha
      rw [decide_eq_false ha, Bool.false_and] at HV
      clear ha
      rcases hd with rfl | rfl | rfl | rfl | rfl | rfl | rfl | rfl | rfl | rfl | rfl | rfl | rfl | rfl | rfl | rfl | rfl
      all_goals
        go_enter Tryz.func75, Tryz.ntmps75
        go_wp2
        go_ret
        exact ⟨by rw [HV.out]; rfl, HA.out⟩
end Go.Proofs.YtpkohocjgnodnaaGreatDoor
