/- fits.; takes, puts. -/
import Derived.Test.YtpkohocjgnodnaaGreatDoorGAC
/- fits. -/
namespace Go.Proofs.YtpkohocjgnodnaaGreatDoor
open Go.RowKit

set_option maxRecDepth 100000 in
set_option maxHeartbeats 8000000 in
theorem fits_any (op a pm : Int) (nc np ng ni : Nat) (r1 r2 r3 r4 : Option Addr) (c1 c2 c3 c4 : Nat) (w : World) (hn : nc ≤ maxLen ∧ np ≤ maxLen ∧ ng ≤ maxLen ∧ ni ≤ maxLen) :
    Calls Tryz.prog 81 #[.agg #[.slice r1 nc c1, .slice r2 np c2, .slice r3 ng c3], .agg #[.int .i64 pm, .slice r4 ni c4], .agg #[.int .u8 op, .int .i64 a]] w fun e w' => e = .returned (.bool (fitsB nc ng np ni ⟨op, a⟩)) ∧ Below w.heap.size w w' := by
  have HB : Hid (∀ x y z : Obj, Below w.heap.size w (((w.alloc x).alloc y).alloc z)) := fun x y z => (((Below.refl _ w).alloc (Nat.le_refl _) x).alloc (by simp) y).alloc (by simp; omega) z
  obtain ⟨n1, n2, n3, n4⟩ := hn
  unfold maxLen at n1 n2 n3 n4
  by_cases z1 : op = 1
  · subst z1
    have HV : Hid (fitsB nc ng np ni ⟨1, a⟩ = decide ((0 : Int) ≤ a ∧ a ≤ (nc : Int) - 1)) := by show _ = _; simp [fitsB, leastA, mostA]
    go_enter Tryz.func81, Tryz.ntmps81
    go_wp2
    all_goals go_ret
    all_goals exact ⟨ret_bool (by rw [HV.out, Bool.eq_iff_iff]; simp; omega), HB.out _ _ _⟩
  by_cases z4 : op = 4
  · subst z4
    have HV : Hid (fitsB nc ng np ni ⟨4, a⟩ = decide ((0 : Int) ≤ a ∧ a ≤ (ng : Int) - 1)) := by show _ = _; simp [fitsB, leastA, mostA]
    clear z1
    go_enter Tryz.func81, Tryz.ntmps81
    go_wp2
    all_goals go_ret
    all_goals exact ⟨ret_bool (by rw [HV.out, Bool.eq_iff_iff]; simp; omega), HB.out _ _ _⟩
  by_cases z5 : op = 5
  · subst z5
    have HV : Hid (fitsB nc ng np ni ⟨5, a⟩ = decide ((0 : Int) ≤ a ∧ a ≤ (ng : Int) - 1)) := by show _ = _; simp [fitsB, leastA, mostA]
    clear z1 z4
    go_enter Tryz.func81, Tryz.ntmps81
    go_wp2
    all_goals go_ret
    all_goals exact ⟨ret_bool (by rw [HV.out, Bool.eq_iff_iff]; simp; omega), HB.out _ _ _⟩
  by_cases z6 : op = 6
  · subst z6
    have HV : Hid (fitsB nc ng np ni ⟨6, a⟩ = decide ((0 : Int) ≤ a ∧ a ≤ (np : Int) - 1)) := by show _ = _; simp [fitsB, leastA, mostA]
    clear z1 z4 z5
    go_enter Tryz.func81, Tryz.ntmps81
    go_wp2
    all_goals go_ret
    all_goals exact ⟨ret_bool (by rw [HV.out, Bool.eq_iff_iff]; simp; omega), HB.out _ _ _⟩
  by_cases z8 : op = 8
  · subst z8
    have HV : Hid (fitsB nc ng np ni ⟨8, a⟩ = decide ((0 : Int) ≤ a ∧ a ≤ (ni : Int) - 1)) := by show _ = _; simp [fitsB, leastA, mostA]
    clear z1 z4 z5 z6
    go_enter Tryz.func81, Tryz.ntmps81
    go_wp2
    all_goals go_ret
    all_goals exact ⟨ret_bool (by rw [HV.out, Bool.eq_iff_iff]; simp; omega), HB.out _ _ _⟩
  by_cases z9 : op = 9
  · subst z9
    have HV : Hid (fitsB nc ng np ni ⟨9, a⟩ = decide ((0 : Int) ≤ a ∧ a ≤ (ni : Int) - 1)) := by show _ = _; simp [fitsB, leastA, mostA]
    clear z1 z4 z5 z6 z8
    go_enter Tryz.func81, Tryz.ntmps81
    go_wp2
    all_goals go_ret
    all_goals exact ⟨ret_bool (by rw [HV.out, Bool.eq_iff_iff]; simp; omega), HB.out _ _ _⟩
  by_cases z2 : op = 2
  · subst z2
    have HV : Hid (fitsB nc ng np ni ⟨2, a⟩ = decide ((0 : Int) ≤ a ∧ a ≤ 256)) := by show _ = _; simp [fitsB, leastA, mostA]
    clear z1 z4 z5 z6 z8 z9
    go_enter Tryz.func81, Tryz.ntmps81
    go_wp2
    all_goals go_ret
    all_goals exact ⟨ret_bool (by rw [HV.out, Bool.eq_iff_iff]; simp; omega), HB.out _ _ _⟩
  by_cases z3 : op = 3
  · subst z3
    have HV : Hid (fitsB nc ng np ni ⟨3, a⟩ = decide ((0 : Int) ≤ a ∧ a ≤ 256)) := by show _ = _; simp [fitsB, leastA, mostA]
    clear z1 z4 z5 z6 z8 z9 z2
    go_enter Tryz.func81, Tryz.ntmps81
    go_wp2
    all_goals go_ret
    all_goals exact ⟨ret_bool (by rw [HV.out, Bool.eq_iff_iff]; simp; omega), HB.out _ _ _⟩
  by_cases z10 : op = 10
  · subst z10
    have HV : Hid (fitsB nc ng np ni ⟨10, a⟩ = decide ((0 : Int) ≤ a ∧ a ≤ 256)) := by show _ = _; simp [fitsB, leastA, mostA]
    clear z1 z4 z5 z6 z8 z9 z2 z3
    go_enter Tryz.func81, Tryz.ntmps81
    go_wp2
    all_goals go_ret
    all_goals exact ⟨ret_bool (by rw [HV.out, Bool.eq_iff_iff]; simp; omega), HB.out _ _ _⟩
  by_cases z11 : op = 11
  · subst z11
    have HV : Hid (fitsB nc ng np ni ⟨11, a⟩ = decide ((0 : Int) ≤ a ∧ a ≤ 256)) := by show _ = _; simp [fitsB, leastA, mostA]
    clear z1 z4 z5 z6 z8 z9 z2 z3 z10
    go_enter Tryz.func81, Tryz.ntmps81
    go_wp2
    all_goals go_ret
    all_goals exact ⟨ret_bool (by rw [HV.out, Bool.eq_iff_iff]; simp; omega), HB.out _ _ _⟩
  by_cases z13 : op = 13
  · subst z13
    have HV : Hid (fitsB nc ng np ni ⟨13, a⟩ = decide ((1 : Int) ≤ a ∧ a ≤ 22)) := by show _ = _; simp [fitsB, leastA, mostA]
    clear z1 z4 z5 z6 z8 z9 z2 z3 z10 z11
    go_enter Tryz.func81, Tryz.ntmps81
    go_wp2
    all_goals go_ret
    all_goals exact ⟨ret_bool (by rw [HV.out, Bool.eq_iff_iff]; simp; omega), HB.out _ _ _⟩
  have HV : Hid (fitsB nc ng np ni ⟨op, a⟩ = decide ((0 : Int) ≤ a ∧ a ≤ 0)) := by show _ = _; simp [fitsB, leastA, mostA, z1, z4, z5, z6, z8, z9, z2, z3, z10, z11, z13]
  have b1 : (op == 1) = false := beq_eq_false_iff_ne.2 z1
  have b4 : (op == 4) = false := beq_eq_false_iff_ne.2 z4
  have b5 : (op == 5) = false := beq_eq_false_iff_ne.2 z5
  have b6 : (op == 6) = false := beq_eq_false_iff_ne.2 z6
  have b8 : (op == 8) = false := beq_eq_false_iff_ne.2 z8
  have b9 : (op == 9) = false := beq_eq_false_iff_ne.2 z9
  have b2 : (op == 2) = false := beq_eq_false_iff_ne.2 z2
  have b3 : (op == 3) = false := beq_eq_false_iff_ne.2 z3
  have b10 : (op == 10) = false := beq_eq_false_iff_ne.2 z10
  have b11 : (op == 11) = false := beq_eq_false_iff_ne.2 z11
  have b13 : (op == 13) = false := beq_eq_false_iff_ne.2 z13
  clear z1 z4 z5 z6 z8 z9 z2 z3 z10 z11 z13
  go_enter Tryz.func81, Tryz.ntmps81
  go_wp2
  all_goals go_ret
  all_goals exact ⟨ret_bool (by rw [HV.out, Bool.eq_iff_iff]; simp; omega), HB.out _ _ _⟩
end Go.Proofs.YtpkohocjgnodnaaGreatDoor

/- takes, puts. -/
namespace Go.Proofs.YtpkohocjgnodnaaGreatDoor
open Go.RowKit

set_option maxRecDepth 100000 in
set_option maxHeartbeats 4000000 in
theorem puts_any (op a : Int) (w : World) :
    Calls Tryz.prog 134 #[.agg #[.int .u8 op, .int .i64 a]] w fun e w' => e = .returned (.int .i64 (putsN ⟨op, a⟩)) ∧ Below w.heap.size w w' := by
  have hB : ∀ o, Below w.heap.size w (w.alloc o) := fun o => (Below.refl _ w).alloc (Nat.le_refl _) o
  have HB : Hid _ := hB
  by_cases z7 : op = 7
  · subst z7
    rw [show putsN ⟨7, a⟩ = 0 by simp [putsN]]
    clear hB
    go_enter Tryz.func134, Tryz.ntmps134
    go_wp2
    go_ret
    exact ⟨rfl, HB.out _⟩
  by_cases z8 : op = 8
  · subst z8
    rw [show putsN ⟨8, a⟩ = 0 by simp [putsN]]
    clear hB z7
    go_enter Tryz.func134, Tryz.ntmps134
    go_wp2
    go_ret
    exact ⟨rfl, HB.out _⟩
  by_cases z9 : op = 9
  · subst z9
    rw [show putsN ⟨9, a⟩ = 0 by simp [putsN]]
    clear hB z7 z8
    go_enter Tryz.func134, Tryz.ntmps134
    go_wp2
    go_ret
    exact ⟨rfl, HB.out _⟩
  by_cases z11 : op = 11
  · subst z11
    rw [show putsN ⟨11, a⟩ = 0 by simp [putsN]]
    clear hB z7 z8 z9
    go_enter Tryz.func134, Tryz.ntmps134
    go_wp2
    go_ret
    exact ⟨rfl, HB.out _⟩
  by_cases z12 : op = 12
  · subst z12
    rw [show putsN ⟨12, a⟩ = 0 by simp [putsN]]
    clear hB z7 z8 z9 z11
    go_enter Tryz.func134, Tryz.ntmps134
    go_wp2
    go_ret
    exact ⟨rfl, HB.out _⟩
  rw [show putsN ⟨op, a⟩ = 1 by simp [putsN, z7, z8, z9, z11, z12]]
  have b7 : (op == 7) = false := beq_eq_false_iff_ne.2 z7
  have b8 : (op == 8) = false := beq_eq_false_iff_ne.2 z8
  have b9 : (op == 9) = false := beq_eq_false_iff_ne.2 z9
  have b11 : (op == 11) = false := beq_eq_false_iff_ne.2 z11
  have b12 : (op == 12) = false := beq_eq_false_iff_ne.2 z12
  clear hB z7 z8 z9 z11 z12
  go_enter Tryz.func134, Tryz.ntmps134
  go_wp2
  go_ret
  exact ⟨rfl, HB.out _⟩

set_option maxRecDepth 100000 in
set_option maxHeartbeats 8000000 in
theorem takes_any (op a : Int) (w : World) (hp : op = 13 → 1 ≤ a ∧ a ≤ 22) (hc : op = 10 ∨ op = 11 → 0 ≤ a ∧ a ≤ 256) (hP : PT w) :
    Calls Tryz.prog 112 #[.agg #[.int .u8 op, .int .i64 a]] w fun e w' => e = .returned (.int .i64 (takesN ⟨op, a⟩)) ∧ Below w.heap.size w w' := by
  have hB : ∀ o, Below w.heap.size w (w.alloc o) := fun o => (Below.refl _ w).alloc (Nat.le_refl _) o
  have HB : Hid _ := hB
  have HP : Hid (PT w) := hP
  have hPl := hP.lt
  clear hB hP
  by_cases z1 : op = 1
  · subst z1
    rw [show takesN ⟨1, a⟩ = 0 by simp [takesN]]
    clear hp hc
    go_enter Tryz.func112, Tryz.ntmps112
    go_wp2
    go_ret
    exact ⟨rfl, HB.out _⟩
  by_cases z2 : op = 2
  · subst z2
    rw [show takesN ⟨2, a⟩ = 0 by simp [takesN]]
    clear hp hc z1
    go_enter Tryz.func112, Tryz.ntmps112
    go_wp2
    go_ret
    exact ⟨rfl, HB.out _⟩
  by_cases z4 : op = 4
  · subst z4
    rw [show takesN ⟨4, a⟩ = 0 by simp [takesN]]
    clear hp hc z1 z2
    go_enter Tryz.func112, Tryz.ntmps112
    go_wp2
    go_ret
    exact ⟨rfl, HB.out _⟩
  by_cases z6 : op = 6
  · subst z6
    rw [show takesN ⟨6, a⟩ = 0 by simp [takesN]]
    clear hp hc z1 z2 z4
    go_enter Tryz.func112, Tryz.ntmps112
    go_wp2
    go_ret
    exact ⟨rfl, HB.out _⟩
  by_cases z8 : op = 8
  · subst z8
    rw [show takesN ⟨8, a⟩ = 0 by simp [takesN]]
    clear hp hc z1 z2 z4 z6
    go_enter Tryz.func112, Tryz.ntmps112
    go_wp2
    go_ret
    exact ⟨rfl, HB.out _⟩
  by_cases z18 : op = 18
  · subst z18
    rw [show takesN ⟨18, a⟩ = 0 by simp [takesN]]
    clear hp hc z1 z2 z4 z6 z8
    go_enter Tryz.func112, Tryz.ntmps112
    go_wp2
    go_ret
    exact ⟨rfl, HB.out _⟩
  by_cases z10 : op = 10
  · obtain ⟨q0, q1⟩ := hc (.inl z10)
    subst z10
    rw [show takesN ⟨10, a⟩ = a + 1 by simp [takesN]]
    clear hp hc z1 z2 z4 z6 z8 z18
    go_enter Tryz.func112, Tryz.ntmps112
    go_wp2
    go_ret
    exact ⟨rfl, HB.out _⟩
  by_cases z11 : op = 11
  · obtain ⟨q0, q1⟩ := hc (.inr z11)
    subst z11
    rw [show takesN ⟨11, a⟩ = a + 1 by simp [takesN]]
    clear hp hc z1 z2 z4 z6 z8 z18 z10
    go_enter Tryz.func112, Tryz.ntmps112
    go_wp2
    go_ret
    exact ⟨rfl, HB.out _⟩
  by_cases z13 : op = 13
  · obtain ⟨q0, q1⟩ := hp z13
    subst z13
    clear hp hc z1 z2 z4 z6 z8 z18 z10 z11
    obtain ⟨j, rfl⟩ := Int.eq_ofNat_of_zero_le (show 0 ≤ a by omega)
    have hj : j < 23 := by omega
    have hj' : (j : Int) < 23 := by omega
    have c3 := HP.out j hj
    rw [show takesN ⟨13, (j : Int)⟩ = primT.getD j 0 by simp [takesN, primN]]
    generalize primT.getD j 0 = pv at *
    go_enter Tryz.func112, Tryz.ntmps112
    go_wp2
    go_ret
    exact ⟨rfl, HB.out _⟩
  rw [show takesN ⟨op, a⟩ = 1 by simp [takesN, z1, z2, z4, z6, z8, z18, z10, z11, z13]]
  have b1 : (op == 1) = false := beq_eq_false_iff_ne.2 z1
  have b2 : (op == 2) = false := beq_eq_false_iff_ne.2 z2
  have b4 : (op == 4) = false := beq_eq_false_iff_ne.2 z4
  have b6 : (op == 6) = false := beq_eq_false_iff_ne.2 z6
  have b8 : (op == 8) = false := beq_eq_false_iff_ne.2 z8
  have b18 : (op == 18) = false := beq_eq_false_iff_ne.2 z18
  have b10 : (op == 10) = false := beq_eq_false_iff_ne.2 z10
  have b11 : (op == 11) = false := beq_eq_false_iff_ne.2 z11
  have b13 : (op == 13) = false := beq_eq_false_iff_ne.2 z13
  clear hp hc z1 z2 z4 z6 z8 z18 z10 z11 z13
  go_enter Tryz.func112, Tryz.ntmps112
  go_wp2
  go_ret
  exact ⟨rfl, HB.out _⟩
end Go.Proofs.YtpkohocjgnodnaaGreatDoor
