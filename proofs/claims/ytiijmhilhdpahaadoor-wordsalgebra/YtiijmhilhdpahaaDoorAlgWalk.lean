/- The walk of WordsAlgebra: it returns true wherever the table lies as its initialiser lays it, and leaves the world as it was. -/
import Derived.Test.YtiijmhilhdpahaaDoorKnown
import Derived.Test.YtiijmhilhdpahaaDoorAlgMath
namespace Go.Proofs.YtiijmhilhdpahaaDoor
open Go.RowKit

set_option maxHeartbeats 400000 in
theorem cut_any (n : Int) (w : World) :
    Calls Tryd.prog 26 #[.int .i64 n] w fun e w' => e = .returned (.int .i64 (n.tmod 576460752303423488)) ∧ w' = w := by
  go_enter Tryd.func26, Tryd.ntmps26
  go_wp2_with fail
  go_ret
  exact ⟨rfl, rfl⟩

set_option maxHeartbeats 1000000 in
theorem shares_any (a b c : Int) (w : World) (ha : Fits a) (hb : Fits b) (hc : Fits c) (hT : Tab w) :
    Calls Tryd.prog 27 #[.int .u64 (mk 5 a), .int .u64 (mk 5 b), .int .u64 (mk 5 c)] w fun e w' => e = .returned (.bool true) ∧ w' = w := by
  have HT : Hid (Tab w) := hT
  have Ha : Hid _ := mk_rng 5 a
  have Hb : Hid _ := mk_rng 5 b
  have Hc : Hid _ := mk_rng 5 c
  have Hs : Hid _ := shares5 ha hb hc
  have R1 : Hid (Rng (addW (mk 5 b) (mk 5 c))) := resW_rng _ _
  have R2 : Hid (Rng (mulW (mk 5 a) (mk 5 b))) := resW_rng _ _
  have R3 : Hid (Rng (mulW (mk 5 a) (mk 5 c))) := resW_rng _ _
  clear hT ha hb hc
  generalize mk 5 a = A at *
  generalize mk 5 b = B at *
  generalize mk 5 c = C at *
  cases h1 : (addE B C != 0) <;> cases h2 : (mulE A (addW B C) != 0) <;> cases h3 : (mulE A B != 0) <;> cases h4 : (mulE A C != 0)
  · obtain ⟨e1, e2⟩ := Hs.out h1 h2 h3 h4
    have E1 : Hid _ := e1
    have E2 : Hid _ := e2
    clear e1 e2
    have sb : ∀ x : Int, (x == x) = true := fun x => by simp
    go_enter Tryd.func27, Tryd.ntmps27
    go_wp2_with fail
    refine (add_any _ _ _ Hb.out Hc.out HT.out).mono ?_
    rintro e w' ⟨rfl, rfl⟩
    go_wp2_with fail
    refine (mul_any _ _ _ Ha.out R1.out HT.out).mono ?_
    rintro e w' ⟨rfl, rfl⟩
    go_wp2_with fail
    refine (mul_any _ _ _ Ha.out Hb.out HT.out).mono ?_
    rintro e w' ⟨rfl, rfl⟩
    go_wp2_with fail
    refine (mul_any _ _ _ Ha.out Hc.out HT.out).mono ?_
    rintro e w' ⟨rfl, rfl⟩
    go_wp2_with fail
    refine (add_any _ _ _ R2.out R3.out HT.out).mono ?_
    rintro e w' ⟨rfl, rfl⟩
    rw [E1.out, ← E2.out]
    go_wp2_with fail
    go_ret
    exact ⟨rfl, rfl⟩
  all_goals
    go_enter Tryd.func27, Tryd.ntmps27
    go_wp2_with fail
    refine (add_any _ _ _ Hb.out Hc.out HT.out).mono ?_
    rintro e w' ⟨rfl, rfl⟩
    go_wp2_with fail
    refine (mul_any _ _ _ Ha.out R1.out HT.out).mono ?_
    rintro e w' ⟨rfl, rfl⟩
    go_wp2_with fail
    refine (mul_any _ _ _ Ha.out Hb.out HT.out).mono ?_
    rintro e w' ⟨rfl, rfl⟩
    go_wp2_with fail
    refine (mul_any _ _ _ Ha.out Hc.out HT.out).mono ?_
    rintro e w' ⟨rfl, rfl⟩
    go_wp2_with fail
    refine (add_any _ _ _ R2.out R3.out HT.out).mono ?_
    rintro e w' ⟨rfl, rfl⟩
    go_wp2_with fail
    go_ret
    exact ⟨rfl, rfl⟩

set_option maxHeartbeats 1000000 in
theorem divides_zero (a : Int) (w : World) (ha : Fits a) (hT : Tab w) :
    Calls Tryd.prog 28 #[.int .u64 (mk 5 a), .int .u64 (mk 5 0)] w fun e w' => e = .returned (.bool true) ∧ w' = w := by
  have HT : Hid (Tab w) := hT
  have f0 : Fits 0 := by unfold Fits; omega
  have Ha : Hid _ := mk_rng 5 a
  have Hb : Hid _ := mk_rng 5 0
  have Hq : Hid _ := quo5_zero ha
  have Hn : Hid _ := ofN5 f0
  clear hT ha f0
  generalize mk 5 a = A at *
  generalize mk 5 0 = B at *
  go_enter Tryd.func28, Tryd.ntmps28
  go_wp2_with fail
  refine (quo_any _ _ _ Ha.out Hb.out HT.out).mono ?_
  rintro e w' ⟨rfl, rfl⟩
  rw [Hq.out.1]
  go_wp2_with fail
  refine (rem_any _ _ _ Ha.out Hb.out HT.out).mono ?_
  rintro e w' ⟨rfl, rfl⟩
  rw [Hq.out.2]
  go_wp2_with fail
  refine (of_any _ _ Hb.out HT.out).mono ?_
  rintro e w' ⟨rfl, rfl⟩
  rw [Hn.out]
  go_wp2_with fail
  go_ret
  exact ⟨rfl, rfl⟩

theorem sgn {r a : Int} (h : r = 0 ∨ (r < 0 ↔ a < 0)) : (r == 0 || decide (r < 0) == decide (a < 0)) = true := by
  rcases h with h | h
  · simp [h]
  · simp [h]

set_option maxHeartbeats 1000000 in
theorem divides_some (a b : Int) (w : World) (ha : -576460752303423487 ≤ a ∧ a ≤ 576460752303423487) (hb : -576460752303423487 ≤ b ∧ b ≤ 576460752303423487) (hz : b ≠ 0) (hT : Tab w) :
    Calls Tryd.prog 28 #[.int .u64 (mk 5 a), .int .u64 (mk 5 b)] w fun e w' => e = .returned (.bool true) ∧ w' = w := by
  have HT : Hid (Tab w) := hT
  have fa : Fits a := by unfold Fits; omega
  have fb : Fits b := by unfold Fits; omega
  have fq : Fits (a.tdiv b) := tdiv_fits ha
  have fr : Fits (a.tmod b) := tmod_fits fa
  have fm : Fits (a.tdiv b * b) := tdivmul_fits fa
  have es : a.tdiv b * b + a.tmod b = a := by have := Int.tmod_add_tdiv_mul a b; omega
  have Ha : Hid _ := mk_rng 5 a
  have Hb : Hid _ := mk_rng 5 b
  have Hr : Hid _ := mk_rng 5 (a.tmod b)
  have Hq : Hid _ := mk_rng 5 (a.tdiv b)
  have Hm : Hid _ := mk_rng 5 (a.tdiv b * b)
  have Eq : Hid (quoW (mk 5 a) (mk 5 b) = mk 5 (a.tdiv b) ∧ quoE (mk 5 a) (mk 5 b) = 0) := by show _ ∧ _; rw [(quo5 fa fb hz).1, (quo5 fa fb hz).2]; exact in5 fq
  have Er : Hid (remW (mk 5 a) (mk 5 b) = mk 5 (a.tmod b) ∧ remE (mk 5 a) (mk 5 b) = 0) := by show _ ∧ _; rw [(rem5 fa fb hz).1, (rem5 fa fb hz).2]; exact in5 fr
  have Em : Hid (mulW (mk 5 (a.tdiv b)) (mk 5 b) = mk 5 (a.tdiv b * b) ∧ mulE (mk 5 (a.tdiv b)) (mk 5 b) = 0) := by show _ ∧ _; rw [(mul5 fq fb).1, (mul5 fq fb).2]; exact in5 fm
  have Es : Hid (addW (mk 5 (a.tdiv b * b)) (mk 5 (a.tmod b)) = mk 5 a ∧ addE (mk 5 (a.tdiv b * b)) (mk 5 (a.tmod b)) = 0) := by show _ ∧ _; rw [(add5 fm fr).1, (add5 fm fr).2, es]; exact in5 fa
  have Na : Hid _ := ofN5 fa
  have Nb : Hid _ := ofN5 fb
  have Nr : Hid _ := ofN5 fr
  have hs := rem_small (a := a) hz
  have Hg : Hid _ := rem_sign (a := a) (b := b)
  have sb : ∀ x : Int, (x == x) = true := fun x => by simp
  have hzb : (b == 0) = false := by simpa using hz
  generalize a.tmod b = r at *
  generalize a.tdiv b * b = m at *
  generalize a.tdiv b = q at *
  generalize mk 5 a = A at *
  generalize mk 5 b = B at *
  generalize mk 5 r = R at *
  generalize mk 5 q = Q at *
  generalize mk 5 m = M at *
  have hr1 := fr.1
  have hr2 := fr.2
  clear hT fa fb fq fr fm es
  go_enter Tryd.func28, Tryd.ntmps28
  go_wp2_with fail
  refine (quo_any _ _ _ Ha.out Hb.out HT.out).mono ?_
  rintro e w' ⟨rfl, rfl⟩
  rw [Eq.out.1, Eq.out.2]
  go_wp2_with fail
  refine (rem_any _ _ _ Ha.out Hb.out HT.out).mono ?_
  rintro e w' ⟨rfl, rfl⟩
  rw [Er.out.1, Er.out.2]
  go_wp2_with fail
  refine (of_any _ _ Hb.out HT.out).mono ?_
  rintro e w' ⟨rfl, rfl⟩
  rw [Nb.out]
  go_wp2_with fail
  refine (of_any _ _ Hr.out HT.out).mono ?_
  rintro e w' ⟨rfl, rfl⟩
  rw [Nr.out]
  go_wp2_with fail
  refine (of_any _ _ Ha.out HT.out).mono ?_
  rintro e w' ⟨rfl, rfl⟩
  rw [Na.out]
  go_wp2_with fail
  refine (mul_any _ _ _ Hq.out Hb.out HT.out).mono ?_
  rintro e w' ⟨rfl, rfl⟩
  rw [Em.out.1, Em.out.2]
  go_wp2_with fail
  refine (add_any _ _ _ Hm.out Hr.out HT.out).mono ?_
  rintro e w' ⟨rfl, rfl⟩
  rw [Es.out.1, Es.out.2]
  go_wp2_with fail
  all_goals go_ret
  all_goals first | exact ⟨rfl, rfl⟩ | exact ⟨ret_bool (sgn Hg.out), rfl⟩

theorem divides_any (a b : Int) (w : World) (ha : -576460752303423487 ≤ a ∧ a ≤ 576460752303423487) (hb : -576460752303423487 ≤ b ∧ b ≤ 576460752303423487) (hT : Tab w) :
    Calls Tryd.prog 28 #[.int .u64 (mk 5 a), .int .u64 (mk 5 b)] w fun e w' => e = .returned (.bool true) ∧ w' = w := by
  by_cases hz : b = 0
  · subst hz; exact divides_zero a w (by unfold Fits; omega) hT
  · exact divides_some a b w ha hb hz hT

theorem int_fits (n : Int) (w : World) (h : Fits n) (hT : Tab w) :
    Calls Tryd.prog 11 #[.int .i64 n] w fun e w' => e = .returned (.tuple #[.int .u64 (mk 5 n), .int .i64 0]) ∧ w' = w := by
  have := int_any n w hT
  rwa [w5 h, z5 h] at this

set_option maxHeartbeats 1000000 in
theorem wordsAlgebra_walk (n m k : Int) (w : World) (hT : Tab w) :
    Calls Tryd.prog 7 #[.int .i64 n, .int .i64 m, .int .i64 k] w fun e w' => e = .returned (.bool true) ∧ w' = w := by
  have HT : Hid (Tab w) := hT
  have ba := cut_bd n
  have bb := cut_bd m
  have bc := cut_bd k
  have Cn : Hid (∀ w, _) := cut_any n
  have Cm : Hid (∀ w, _) := cut_any m
  have Ck : Hid (∀ w, _) := cut_any k
  generalize n.tmod 576460752303423488 = a at *
  generalize m.tmod 576460752303423488 = b at *
  generalize k.tmod 576460752303423488 = c at *
  have Fa : Hid (Fits a) := by show Fits a; unfold Fits; omega
  have Fb : Hid (Fits b) := by show Fits b; unfold Fits; omega
  have Fc : Hid (Fits c) := by show Fits c; unfold Fits; omega
  have F0 : Hid (Fits 0) := by show Fits 0; unfold Fits; omega
  have Sh : Hid (∀ w, _) := fun w hT => shares_any a b c w Fa.out Fb.out Fc.out hT
  have Dv : Hid (∀ w, _) := fun w hT => divides_any a b w ba bb hT
  have Ac : Hid _ := add_comm5 Fa.out Fb.out
  have Mc : Hid _ := mul_comm5 Fa.out Fb.out
  have Bk : Hid _ := back5 Fa.out Fb.out
  have Ia : Hid (∀ w, _) := fun w hT => int_fits a w Fa.out hT
  have Ib : Hid (∀ w, _) := fun w hT => int_fits b w Fb.out hT
  have Ic : Hid (∀ w, _) := fun w hT => int_fits c w Fc.out hT
  have I0 : Hid (∀ w, _) := fun w hT => int_fits 0 w F0.out hT
  have Ra : Hid _ := mk_rng 5 a
  have Rb : Hid _ := mk_rng 5 b
  have R0 : Hid _ := mk_rng 5 0
  have Rs : Hid (Rng (addW (mk 5 a) (mk 5 b))) := resW_rng _ _
  have sb : ∀ x : Int, (x != x) = false := fun x => by simp
  clear hT ba bb bc
  generalize mk 5 a = A at *
  generalize mk 5 b = B at *
  generalize mk 5 c = C at *
  generalize mk 5 0 = Z at *
  cases hp : (addE A B == 0)
  · go_enter Tryd.func7, Tryd.ntmps7
    go_wp2_with fail
    refine (known_any _ HT.out).mono ?_
    rintro e w' ⟨rfl, rfl⟩
    go_wp2_with fail
    refine (Cn.out _).mono ?_
    rintro e w' ⟨rfl, rfl⟩
    go_wp2_with fail
    refine (Ia.out _ HT.out).mono ?_
    rintro e w' ⟨rfl, rfl⟩
    go_wp2_with fail
    refine (Cm.out _).mono ?_
    rintro e w' ⟨rfl, rfl⟩
    go_wp2_with fail
    refine (Ib.out _ HT.out).mono ?_
    rintro e w' ⟨rfl, rfl⟩
    go_wp2_with fail
    refine (Ck.out _).mono ?_
    rintro e w' ⟨rfl, rfl⟩
    go_wp2_with fail
    refine (Ic.out _ HT.out).mono ?_
    rintro e w' ⟨rfl, rfl⟩
    go_wp2_with fail
    refine (add_any _ _ _ Ra.out Rb.out HT.out).mono ?_
    rintro e w' ⟨rfl, rfl⟩
    go_wp2_with fail
    refine (add_any _ _ _ Rb.out Ra.out HT.out).mono ?_
    rintro e w' ⟨rfl, rfl⟩
    rw [Ac.out.1, Ac.out.2]
    go_wp2_with fail
    refine (mul_any _ _ _ Ra.out Rb.out HT.out).mono ?_
    rintro e w' ⟨rfl, rfl⟩
    go_wp2_with fail
    refine (mul_any _ _ _ Rb.out Ra.out HT.out).mono ?_
    rintro e w' ⟨rfl, rfl⟩
    rw [Mc.out.1, Mc.out.2]
    go_wp2_with fail
    refine (Sh.out _ HT.out).mono ?_
    rintro e w' ⟨rfl, rfl⟩
    go_wp2_with fail
    refine (Dv.out _ HT.out).mono ?_
    rintro e w' ⟨rfl, rfl⟩
    go_wp2_with fail
    go_ret
    exact ⟨rfl, rfl⟩
  · have bk := Bk.out hp
    have Ck1 : Hid _ := bk.1
    have Ck2 : Hid _ := bk.2.1
    have Ck3 : Hid _ := bk.2.2
    clear bk
    have sbb : ∀ x : Bool, (x != x) = false := fun x => by simp
    go_enter Tryd.func7, Tryd.ntmps7
    go_wp2_with fail
    refine (known_any _ HT.out).mono ?_
    rintro e w' ⟨rfl, rfl⟩
    go_wp2_with fail
    refine (Cn.out _).mono ?_
    rintro e w' ⟨rfl, rfl⟩
    go_wp2_with fail
    refine (Ia.out _ HT.out).mono ?_
    rintro e w' ⟨rfl, rfl⟩
    go_wp2_with fail
    refine (Cm.out _).mono ?_
    rintro e w' ⟨rfl, rfl⟩
    go_wp2_with fail
    refine (Ib.out _ HT.out).mono ?_
    rintro e w' ⟨rfl, rfl⟩
    go_wp2_with fail
    refine (Ck.out _).mono ?_
    rintro e w' ⟨rfl, rfl⟩
    go_wp2_with fail
    refine (Ic.out _ HT.out).mono ?_
    rintro e w' ⟨rfl, rfl⟩
    go_wp2_with fail
    refine (add_any _ _ _ Ra.out Rb.out HT.out).mono ?_
    rintro e w' ⟨rfl, rfl⟩
    go_wp2_with fail
    refine (add_any _ _ _ Rb.out Ra.out HT.out).mono ?_
    rintro e w' ⟨rfl, rfl⟩
    rw [Ac.out.1, Ac.out.2]
    go_wp2_with fail
    refine (mul_any _ _ _ Ra.out Rb.out HT.out).mono ?_
    rintro e w' ⟨rfl, rfl⟩
    go_wp2_with fail
    refine (mul_any _ _ _ Rb.out Ra.out HT.out).mono ?_
    rintro e w' ⟨rfl, rfl⟩
    rw [Mc.out.1, Mc.out.2]
    go_wp2_with fail
    refine (sub_any _ _ _ Rs.out Rb.out HT.out).mono ?_
    rintro e w' ⟨rfl, rfl⟩
    rw [Ck1.out, Ck2.out]
    go_wp2_with fail
    refine (less_any _ _ _ Ra.out Rs.out HT.out).mono ?_
    rintro e w' ⟨rfl, rfl⟩
    rw [Ck3.out]
    go_wp2_with fail
    refine (I0.out _ HT.out).mono ?_
    rintro e w' ⟨rfl, rfl⟩
    go_wp2_with fail
    refine (less_any _ _ _ R0.out Rb.out HT.out).mono ?_
    rintro e w' ⟨rfl, rfl⟩
    go_wp2_with fail
    refine (Sh.out _ HT.out).mono ?_
    rintro e w' ⟨rfl, rfl⟩
    go_wp2_with fail
    refine (Dv.out _ HT.out).mono ?_
    rintro e w' ⟨rfl, rfl⟩
    go_wp2_with fail
    go_ret
    exact ⟨rfl, rfl⟩
end Go.Proofs.YtiijmhilhdpahaaDoor
