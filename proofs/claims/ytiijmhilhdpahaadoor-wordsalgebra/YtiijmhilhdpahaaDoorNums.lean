/- The contracts of the calls of Numbers, of the program and of the document's answer: each returns what the plain functions on numbers say, and leaves the world as it was. -/
import Derived.Test.YtiijmhilhdpahaaDoorRefs
namespace Go.Proofs.YtiijmhilhdpahaaDoor
open Go.RowKit

theorem ret_nne {a b c d e f : Int} (h : a = b) (h' : c = d) (h'' : e = f) : Ending.returned (.tuple #[.int .i64 a, .int .i64 c, .int .i64 e]) = .returned (.tuple #[.int .i64 b, .int .i64 d, .int .i64 f]) := by rw [h, h', h'']

theorem ret_be {a b : Int} {p q : Bool} (hb : p = q) (h : a = b) : Ending.returned (.tuple #[.bool p, .int .i64 a]) = .returned (.tuple #[.bool q, .int .i64 b]) := by rw [h, hb]
theorem ret_nnb {a b c d : Int} {p q : Bool} (h : a = b) (h' : c = d) (hb : p = q) : Ending.returned (.tuple #[.int .i64 a, .int .i64 c, .bool p]) = .returned (.tuple #[.int .i64 b, .int .i64 d, .bool q]) := by rw [h, h', hb]

theorem both_iff {a b : Int} : bothB a b = true ↔ (ofT a == 5) = true ∧ (ofT b == 5) = true := by unfold bothB; simp
theorem both_no {a b : Int} (h : bothB a b = false) : (ofT a == 5) = false ∨ (ofT a == 5) = true ∧ (ofT b == 5) = false := by
  unfold bothB at h; revert h; cases (ofT a == 5) <;> simp
theorem bne_of_false {a b : Int} (h : (a == b) = false) : (a != b) = true := by simp [bne, h]
theorem bne_of_true {a b : Int} (h : (a == b) = true) : (a != b) = false := by simp [bne, h]

set_option maxHeartbeats 400000 in
theorem numbers_no (a b : Int) (w : World) (ha : Rng a) (hb : Rng b) (hT : Tab w) (h : bothB a b = false) :
    Calls Tryd.prog 32 #[.int .u64 a, .int .u64 b] w fun e w' => e = .returned (.tuple #[.int .i64 0, .int .i64 0, .int .i64 10]) ∧ w' = w := by
  have HT : Hid (Tab w) := hT
  have Ha : Hid (Rng a) := ha
  have Hb : Hid (Rng b) := hb
  clear hT ha hb
  have hn := both_no h
  clear h
  rcases hn with hn | ⟨h1, hn⟩
  · have hn' := bne_of_false hn
    clear hn
    go_enter Tryd.func32, Tryd.ntmps32
    go_wp2_with fail
    refine (of_any _ _ Ha.out HT.out).mono ?_
    rintro e w' ⟨rfl, rfl⟩
    go_wp2_with fail
    refine (of_any _ _ Hb.out HT.out).mono ?_
    rintro e w' ⟨rfl, rfl⟩
    go_wp2_with fail
    go_ret3
    exact ⟨rfl, rfl⟩
  · have h1' := bne_of_true h1
    have hn' := bne_of_false hn
    clear hn h1
    go_enter Tryd.func32, Tryd.ntmps32
    go_wp2_with fail
    refine (of_any _ _ Ha.out HT.out).mono ?_
    rintro e w' ⟨rfl, rfl⟩
    go_wp2_with fail
    refine (of_any _ _ Hb.out HT.out).mono ?_
    rintro e w' ⟨rfl, rfl⟩
    go_wp2_with fail
    go_ret3
    exact ⟨rfl, rfl⟩
set_option maxHeartbeats 400000 in
theorem numbers_yes (a b : Int) (w : World) (ha : Rng a) (hb : Rng b) (hT : Tab w) (h : bothB a b = true) :
    Calls Tryd.prog 32 #[.int .u64 a, .int .u64 b] w fun e w' => e = .returned (.tuple #[.int .i64 (ofN a), .int .i64 (ofN b), .int .i64 0]) ∧ w' = w := by
  have HT : Hid (Tab w) := hT
  have Ha : Hid (Rng a) := ha
  have Hb : Hid (Rng b) := hb
  clear hT ha hb
  obtain ⟨h1, h2⟩ := both_iff.1 h
  clear h
  have h1' := bne_of_true h1
  have h2' := bne_of_true h2
  clear h1 h2
  go_enter Tryd.func32, Tryd.ntmps32
  go_wp2_with fail
  refine (of_any _ _ Ha.out HT.out).mono ?_
  rintro e w' ⟨rfl, rfl⟩
  go_wp2_with fail
  refine (of_any _ _ Hb.out HT.out).mono ?_
  rintro e w' ⟨rfl, rfl⟩
  go_wp2_with fail
  go_ret3
  exact ⟨rfl, rfl⟩

set_option maxHeartbeats 400000 in
theorem add_any (a b : Int) (w : World) (ha : Rng a) (hb : Rng b) (hT : Tab w) :
    Calls Tryd.prog 19 #[.int .u64 a, .int .u64 b] w fun e w' => e = .returned (.tuple #[.int .u64 (addW a b), .int .i64 (addE a b)]) ∧ w' = w := by
  have HT : Hid (Tab w) := hT
  have Ha : Hid (Rng a) := ha
  have Hb : Hid (Rng b) := hb
  clear hT ha hb
  have na := ofN_bd a
  have nb := ofN_bd b
  cases h : bothB a b
  all_goals
    have H : Hid _ := h
    clear h
    go_enter Tryd.func19, Tryd.ntmps19
    go_wp2_with fail
    first | refine (numbers_no _ _ _ Ha.out Hb.out HT.out H.out).mono ?_ | refine (numbers_yes _ _ _ Ha.out Hb.out HT.out H.out).mono ?_
    rintro e w' ⟨rfl, rfl⟩
    go_wp2_with ((go_at_call 11; refine (int_any _ _ HT.out).mono ?_; rintro e w' ⟨rfl, rfl⟩))
    go_ret2
    exact ⟨ret_we (by simp [addW, resW, H.out]) (by simp [addE, resE, H.out]), rfl⟩
set_option maxHeartbeats 400000 in
theorem sub_any (a b : Int) (w : World) (ha : Rng a) (hb : Rng b) (hT : Tab w) :
    Calls Tryd.prog 20 #[.int .u64 a, .int .u64 b] w fun e w' => e = .returned (.tuple #[.int .u64 (subW a b), .int .i64 (subE a b)]) ∧ w' = w := by
  have HT : Hid (Tab w) := hT
  have Ha : Hid (Rng a) := ha
  have Hb : Hid (Rng b) := hb
  clear hT ha hb
  have na := ofN_bd a
  have nb := ofN_bd b
  cases h : bothB a b
  all_goals
    have H : Hid _ := h
    clear h
    go_enter Tryd.func20, Tryd.ntmps20
    go_wp2_with fail
    first | refine (numbers_no _ _ _ Ha.out Hb.out HT.out H.out).mono ?_ | refine (numbers_yes _ _ _ Ha.out Hb.out HT.out H.out).mono ?_
    rintro e w' ⟨rfl, rfl⟩
    go_wp2_with ((go_at_call 11; refine (int_any _ _ HT.out).mono ?_; rintro e w' ⟨rfl, rfl⟩))
    go_ret2
    exact ⟨ret_we (by simp [subW, resW, H.out]) (by simp [subE, resE, H.out]), rfl⟩
set_option maxHeartbeats 400000 in
theorem less_any (a b : Int) (w : World) (ha : Rng a) (hb : Rng b) (hT : Tab w) :
    Calls Tryd.prog 25 #[.int .u64 a, .int .u64 b] w fun e w' => e = .returned (.tuple #[.bool (lessB a b), .int .i64 (lessE a b)]) ∧ w' = w := by
  have HT : Hid (Tab w) := hT
  have Ha : Hid (Rng a) := ha
  have Hb : Hid (Rng b) := hb
  clear hT ha hb
  cases h : bothB a b
  all_goals
    have H : Hid _ := h
    clear h
    go_enter Tryd.func25, Tryd.ntmps25
    go_wp2_with fail
    first | refine (numbers_no _ _ _ Ha.out Hb.out HT.out H.out).mono ?_ | refine (numbers_yes _ _ _ Ha.out Hb.out HT.out H.out).mono ?_
    rintro e w' ⟨rfl, rfl⟩
    go_wp2_with fail
    go_ret2
    exact ⟨ret_be (by simp [lessB, H.out]) (by simp [lessE, H.out]), rfl⟩

set_option maxHeartbeats 400000 in
theorem mul_any (a b : Int) (w : World) (ha : Rng a) (hb : Rng b) (hT : Tab w) :
    Calls Tryd.prog 21 #[.int .u64 a, .int .u64 b] w fun e w' => e = .returned (.tuple #[.int .u64 (mulW a b), .int .i64 (mulE a b)]) ∧ w' = w := by
  have HT : Hid (Tab w) := hT
  have Ha : Hid (Rng a) := ha
  have Hb : Hid (Rng b) := hb
  clear hT ha hb
  have na := ofN_bd a
  have nb := ofN_bd b
  cases h : bothB a b
  · have H : Hid _ := h
    clear h
    go_enter Tryd.func21, Tryd.ntmps21
    go_wp2_with fail
    refine (numbers_no _ _ _ Ha.out Hb.out HT.out H.out).mono ?_
    rintro e w' ⟨rfl, rfl⟩
    go_wp2_with fail
    go_ret2
    exact ⟨ret_we (by simp [mulW, resW, H.out]) (by simp [mulE, resE, H.out]), rfl⟩
  · have H : Hid _ := h
    clear h
    have eW : mulW a b = mkW 5 (ofN a * ofN b) := by simp [mulW, resW, H.out]
    have eE : mulE a b = mkE 5 (ofN a * ofN b) := by simp [mulE, resE, H.out]
    have HW : Hid _ := eW
    have HE : Hid _ := eE
    clear eW eE
    by_cases hz : ofN a = 0
    · have hz' : (ofN a != 0) = false := by simp [hz]
      have Hz : Hid _ := hz
      clear hz
      go_enter Tryd.func21, Tryd.ntmps21
      go_wp2_with fail
      refine (numbers_yes _ _ _ Ha.out Hb.out HT.out H.out).mono ?_
      rintro e w' ⟨rfl, rfl⟩
      go_wp2_with ((go_at_call 11; refine (int_any _ _ HT.out).mono ?_; rintro e w' ⟨rfl, rfl⟩))
      go_ret2
      have e0 : wrap64 (ofN a * ofN b) = ofN a * ofN b := by rw [Hz.out, Int.zero_mul]; exact wrap_id (by omega) (by omega)
      exact ⟨ret_we (by rw [HW.out, e0]) (by rw [HE.out, e0]), rfl⟩
    · have hz' : (ofN a != 0) = true := by simp [hz]
      cases hq : (wrap64 ((wrap64 (ofN a * ofN b)).tdiv (ofN a)) != ofN b)
      · have e0 : wrap64 (ofN a * ofN b) = ofN a * ofN b := mul_yes hz (by simpa using hq) na nb
        have H0 : Hid _ := e0
        clear e0
        go_enter Tryd.func21, Tryd.ntmps21
        go_wp2_with fail
        refine (numbers_yes _ _ _ Ha.out Hb.out HT.out H.out).mono ?_
        rintro e w' ⟨rfl, rfl⟩
        go_wp2_with ((go_at_call 11; refine (int_any _ _ HT.out).mono ?_; rintro e w' ⟨rfl, rfl⟩))
        go_ret2
        exact ⟨ret_we (by rw [HW.out, H0.out]) (by rw [HE.out, H0.out]), rfl⟩
      · have e0 := over5 (mul_no hz (by simpa using hq) nb)
        have H0 : Hid _ := e0
        clear e0
        go_enter Tryd.func21, Tryd.ntmps21
        go_wp2_with fail
        refine (numbers_yes _ _ _ Ha.out Hb.out HT.out H.out).mono ?_
        rintro e w' ⟨rfl, rfl⟩
        go_wp2_with fail
        go_ret2
        exact ⟨ret_we (by rw [HW.out, H0.out.1]) (by rw [HE.out, H0.out.2]), rfl⟩

set_option maxHeartbeats 400000 in
theorem divisible_no (a b : Int) (w : World) (ha : Rng a) (hb : Rng b) (hT : Tab w) (h : bothB a b = false) :
    Calls Tryd.prog 33 #[.int .u64 a, .int .u64 b] w fun e w' => e = .returned (.tuple #[.int .i64 0, .int .i64 0, .int .i64 10]) ∧ w' = w := by
  have HT : Hid (Tab w) := hT
  have Ha : Hid (Rng a) := ha
  have Hb : Hid (Rng b) := hb
  have H : Hid _ := h
  clear hT ha hb h
  go_enter Tryd.func33, Tryd.ntmps33
  go_wp2_with fail
  refine (numbers_no _ _ _ Ha.out Hb.out HT.out H.out).mono ?_
  rintro e w' ⟨rfl, rfl⟩
  go_wp2_with fail
  go_ret3
  exact ⟨rfl, rfl⟩
set_option maxHeartbeats 400000 in
theorem divisible_zero (a b : Int) (w : World) (ha : Rng a) (hb : Rng b) (hT : Tab w) (h : bothB a b = true) (hz : (ofN b == 0) = true) :
    Calls Tryd.prog 33 #[.int .u64 a, .int .u64 b] w fun e w' => e = .returned (.tuple #[.int .i64 0, .int .i64 0, .int .i64 12]) ∧ w' = w := by
  have HT : Hid (Tab w) := hT
  have Ha : Hid (Rng a) := ha
  have Hb : Hid (Rng b) := hb
  have H : Hid _ := h
  clear hT ha hb h
  go_enter Tryd.func33, Tryd.ntmps33
  go_wp2_with fail
  refine (numbers_yes _ _ _ Ha.out Hb.out HT.out H.out).mono ?_
  rintro e w' ⟨rfl, rfl⟩
  go_wp2_with fail
  go_ret3
  exact ⟨rfl, rfl⟩
set_option maxHeartbeats 400000 in
theorem divisible_yes (a b : Int) (w : World) (ha : Rng a) (hb : Rng b) (hT : Tab w) (h : bothB a b = true) (hz : (ofN b == 0) = false) :
    Calls Tryd.prog 33 #[.int .u64 a, .int .u64 b] w fun e w' => e = .returned (.tuple #[.int .i64 (ofN a), .int .i64 (ofN b), .int .i64 0]) ∧ w' = w := by
  have HT : Hid (Tab w) := hT
  have Ha : Hid (Rng a) := ha
  have Hb : Hid (Rng b) := hb
  have H : Hid _ := h
  clear hT ha hb h
  go_enter Tryd.func33, Tryd.ntmps33
  go_wp2_with fail
  refine (numbers_yes _ _ _ Ha.out Hb.out HT.out H.out).mono ?_
  rintro e w' ⟨rfl, rfl⟩
  go_wp2_with fail
  go_ret3
  exact ⟨rfl, rfl⟩

set_option maxHeartbeats 400000 in
theorem quo_any (a b : Int) (w : World) (ha : Rng a) (hb : Rng b) (hT : Tab w) :
    Calls Tryd.prog 22 #[.int .u64 a, .int .u64 b] w fun e w' => e = .returned (.tuple #[.int .u64 (quoW a b), .int .i64 (quoE a b)]) ∧ w' = w := by
  have HT : Hid (Tab w) := hT
  have Ha : Hid (Rng a) := ha
  have Hb : Hid (Rng b) := hb
  clear hT ha hb
  have na := ofN_bd a
  have nb := ofN_bd b
  cases h : bothB a b
  · have H : Hid _ := h
    clear h
    go_enter Tryd.func22, Tryd.ntmps22
    go_wp2_with fail
    refine (divisible_no _ _ _ Ha.out Hb.out HT.out H.out).mono ?_
    rintro e w' ⟨rfl, rfl⟩
    go_wp2_with fail
    go_ret2
    exact ⟨ret_we (by simp [quoW, divW, H.out]) (by simp [quoE, divE, H.out]), rfl⟩
  · have H : Hid _ := h
    clear h
    cases hz : (ofN b == 0)
    · have hn : ofN b ≠ 0 := by simpa using hz
      have Hz : Hid _ := hz
      have e0 : wrap64 ((ofN a).tdiv (ofN b)) = (ofN a).tdiv (ofN b) := by have := tdiv_bd (n := ofN b) na; exact wrap_id (by omega) (by omega)
      have H0 : Hid _ := e0
      clear hz e0
      go_enter Tryd.func22, Tryd.ntmps22
      go_wp2_with fail
      refine (divisible_yes _ _ _ Ha.out Hb.out HT.out H.out Hz.out).mono ?_
      rintro e w' ⟨rfl, rfl⟩
      go_wp2_with ((go_at_call 11; refine (int_any _ _ HT.out).mono ?_; rintro e w' ⟨rfl, rfl⟩))
      go_ret2
      exact ⟨ret_we (by rw [H0.out]; simp [quoW, divW, H.out, hn]) (by rw [H0.out]; simp [quoE, divE, H.out, hn]), rfl⟩
    · have hn : ofN b = 0 := by simpa using hz
      have Hz : Hid _ := hz
      have Hn : Hid _ := hn
      clear hz hn
      go_enter Tryd.func22, Tryd.ntmps22
      go_wp2_with fail
      refine (divisible_zero _ _ _ Ha.out Hb.out HT.out H.out Hz.out).mono ?_
      rintro e w' ⟨rfl, rfl⟩
      go_wp2_with fail
      go_ret2
      exact ⟨ret_we (by simp [quoW, divW, H.out, Hn.out]) (by simp [quoE, divE, H.out, Hn.out]), rfl⟩

set_option maxHeartbeats 400000 in
theorem rem_any (a b : Int) (w : World) (ha : Rng a) (hb : Rng b) (hT : Tab w) :
    Calls Tryd.prog 23 #[.int .u64 a, .int .u64 b] w fun e w' => e = .returned (.tuple #[.int .u64 (remW a b), .int .i64 (remE a b)]) ∧ w' = w := by
  have HT : Hid (Tab w) := hT
  have Ha : Hid (Rng a) := ha
  have Hb : Hid (Rng b) := hb
  clear hT ha hb
  have na := ofN_bd a
  have nb := ofN_bd b
  cases h : bothB a b
  · have H : Hid _ := h
    clear h
    go_enter Tryd.func23, Tryd.ntmps23
    go_wp2_with fail
    refine (divisible_no _ _ _ Ha.out Hb.out HT.out H.out).mono ?_
    rintro e w' ⟨rfl, rfl⟩
    go_wp2_with fail
    go_ret2
    exact ⟨ret_we (by simp [remW, divW, H.out]) (by simp [remE, divE, H.out]), rfl⟩
  · have H : Hid _ := h
    clear h
    cases hz : (ofN b == 0)
    · have hn : ofN b ≠ 0 := by simpa using hz
      have Hz : Hid _ := hz
      clear hz
      go_enter Tryd.func23, Tryd.ntmps23
      go_wp2_with fail
      refine (divisible_yes _ _ _ Ha.out Hb.out HT.out H.out Hz.out).mono ?_
      rintro e w' ⟨rfl, rfl⟩
      go_wp2_with ((go_at_call 11; refine (int_any _ _ HT.out).mono ?_; rintro e w' ⟨rfl, rfl⟩))
      go_ret2
      exact ⟨ret_we (by simp [remW, divW, H.out, hn]) (by simp [remE, divE, H.out, hn]), rfl⟩
    · have hn : ofN b = 0 := by simpa using hz
      have Hz : Hid _ := hz
      have Hn : Hid _ := hn
      clear hz hn
      go_enter Tryd.func23, Tryd.ntmps23
      go_wp2_with fail
      refine (divisible_zero _ _ _ Ha.out Hb.out HT.out H.out Hz.out).mono ?_
      rintro e w' ⟨rfl, rfl⟩
      go_wp2_with fail
      go_ret2
      exact ⟨ret_we (by simp [remW, divW, H.out, Hn.out]) (by simp [remE, divE, H.out, Hn.out]), rfl⟩
end Go.Proofs.YtiijmhilhdpahaaDoor
