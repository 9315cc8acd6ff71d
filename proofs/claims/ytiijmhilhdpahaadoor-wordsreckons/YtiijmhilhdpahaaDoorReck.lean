/- The contract of the document's own answer of Numbers: Reckon returns what the plain functions on numbers say, and leaves the world as it was. -/
import Derived.Test.YtiijmhilhdpahaaDoorNums
namespace Go.Proofs.YtiijmhilhdpahaaDoor
open Go.RowKit

theorem wd_of5 {x : Int} (h : (ofT x == 5) = true) : wd x = true := by
  cases hw : wd x
  · simp [ofT, hw] at h
  · rfl

set_option maxHeartbeats 400000 in
theorem refBoth_any (a b : Int) (w : World) (ha : Rng a) (hb : Rng b) :
    Calls Tryd.prog 34 #[.int .u64 a, .int .u64 b] w fun e w' => e = .returned (.tuple #[.int .i64 (ofN a), .int .i64 (ofN b), .bool (bothB a b)]) ∧ w' = w := by
  have Ha : Hid (Rng a) := ha
  have Hb : Hid (Rng b) := hb
  clear ha hb
  cases h : bothB a b
  · rcases both_no h with hn | ⟨h1, hn⟩
    · cases hw : wd a
      · have Hw : Hid _ := hw
        clear hw hn h
        go_enter Tryd.func34, Tryd.ntmps34
        go_wp2_with fail
        refine (refOf_any _ _ Ha.out).mono ?_
        rintro e w' ⟨rfl, rfl⟩
        rw [Hw.out]
        go_wp2_with fail
        refine (refOf_any _ _ Hb.out).mono ?_
        rintro e w' ⟨rfl, rfl⟩
        go_wp2_with fail
        go_ret3
        exact ⟨rfl, rfl⟩
      · have Hw : Hid _ := hw
        have Hn : Hid _ := hn
        clear hw hn h
        cases hv : wd b
        all_goals
          have Hv : Hid _ := hv
          clear hv
          have hn := Hn.out
          go_enter Tryd.func34, Tryd.ntmps34
          go_wp2_with fail
          refine (refOf_any _ _ Ha.out).mono ?_
          rintro e w' ⟨rfl, rfl⟩
          rw [Hw.out]
          go_wp2_with fail
          refine (refOf_any _ _ Hb.out).mono ?_
          rintro e w' ⟨rfl, rfl⟩
          rw [Hv.out]
          go_wp2_with fail
          go_ret3
          exact ⟨rfl, rfl⟩
    · have Hw : Hid _ := wd_of5 h1
      clear h
      cases hv : wd b
      all_goals
        have Hv : Hid _ := hv
        clear hv
        go_enter Tryd.func34, Tryd.ntmps34
        go_wp2_with fail
        refine (refOf_any _ _ Ha.out).mono ?_
        rintro e w' ⟨rfl, rfl⟩
        rw [Hw.out]
        go_wp2_with fail
        refine (refOf_any _ _ Hb.out).mono ?_
        rintro e w' ⟨rfl, rfl⟩
        rw [Hv.out]
        go_wp2_with fail
        go_ret3
        exact ⟨rfl, rfl⟩
  · obtain ⟨h1, h2⟩ := both_iff.1 h
    have Hw : Hid _ := wd_of5 h1
    have Hv : Hid _ := wd_of5 h2
    clear h
    go_enter Tryd.func34, Tryd.ntmps34
    go_wp2_with fail
    refine (refOf_any _ _ Ha.out).mono ?_
    rintro e w' ⟨rfl, rfl⟩
    rw [Hw.out]
    go_wp2_with fail
    refine (refOf_any _ _ Hb.out).mono ?_
    rintro e w' ⟨rfl, rfl⟩
    rw [Hv.out]
    go_wp2_with fail
    go_ret3
    exact ⟨rfl, rfl⟩

/-- What Reckon answers, by the operation's number. -/
def rkW (i : Nat) (a b : Int) : Int := match i with | 0 => addW a b | 1 => subW a b | 2 => mulW a b | 3 => quoW a b | _ => remW a b
def rkE (i : Nat) (a b : Int) : Int := match i with | 0 => addE a b | 1 => subE a b | 2 => mulE a b | 3 => quoE a b | _ => remE a b

set_option maxHeartbeats 400000 in
theorem reckon_no (i : Nat) (a b : Int) (w : World) (ha : Rng a) (hb : Rng b) (hi : i < 5) (h : bothB a b = false) :
    Calls Tryd.prog 24 #[.int .i64 i, .int .u64 a, .int .u64 b] w fun e w' => e = .returned (.tuple #[.int .u64 (rkW i a b), .int .i64 (rkE i a b)]) ∧ w' = w := by
  have Ha : Hid (Rng a) := ha
  have Hb : Hid (Rng b) := hb
  have H : Hid _ := h
  clear ha hb h
  go_enter Tryd.func24, Tryd.ntmps24
  go_wp2_with fail
  refine (refBoth_any _ _ _ Ha.out Hb.out).mono ?_
  rintro e w' ⟨rfl, rfl⟩
  rw [H.out]
  go_wp2_with fail
  go_ret2
  have hd : i = 0 ∨ i = 1 ∨ i = 2 ∨ i = 3 ∨ i = 4 := by omega
  rcases hd with rfl | rfl | rfl | rfl | rfl
  all_goals exact ⟨ret_we (by simp [rkW, addW, subW, mulW, quoW, remW, resW, divW, H.out]) (by simp [rkE, addE, subE, mulE, quoE, remE, resE, divE, H.out]), rfl⟩

theorem sum_cases (v : Int) : v < -576460752303423488 ∨ (¬ v < -576460752303423488 ∧ 576460752303423487 < v) ∨ (¬ v < -576460752303423488 ∧ ¬ 576460752303423487 < v) := by omega

set_option maxHeartbeats 1000000 in
theorem reckon_add (a b : Int) (w : World) (ha : Rng a) (hb : Rng b) (h : bothB a b = true) :
    Calls Tryd.prog 24 #[.int .i64 0, .int .u64 a, .int .u64 b] w fun e w' => e = .returned (.tuple #[.int .u64 (addW a b), .int .i64 (addE a b)]) ∧ w' = w := by
  have Ha : Hid (Rng a) := ha
  have Hb : Hid (Rng b) := hb
  have H : Hid _ := h
  clear ha hb h
  have na := ofN_bd a
  have nb := ofN_bd b
  have eW : Hid (addW a b = mkW 5 (ofN a + ofN b)) := by show addW a b = _; simp [addW, resW, H.out]
  have eE : Hid (addE a b = mkE 5 (ofN a + ofN b)) := by show addE a b = _; simp [addE, resE, H.out]
  rcases sum_cases (ofN a + ofN b) with hc | ⟨hc, hd⟩ | ⟨hc, hd⟩
  · go_enter Tryd.func24, Tryd.ntmps24
    go_wp2_with fail
    refine (refBoth_any _ _ _ Ha.out Hb.out).mono ?_
    rintro e w' ⟨rfl, rfl⟩
    rw [H.out]
    go_wp2_with fail
    go_ret2
    have h0 := over5 (v := ofN a + ofN b) (by omega)
    exact ⟨ret_we (by rw [eW.out, h0.1]) (by rw [eE.out, h0.2]), rfl⟩
  · go_enter Tryd.func24, Tryd.ntmps24
    go_wp2_with fail
    refine (refBoth_any _ _ _ Ha.out Hb.out).mono ?_
    rintro e w' ⟨rfl, rfl⟩
    rw [H.out]
    go_wp2_with fail
    go_ret2
    have h0 := over5 (v := ofN a + ofN b) (by omega)
    exact ⟨ret_we (by rw [eW.out, h0.1]) (by rw [eE.out, h0.2]), rfl⟩
  · go_enter Tryd.func24, Tryd.ntmps24
    go_wp2_with fail
    refine (refBoth_any _ _ _ Ha.out Hb.out).mono ?_
    rintro e w' ⟨rfl, rfl⟩
    rw [H.out]
    go_wp2_with ((go_at_call 10; refine (refMake_any _ _ _ (by omega) (by omega)).mono ?_; rintro e w' ⟨rfl, rfl⟩))
    go_ret2
    exact ⟨ret_we (by rw [eW.out]) (by rw [eE.out]), rfl⟩

set_option maxHeartbeats 1000000 in
theorem reckon_sub (a b : Int) (w : World) (ha : Rng a) (hb : Rng b) (h : bothB a b = true) :
    Calls Tryd.prog 24 #[.int .i64 1, .int .u64 a, .int .u64 b] w fun e w' => e = .returned (.tuple #[.int .u64 (subW a b), .int .i64 (subE a b)]) ∧ w' = w := by
  have Ha : Hid (Rng a) := ha
  have Hb : Hid (Rng b) := hb
  have H : Hid _ := h
  clear ha hb h
  have na := ofN_bd a
  have nb := ofN_bd b
  have eW : Hid (subW a b = mkW 5 (ofN a - ofN b)) := by show subW a b = _; simp [subW, resW, H.out]
  have eE : Hid (subE a b = mkE 5 (ofN a - ofN b)) := by show subE a b = _; simp [subE, resE, H.out]
  rcases sum_cases (ofN a - ofN b) with hc | ⟨hc, hd⟩ | ⟨hc, hd⟩
  · go_enter Tryd.func24, Tryd.ntmps24
    go_wp2_with fail
    refine (refBoth_any _ _ _ Ha.out Hb.out).mono ?_
    rintro e w' ⟨rfl, rfl⟩
    rw [H.out]
    go_wp2_with fail
    go_ret2
    have h0 := over5 (v := ofN a - ofN b) (by omega)
    exact ⟨ret_we (by rw [eW.out, h0.1]) (by rw [eE.out, h0.2]), rfl⟩
  · go_enter Tryd.func24, Tryd.ntmps24
    go_wp2_with fail
    refine (refBoth_any _ _ _ Ha.out Hb.out).mono ?_
    rintro e w' ⟨rfl, rfl⟩
    rw [H.out]
    go_wp2_with fail
    go_ret2
    have h0 := over5 (v := ofN a - ofN b) (by omega)
    exact ⟨ret_we (by rw [eW.out, h0.1]) (by rw [eE.out, h0.2]), rfl⟩
  · go_enter Tryd.func24, Tryd.ntmps24
    go_wp2_with fail
    refine (refBoth_any _ _ _ Ha.out Hb.out).mono ?_
    rintro e w' ⟨rfl, rfl⟩
    rw [H.out]
    go_wp2_with ((go_at_call 10; refine (refMake_any _ _ _ (by omega) (by omega)).mono ?_; rintro e w' ⟨rfl, rfl⟩))
    go_ret2
    exact ⟨ret_we (by rw [eW.out]) (by rw [eE.out]), rfl⟩

set_option maxHeartbeats 1000000 in
theorem reckon_mul (a b : Int) (w : World) (ha : Rng a) (hb : Rng b) (h : bothB a b = true) :
    Calls Tryd.prog 24 #[.int .i64 2, .int .u64 a, .int .u64 b] w fun e w' => e = .returned (.tuple #[.int .u64 (mulW a b), .int .i64 (mulE a b)]) ∧ w' = w := by
  have Ha : Hid (Rng a) := ha
  have Hb : Hid (Rng b) := hb
  have H : Hid _ := h
  clear ha hb h
  have na := ofN_bd a
  have nb := ofN_bd b
  have eW : Hid (mulW a b = mkW 5 (ofN a * ofN b)) := by show mulW a b = _; simp [mulW, resW, H.out]
  have eE : Hid (mulE a b = mkE 5 (ofN a * ofN b)) := by show mulE a b = _; simp [mulE, resE, H.out]
  by_cases hz : ofN a = 0
  · have hz' : (ofN a != 0) = false := by simp [hz]
    have Hz : Hid _ := hz
    clear hz
    have hp : wrap64 (ofN a * ofN b) = ofN a * ofN b := by rw [Hz.out, Int.zero_mul]; exact wrap_id (by omega) (by omega)
    have hc : ¬ wrap64 (ofN a * ofN b) < -576460752303423488 := by rw [hp, Hz.out]; omega
    have hd : ¬ 576460752303423487 < wrap64 (ofN a * ofN b) := by rw [hp, Hz.out]; omega
    have Hp : Hid _ := hp
    clear hp
    go_enter Tryd.func24, Tryd.ntmps24
    go_wp2_with fail
    refine (refBoth_any _ _ _ Ha.out Hb.out).mono ?_
    rintro e w' ⟨rfl, rfl⟩
    rw [H.out]
    go_wp2_with ((go_at_call 10; refine (refMake_any _ _ _ (by omega) (by omega)).mono ?_; rintro e w' ⟨rfl, rfl⟩))
    go_ret2
    exact ⟨ret_we (by rw [eW.out, Hp.out]) (by rw [eE.out, Hp.out]), rfl⟩
  · have hz' : (ofN a != 0) = true := by simp [hz]
    cases hq : (wrap64 ((wrap64 (ofN a * ofN b)).tdiv (ofN a)) != ofN b)
    · have hp : wrap64 (ofN a * ofN b) = ofN a * ofN b := mul_yes hz (by simpa using hq) na nb
      rcases sum_cases (wrap64 (ofN a * ofN b)) with hc | ⟨hc, hd⟩ | ⟨hc, hd⟩
      · have h0 : Hid _ := over5 (v := ofN a * ofN b) (by rw [hp] at hc; omega)
        clear hp
        go_enter Tryd.func24, Tryd.ntmps24
        go_wp2_with fail
        refine (refBoth_any _ _ _ Ha.out Hb.out).mono ?_
        rintro e w' ⟨rfl, rfl⟩
        rw [H.out]
        go_wp2_with fail
        go_ret2
        exact ⟨ret_we (by rw [eW.out, h0.out.1]) (by rw [eE.out, h0.out.2]), rfl⟩
      · have h0 : Hid _ := over5 (v := ofN a * ofN b) (by rw [hp] at hc hd; omega)
        clear hp
        go_enter Tryd.func24, Tryd.ntmps24
        go_wp2_with fail
        refine (refBoth_any _ _ _ Ha.out Hb.out).mono ?_
        rintro e w' ⟨rfl, rfl⟩
        rw [H.out]
        go_wp2_with fail
        go_ret2
        exact ⟨ret_we (by rw [eW.out, h0.out.1]) (by rw [eE.out, h0.out.2]), rfl⟩
      · have Hp : Hid _ := hp
        clear hp
        go_enter Tryd.func24, Tryd.ntmps24
        go_wp2_with fail
        refine (refBoth_any _ _ _ Ha.out Hb.out).mono ?_
        rintro e w' ⟨rfl, rfl⟩
        rw [H.out]
        go_wp2_with ((go_at_call 10; refine (refMake_any _ _ _ (by omega) (by omega)).mono ?_; rintro e w' ⟨rfl, rfl⟩))
        go_ret2
        exact ⟨ret_we (by rw [eW.out, Hp.out]) (by rw [eE.out, Hp.out]), rfl⟩
    · have h0 : Hid _ := over5 (mul_no hz (by simpa using hq) nb)
      go_enter Tryd.func24, Tryd.ntmps24
      go_wp2_with fail
      refine (refBoth_any _ _ _ Ha.out Hb.out).mono ?_
      rintro e w' ⟨rfl, rfl⟩
      rw [H.out]
      go_wp2_with fail
      go_ret2
      exact ⟨ret_we (by rw [eW.out, h0.out.1]) (by rw [eE.out, h0.out.2]), rfl⟩

set_option maxHeartbeats 1000000 in
theorem reckon_quo_zero (a b : Int) (w : World) (ha : Rng a) (hb : Rng b) (h : bothB a b = true) (hz : (ofN b == 0) = true) :
    Calls Tryd.prog 24 #[.int .i64 3, .int .u64 a, .int .u64 b] w fun e w' => e = .returned (.tuple #[.int .u64 0, .int .i64 12]) ∧ w' = w := by
  have Ha : Hid (Rng a) := ha
  have Hb : Hid (Rng b) := hb
  have H : Hid _ := h
  clear ha hb h
  go_enter Tryd.func24, Tryd.ntmps24
  go_wp2_with fail
  refine (refBoth_any _ _ _ Ha.out Hb.out).mono ?_
  rintro e w' ⟨rfl, rfl⟩
  rw [H.out]
  go_wp2_with fail
  go_ret2
  exact ⟨rfl, rfl⟩

set_option maxHeartbeats 1000000 in
theorem reckon_rem_zero (a b : Int) (w : World) (ha : Rng a) (hb : Rng b) (h : bothB a b = true) (hz : (ofN b == 0) = true) :
    Calls Tryd.prog 24 #[.int .i64 4, .int .u64 a, .int .u64 b] w fun e w' => e = .returned (.tuple #[.int .u64 0, .int .i64 12]) ∧ w' = w := by
  have Ha : Hid (Rng a) := ha
  have Hb : Hid (Rng b) := hb
  have H : Hid _ := h
  clear ha hb h
  go_enter Tryd.func24, Tryd.ntmps24
  go_wp2_with fail
  refine (refBoth_any _ _ _ Ha.out Hb.out).mono ?_
  rintro e w' ⟨rfl, rfl⟩
  rw [H.out]
  go_wp2_with fail
  go_ret2
  exact ⟨rfl, rfl⟩

theorem quo_cases {m n : Int} (h : -576460752303423488 ≤ m.tdiv n) : ¬ m.tdiv n < -576460752303423488 := by omega

set_option maxHeartbeats 1000000 in
theorem reckon_quo (a b : Int) (w : World) (ha : Rng a) (hb : Rng b) (h : bothB a b = true) (hz : (ofN b == 0) = false) :
    Calls Tryd.prog 24 #[.int .i64 3, .int .u64 a, .int .u64 b] w fun e w' => e = .returned (.tuple #[.int .u64 (mkW 5 ((ofN a).tdiv (ofN b))), .int .i64 (mkE 5 ((ofN a).tdiv (ofN b)))]) ∧ w' = w := by
  have Ha : Hid (Rng a) := ha
  have Hb : Hid (Rng b) := hb
  have H : Hid _ := h
  clear ha hb h
  have na := ofN_bd a
  have nb := ofN_bd b
  have hn : ofN b ≠ 0 := by simpa using hz
  have hq := tdiv_bd (n := ofN b) na
  have e0 : wrap64 ((ofN a).tdiv (ofN b)) = (ofN a).tdiv (ofN b) := wrap_id (by omega) (by omega)
  have hc : ¬ (ofN a).tdiv (ofN b) < -576460752303423488 := by omega
  by_cases hd : 576460752303423487 < (ofN a).tdiv (ofN b)
  · go_enter Tryd.func24, Tryd.ntmps24
    go_wp2_with fail
    refine (refBoth_any _ _ _ Ha.out Hb.out).mono ?_
    rintro e w' ⟨rfl, rfl⟩
    rw [H.out]
    go_wp2_with fail
    go_ret2
    have h0 := over5 (v := (ofN a).tdiv (ofN b)) (by omega)
    exact ⟨ret_we (by rw [h0.1]) (by rw [h0.2]), rfl⟩
  · go_enter Tryd.func24, Tryd.ntmps24
    go_wp2_with fail
    refine (refBoth_any _ _ _ Ha.out Hb.out).mono ?_
    rintro e w' ⟨rfl, rfl⟩
    rw [H.out]
    go_wp2_with ((go_at_call 10; refine (refMake_any _ _ _ (by omega) (by omega)).mono ?_; rintro e w' ⟨rfl, rfl⟩))
    go_ret2
    exact ⟨rfl, rfl⟩

set_option maxHeartbeats 1000000 in
theorem reckon_rem (a b : Int) (w : World) (ha : Rng a) (hb : Rng b) (h : bothB a b = true) (hz : (ofN b == 0) = false) :
    Calls Tryd.prog 24 #[.int .i64 4, .int .u64 a, .int .u64 b] w fun e w' => e = .returned (.tuple #[.int .u64 (mkW 5 ((ofN a).tmod (ofN b))), .int .i64 (mkE 5 ((ofN a).tmod (ofN b)))]) ∧ w' = w := by
  have Ha : Hid (Rng a) := ha
  have Hb : Hid (Rng b) := hb
  have H : Hid _ := h
  clear ha hb h
  have na := ofN_bd a
  have nb := ofN_bd b
  have hn : ofN b ≠ 0 := by simpa using hz
  have hq := tdiv_bd (n := ofN b) na
  have hr := tmod_bd (n := ofN b) na
  have er := rem_eq (ofN a) (ofN b)
  have e0 : wrap64 ((ofN a).tdiv (ofN b)) = (ofN a).tdiv (ofN b) := wrap_id (by omega) (by omega)
  have e1 : wrap64 (ofN b * (ofN a).tdiv (ofN b)) = ofN b * (ofN a).tdiv (ofN b) := wrap_id (by omega) (by omega)
  have hc : ¬ (ofN a).tmod (ofN b) < -576460752303423488 := by omega
  have hd : ¬ 576460752303423487 < (ofN a).tmod (ofN b) := by omega
  go_enter Tryd.func24, Tryd.ntmps24
  go_wp2_with fail
  refine (refBoth_any _ _ _ Ha.out Hb.out).mono ?_
  rintro e w' ⟨rfl, rfl⟩
  rw [H.out]
  go_wp2_with ((go_at_call 10; refine (refMake_any _ _ _ (by omega) (by omega)).mono ?_; rintro e w' ⟨rfl, rfl⟩))
  go_ret2
  exact ⟨rfl, rfl⟩

theorem reckon_any (i : Nat) (a b : Int) (w : World) (ha : Rng a) (hb : Rng b) (hi : i < 5) :
    Calls Tryd.prog 24 #[.int .i64 i, .int .u64 a, .int .u64 b] w fun e w' => e = .returned (.tuple #[.int .u64 (rkW i a b), .int .i64 (rkE i a b)]) ∧ w' = w := by
  cases h : bothB a b
  · exact reckon_no i a b w ha hb hi h
  · have hd : i = 0 ∨ i = 1 ∨ i = 2 ∨ i = 3 ∨ i = 4 := by omega
    rcases hd with rfl | rfl | rfl | rfl | rfl
    · exact reckon_add a b w ha hb h
    · exact reckon_sub a b w ha hb h
    · exact reckon_mul a b w ha hb h
    · cases hz : (ofN b == 0)
      · have hn : ofN b ≠ 0 := by simpa using hz
        have e1 : rkW 3 a b = mkW 5 ((ofN a).tdiv (ofN b)) := by simp [rkW, quoW, divW, h, hn]
        have e2 : rkE 3 a b = mkE 5 ((ofN a).tdiv (ofN b)) := by simp [rkE, quoE, divE, h, hn]
        rw [e1, e2]; exact reckon_quo a b w ha hb h hz
      · have hn : ofN b = 0 := by simpa using hz
        have e1 : rkW 3 a b = 0 := by simp [rkW, quoW, divW, h, hn]
        have e2 : rkE 3 a b = 12 := by simp [rkE, quoE, divE, h, hn]
        rw [e1, e2]; exact reckon_quo_zero a b w ha hb h hz
    · cases hz : (ofN b == 0)
      · have hn : ofN b ≠ 0 := by simpa using hz
        have e1 : rkW 4 a b = mkW 5 ((ofN a).tmod (ofN b)) := by simp [rkW, remW, divW, h, hn]
        have e2 : rkE 4 a b = mkE 5 ((ofN a).tmod (ofN b)) := by simp [rkE, remE, divE, h, hn]
        rw [e1, e2]; exact reckon_rem a b w ha hb h hz
      · have hn : ofN b = 0 := by simpa using hz
        have e1 : rkW 4 a b = 0 := by simp [rkW, remW, divW, h, hn]
        have e2 : rkE 4 a b = 12 := by simp [rkE, remE, divE, h, hn]
        rw [e1, e2]; exact reckon_rem_zero a b w ha hb h hz

end Go.Proofs.YtiijmhilhdpahaaDoor
