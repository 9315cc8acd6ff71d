/- The contracts of the lexer's inner functions: each returns what the plain functions on lists of bytes say. -/
import Derived.Test.YtfdpbmbafpieoaaDoorShelf
import Derived.Test.YtfdpbmbafpieoaaDoorMath
import Derived.WalkKit
import Derived.WalkSpells
import Derived.WalkLawsBesides
import Derived.Below
namespace Go.Proofs.YtfdpbmbafpieoaaDoor
open Go.RowKit

theorem ret_bool {a b : Bool} (h : a = b) : Ending.returned (.bool a) = .returned (.bool b) := by rw [h]
theorem ret_int {k : IntKind} {a b : Int} (h : a = b) : Ending.returned (.int k a) = .returned (.int k b) := by rw [h]

set_option maxHeartbeats 400000 in
theorem isOfWord_any (c : Int) (w : World) (h0 : 0 ≤ c) (h1 : c ≤ 255) :
    Calls Tryd.prog 50 #[.int .u8 c] w fun e w' => e = .returned (.bool (isWI c)) ∧ w' = w := by
  go_enter Tryd.func50, Tryd.ntmps50
  go_wp2
  all_goals go_ret
  all_goals refine ⟨ret_bool ?_, rfl⟩
  all_goals (simp only [beq_iff_eq, beq_eq_false_iff_ne, ne_eq] at *; rw [Bool.eq_iff_iff]; simp [isWI]; omega)

set_option maxHeartbeats 400000 in
theorem isDigit_any (c : Int) (w : World) (h0 : 0 ≤ c) (h1 : c ≤ 255) :
    Calls Tryd.prog 61 #[.int .u8 c] w fun e w' => e = .returned (.bool (isDI c)) ∧ w' = w := by
  go_enter Tryd.func61, Tryd.ntmps61
  go_wp2
  all_goals go_ret
  all_goals exact ⟨ret_bool (by unfold isDI; rw [Bool.eq_iff_iff]; simp; omega), rfl⟩

theorem drop_step (s : ByteArray) (k : Nat) (h : k < s.size) : s.data.toList.drop k = s[k] :: s.data.toList.drop (k + 1) := by
  rw [List.drop_eq_getElem_cons (by simpa using h)]; rfl
theorem drop_all (s : ByteArray) (k : Nat) (h : s.size ≤ k) : s.data.toList.drop k = [] := by
  rw [List.drop_eq_nil_iff]; simpa using h

set_option maxHeartbeats 400000 in
theorem lineEnd_any (s : ByteArray) (a : Nat) (w : World) (hs : s.size ≤ maxLen) (h : a ≤ s.size) :
    Calls Tryd.prog 55 #[.string s, .int .i64 a] w fun e w' => (∃ k : Nat, a ≤ k ∧ k ≤ s.size ∧ e = .returned (.int .i64 k) ∧ leave true (s.data.toList.drop a) = leave false (s.data.toList.drop k) ∧ ∀ h : k < s.size, s[k].toNat = 10) ∧ w' = w := by
  unfold maxLen at hs
  go_enter Tryd.func55, Tryd.ntmps55
  go_wp2
  go_loop [1] (fun i => ∃ k : Nat, a ≤ k ∧ k ≤ s.size ∧ i = .int .i64 k ∧ Hid (leave true (s.data.toList.drop a) = leave true (s.data.toList.drop k))) (fun i => s.size - (intOf i).toNat)
  case atStart => exact ⟨a, Nat.le_refl _, h, rfl, rfl⟩
  case round =>
    obtain ⟨k, hk, hk', rfl, H⟩ := hrel
    by_cases hlt : k < s.size
    · have hd : Hid _ := drop_step s k hlt
      by_cases hc : s[k].toNat = 10
      · have hc' : (((s[k].toNat : Nat) : Int) != 10) = false := by simp [hc]
        have Hc : Hid _ := hc
        clear hc
        go_wp2
        go_ret
        refine ⟨⟨k, hk, hk', rfl, ?_, fun _ => Hc.out⟩, rfl⟩
        have H' := H.out; have hd' := hd.out; have hc := Hc.out
        rw [H', hd']; simp [leave, isB, isBI, hc]
      · have hc' : (((s[k].toNat : Nat) : Int) != 10) = true := by simp; omega
        have Hc : Hid _ := hc
        clear hc
        go_wp2
        go_round
        case rel =>
          refine ⟨k + 1, by omega, by omega, by go_num, ?_⟩
          have H' := H.out; have hd' := hd.out; have hc := Hc.out
          show leave true (s.data.toList.drop a) = leave true (s.data.toList.drop (k + 1))
          rw [H', hd', leave, if_neg hc]
        case measure => simp [intOf]; omega
    · go_wp2
      go_ret
      refine ⟨⟨k, hk, hk', rfl, ?_, fun h => absurd h hlt⟩, rfl⟩
      have H' := H.out
      rw [H', drop_all s k (by omega)]; simp [leave]

theorem leave_blank (b : UInt8) (r : List UInt8) (h : (b.toNat : Int) = 32 ∨ (b.toNat : Int) = 9 ∨ (b.toNat : Int) = 10 ∨ (b.toNat : Int) = 13) : leave false (b :: r) = leave false r := by
  have : isB b = true := by simp [isB, isBI]; omega
  simp [leave, this]
theorem leave_semi (b : UInt8) (r : List UInt8) (h : (b.toNat : Int) = 59) : leave false (b :: r) = leave true (b :: r) := by
  have h1 : b.toNat = 59 := by omega
  have : isB b = false := by simp [isB, isBI, h1]
  simp [leave, this, h1]
theorem leave_stay (b : UInt8) (r : List UInt8) (h : ¬ ((b.toNat : Int) = 32 ∨ (b.toNat : Int) = 9 ∨ (b.toNat : Int) = 10 ∨ (b.toNat : Int) = 13)) (h' : ¬ (b.toNat : Int) = 59) : leave false (b :: r) = b :: r := by
  have : isB b = false := by
    cases e : isB b with
    | false => rfl
    | true => exfalso; apply h; simp [isB, isBI] at e; omega
  rw [leave, this, if_neg (by simp), if_neg (by omega)]
theorem size_len (s : ByteArray) : s.size = s.data.toList.length := by simp only [Array.length_toList]; rfl
theorem byte_le (s : ByteArray) (k : Nat) (h : k < s.size) : (s[k].toNat : Int) ≤ 255 := by have := s[k].toNat_lt; omega

set_option maxHeartbeats 400000 in
theorem leaveOut_any (s : ByteArray) (a : Nat) (w : World) (hs : s.size ≤ maxLen) (h : a ≤ s.size) :
    Calls Tryd.prog 47 #[.string s, .int .i64 a] w fun e w' => (∃ k : Nat, a ≤ k ∧ k ≤ s.size ∧ e = .returned (.int .i64 k) ∧ leave false (s.data.toList.drop a) = s.data.toList.drop k) ∧ w' = w := by
  have Hs : Hid _ := hs
  unfold maxLen at hs
  go_enter Tryd.func47, Tryd.ntmps47
  go_wp2
  go_loop [1] (fun i => ∃ k : Nat, a ≤ k ∧ k ≤ s.size ∧ i = .int .i64 k ∧ Hid (leave false (s.data.toList.drop a) = leave false (s.data.toList.drop k))) (fun i => s.size - (intOf i).toNat)
  case atStart => exact ⟨a, Nat.le_refl _, h, rfl, rfl⟩
  case round =>
    obtain ⟨k, hk, hk', rfl, H⟩ := hrel
    by_cases hlt : k < s.size
    · have hd : Hid _ := drop_step s k hlt
      have hb := byte_le s k hlt
      have hcases : ((s[k].toNat : Int) = 32 ∨ (s[k].toNat : Int) = 9 ∨ (s[k].toNat : Int) = 10 ∨ (s[k].toNat : Int) = 13) ∨ (s[k].toNat : Int) = 59 ∨ (¬ ((s[k].toNat : Int) = 32 ∨ (s[k].toNat : Int) = 9 ∨ (s[k].toNat : Int) = 10 ∨ (s[k].toNat : Int) = 13) ∧ ¬ (s[k].toNat : Int) = 59) := by omega
      rcases hcases with hc | hc | ⟨hc, hc2⟩
      · have nx : Hid (leave false (s.data.toList.drop a) = leave false (s.data.toList.drop (k + 1))) := by
          show _ = _
          rw [H.out, hd.out, leave_blank _ _ hc]
        rcases hc with hc | hc | hc | hc
        all_goals
          go_wp2
          go_round
          case rel => exact ⟨k + 1, by omega, by omega, by go_num, nx⟩
          case measure => simp [intOf]; omega
      · have nx : Hid (leave false (s.data.toList.drop a) = leave true (s.data.toList.drop k)) := by
          show _ = _
          rw [H.out, hd.out, leave_semi _ _ hc]
        have H10 : Hid (¬ s[k].toNat = 10) := by show ¬ _; omega
        go_wp2_with fail
        refine (lineEnd_any s k _ Hs.out (by omega)).mono ?_
        rintro e w' ⟨⟨j, hj, hj', rfl, Hj⟩, rfl⟩
        have HJ : Hid _ := Hj
        clear Hj
        go_wp2
        go_round
        case rel => exact ⟨j, by omega, hj', rfl, nx.out.trans HJ.out.1⟩
        case measure =>
          have hne : ¬ j = k := by rintro rfl; exact H10.out (HJ.out.2 hlt)
          simp [intOf]; omega
      · have e1 : ((s[k].toNat : Int) == 32) = false := beq_eq_false_iff_ne.2 (by omega)
        have e2 : ((s[k].toNat : Int) == 9) = false := beq_eq_false_iff_ne.2 (by omega)
        have e3 : ((s[k].toNat : Int) == 10) = false := beq_eq_false_iff_ne.2 (by omega)
        have e4 : ((s[k].toNat : Int) == 13) = false := beq_eq_false_iff_ne.2 (by omega)
        have e5 : ((s[k].toNat : Int) == 59) = false := beq_eq_false_iff_ne.2 (by omega)
        have nx : Hid (leave false (s.data.toList.drop a) = s.data.toList.drop k) := by
          show _ = _
          rw [H.out, hd.out, leave_stay _ _ hc hc2]
        clear hc hc2
        go_wp2
        go_ret
        exact ⟨⟨k, hk, hk', rfl, nx.out⟩, rfl⟩
    · go_wp2
      go_ret
      refine ⟨⟨k, hk, hk', rfl, ?_⟩, rfl⟩
      have H' := H.out
      rw [H', drop_all s k (by omega)]; simp [leave]

set_option maxHeartbeats 400000 in
theorem wordSize_any (s : ByteArray) (w : World) (hs : s.size ≤ maxLen) :
    Calls Tryd.prog 51 #[.string s] w fun e w' => e = .returned (.int .i64 ((s.data.toList.takeWhile isW).length : Nat)) ∧ w' = w := by
  unfold maxLen at hs
  go_enter Tryd.func51, Tryd.ntmps51
  go_wp2
  go_loop [3] (fun i => ∃ k : Nat, k ≤ s.size ∧ i = .int .i64 k ∧ Hid ((s.data.toList.takeWhile isW).length = k + ((s.data.toList.drop k).takeWhile isW).length)) (fun i => s.size - (intOf i).toNat)
  case atStart => exact ⟨0, Nat.zero_le _, rfl, by show _ = _; simp⟩
  case round =>
    obtain ⟨k, hk, rfl, H⟩ := hrel
    by_cases hlt : k < s.size
    · have hd : Hid _ := drop_step s k hlt
      have hb := byte_le s k hlt
      cases hc : isWI s[k].toNat
      · have nx : Hid ((s.data.toList.takeWhile isW).length = k) := by
          show _ = _
          rw [H.out, hd.out]; simp [isW, hc]
        go_wp2_with (go_at_call 50; refine (isOfWord_any _ _ (by omega) (by omega)).mono ?_; rintro e w' ⟨rfl, rfl⟩)
        go_ret
        exact ⟨ret_int (by rw [nx.out]), rfl⟩
      · have nx : Hid ((s.data.toList.takeWhile isW).length = (k + 1) + ((s.data.toList.drop (k + 1)).takeWhile isW).length) := by
          show _ = _
          rw [H.out, hd.out]; simp [isW, hc]; omega
        go_wp2_with (go_at_call 50; refine (isOfWord_any _ _ (by omega) (by omega)).mono ?_; rintro e w' ⟨rfl, rfl⟩)
        go_round
        case rel => exact ⟨k + 1, by omega, by go_num, nx⟩
        case measure => simp [intOf]; omega
    · have nx : Hid ((s.data.toList.takeWhile isW).length = k) := by
        show _ = _
        rw [H.out, drop_all s k (by omega)]; simp
      go_wp2
      go_ret
      exact ⟨ret_int (by rw [nx.out]), rfl⟩

theorem trim_unsign (l : List UInt8) : Lib.trimPrefix l [45] = unsign l := by
  cases l with
  | nil => rfl
  | cons b r =>
    simp only [Lib.trimPrefix, Lib.hasPrefix, unsign, List.isPrefixOf]
    by_cases h : b.toNat = 45
    · have : b = 45 := UInt8.toNat_inj.1 h
      simp [this]
    · have : ¬ b = 45 := fun e => h (by rw [e]; rfl)
      simp [h, Ne.symm this]
theorem trim_string (s : ByteArray) : ∃ d : ByteArray, d.data.toList = unsign s.data.toList ∧ (⟨(Lib.trimPrefix s.data.toList (ByteArray.mk #[45]).data.toList).toArray⟩ : ByteArray) = d :=
  ⟨_, by rw [show (ByteArray.mk #[45]).data.toList = [45] from rfl, trim_unsign], rfl⟩
theorem unsign_le (l : List UInt8) : (unsign l).length ≤ l.length := by
  cases l with
  | nil => simp [unsign]
  | cons b r => simp only [unsign]; split <;> simp

set_option maxHeartbeats 400000 in
theorem isNumber_any (s : ByteArray) (w : World) (hs : s.size ≤ maxLen) :
    Calls Tryd.prog 56 #[.string s] w fun e w' => e = .returned (.bool (isNum s.data.toList)) ∧ w' = w := by
  unfold maxLen at hs
  obtain ⟨d, hd, he⟩ := trim_string s
  have hds : d.size ≤ s.size := by rw [size_len, size_len, hd]; exact unsign_le _
  have Hd : Hid _ := hd
  have Hn : Hid (isNum s.data.toList = ((d.data.toList).all isD && !d.data.toList.isEmpty)) := by show _ = _; rw [hd]; rfl
  have He : Hid _ := he
  clear hd he
  go_enter Tryd.func56, Tryd.ntmps56
  go_wp2_with (go_at_call 60; refine (Tryd.strings_TrimPrefix _ _ _).mono ?_; rintro e w' ⟨rfl, rfl⟩; rw [He.out])
  go_loop [9] (fun i => ∃ k : Nat, k ≤ d.size ∧ i = .int .i64 k ∧ Hid ((d.data.toList).all isD = (d.data.toList.drop k).all isD)) (fun i => d.size - (intOf i).toNat)
  case atStart => exact ⟨0, Nat.zero_le _, rfl, by show _ = _; simp⟩
  case round =>
    obtain ⟨k, hk, rfl, H⟩ := hrel
    by_cases hlt : k < d.size
    · have hdr : Hid _ := drop_step d k hlt
      have hb := byte_le d k hlt
      cases hc : isDI d[k].toNat
      · have nx : Hid (isNum s.data.toList = false) := by
          show _ = _
          rw [Hn.out, H.out, hdr.out]; simp [isD, hc]
        go_wp2_with (go_at_call 61; refine (isDigit_any _ _ (by omega) (by omega)).mono ?_; rintro e w' ⟨rfl, rfl⟩)
        go_ret
        exact ⟨ret_bool (by rw [nx.out]), rfl⟩
      · have nx : Hid ((d.data.toList).all isD = (d.data.toList.drop (k + 1)).all isD) := by
          show _ = _
          rw [H.out, hdr.out]; simp [isD, hc]
        go_wp2_with (go_at_call 61; refine (isDigit_any _ _ (by omega) (by omega)).mono ?_; rintro e w' ⟨rfl, rfl⟩)
        go_round
        case rel => exact ⟨k + 1, by omega, by go_num, nx⟩
        case measure => simp [intOf]; omega
    · have nx : Hid (isNum s.data.toList = !d.data.toList.isEmpty) := by
        show _ = _
        rw [Hn.out, H.out, drop_all d k (by omega)]; simp
      go_wp2
      all_goals go_ret
      all_goals exact ⟨ret_bool (by rw [nx.out, Lib.toList_data]), rfl⟩

set_option maxHeartbeats 400000 in
theorem begNum_any (s : ByteArray) (w : World) :
    Calls Tryd.prog 58 #[.string s] w fun e w' => e = .returned (.bool (begNum s.data.toList)) ∧ w' = w := by
  obtain ⟨d, hd, he⟩ := trim_string s
  have Hn : Hid (begNum s.data.toList = match d.data.toList with | [] => false | x :: _ => isD x) := by show _ = _; rw [hd]; rfl
  have He : Hid _ := he
  clear hd he
  by_cases h0 : d.size = 0
  · have he : d.toList.isEmpty = true := by rw [Lib.toList_data, List.isEmpty_iff_length_eq_zero, ← size_len]; exact h0
    have nx : Hid (begNum s.data.toList = false) := by
      show _ = _
      have : d.data.toList = [] := by rw [← List.length_eq_zero_iff, ← size_len]; exact h0
      rw [Hn.out, this]
    clear h0
    go_enter Tryd.func58, Tryd.ntmps58
    go_wp2_with (go_at_call 60; refine (Tryd.strings_TrimPrefix _ _ _).mono ?_; rintro e w' ⟨rfl, rfl⟩; rw [He.out])
    go_ret
    exact ⟨ret_bool (by rw [nx.out]), rfl⟩
  · have he : d.toList.isEmpty = false := by
      rw [Lib.toList_data, Bool.eq_false_iff]; intro h; rw [List.isEmpty_iff_length_eq_zero, ← size_len] at h; exact h0 h
    have hlt : 0 < d.size := by omega
    have hb := byte_le d 0 hlt
    have nx : Hid (begNum s.data.toList = isDI d[0].toNat) := by
      show _ = _
      have := drop_step d 0 hlt
      rw [List.drop_zero] at this
      rw [Hn.out, this]; rfl
    clear h0
    go_enter Tryd.func58, Tryd.ntmps58
    go_wp2_with (first | (go_at_call 60; refine (Tryd.strings_TrimPrefix _ _ _).mono ?_; rintro e w' ⟨rfl, rfl⟩; rw [He.out]) | (go_at_call 61; refine (isDigit_any _ _ (by omega) (by omega)).mono ?_; rintro e w' ⟨rfl, rfl⟩))
    go_ret
    exact ⟨ret_bool (by rw [nx.out]), rfl⟩

end Go.Proofs.YtfdpbmbafpieoaaDoor
