/- The contracts of the document's answer: its words, its numbers, its symbols.; The walk of LexSymbols. -/
import Derived.Test.YtpkohocjgnodnaaGreatDoorGAA
import Derived.Test.YtpkohocjgnodnaaGreatDoorGAL
/- The contracts of the document's answer: its words, its numbers, its symbols. -/
namespace Go.Proofs.YtpkohocjgnodnaaGreatDoor
open Go.RowKit

set_option maxHeartbeats 400000 in
theorem plain_any (c : Int) (w : World) (h0 : 0 ≤ c) (h1 : c ≤ 255) :
    Calls Tryz.prog 73 #[.int .u8 c] w fun e w' => e = .returned (.bool (isWI c)) ∧ w' = w := by
  go_enter Tryz.func73, Tryz.ntmps73
  go_wp2
  all_goals go_ret
  all_goals refine ⟨ret_bool ?_, rfl⟩
  all_goals (rw [Bool.eq_iff_iff]; simp [isWI]; omega)

set_option maxHeartbeats 400000 in
theorem digit_any (c : Int) (w : World) (h0 : 0 ≤ c) (h1 : c ≤ 255) :
    Calls Tryz.prog 101 #[.int .u8 c] w fun e w' => e = .returned (.bool (isDI c)) ∧ w' = w := by
  go_enter Tryz.func101, Tryz.ntmps101
  go_wp2
  all_goals go_ret
  all_goals exact ⟨ret_bool (by unfold isDI; rw [Bool.eq_iff_iff]; simp; omega), rfl⟩

/-- What the chapter's number answers. -/
def rnN (l : List UInt8) (m : Bool) : Int := if 576460752303423488 < val 0 l then 0 else if m then -(val 0 l : Int) else (val 0 l : Int)
def rnB (l : List UInt8) (m : Bool) : Bool := if 576460752303423488 < val 0 l then false else if m then true else decide ((val 0 l : Int) < 576460752303423488)

theorem ret_ib {a b : Int} {p q : Bool} (h : a = b) (hb : p = q) : Ending.returned (.tuple #[.int .i64 a, .bool p]) = .returned (.tuple #[.int .i64 b, .bool q]) := by rw [h, hb]

set_option maxHeartbeats 1000000 in
theorem refNumber_any (s : ByteArray) (m : Bool) (w : World) (hs : s.size ≤ 281474976710656) (hd : s.data.toList.all isD = true) :
    Calls Tryz.prog 102 #[.string s, .bool m] w fun e w' => e = .returned (.tuple #[.int .i64 (rnN s.data.toList m), .bool (rnB s.data.toList m)]) ∧ w' = w := by
  have HD : Hid _ := hd
  clear hd
  go_enter Tryz.func102, Tryz.ntmps102
  go_wp2
  go_loop [6, 7] (fun n i => ∃ (k a : Nat), k ≤ s.size ∧ i = .int .i64 k ∧ n = .int .i64 a ∧ a ≤ 576460752303423488 ∧ Hid (val 0 s.data.toList = val a (s.data.toList.drop k))) (fun _ i => s.size - (intOf i).toNat)
  case atStart => exact ⟨0, 0, Nat.zero_le _, rfl, rfl, by omega, by show _ = _; simp⟩
  case round =>
    obtain ⟨k, a, hk, rfl, rfl, ha, H⟩ := hrel
    by_cases hlt : k < s.size
    · have hdr := drop_step s k hlt
      have hdig : isD s[k] = true := by
        refine List.all_eq_true.1 HD.out _ ?_
        have : s[k] ∈ s.data.toList.drop k := by rw [hdr]; simp
        exact List.mem_of_mem_drop this
      have hdg := (isD_iff _).1 hdig
      have nx : Hid (val 0 s.data.toList = val (10 * a + (s[k].toNat - 48)) (s.data.toList.drop (k + 1))) := by
        show _ = _
        rw [H.out, hdr, val_cons]
      have Hge := val_ge (s.data.toList.drop (k + 1)) (10 * a + (s[k].toNat - 48))
      have HG : Hid (10 * a + (s[k].toNat - 48) ≤ val 0 s.data.toList) := by show _ ≤ _; rw [nx.out]; exact Hge
      clear hdr hdig Hge
      have hk48 : (48 : Int) ≤ s[k].toNat := by omega
      have hk57 : (s[k].toNat : Int) ≤ 57 := by omega
      by_cases hbig : 576460752303423488 < 10 * a + (s[k].toNat - 48)
      · have hbig' : (576460752303423488 : Int) < 10 * (a : Int) + ((s[k].toNat : Int) - 48) := by omega
        have hout : Hid (576460752303423488 < val 0 s.data.toList) := by show _ < _; have := HG.out; omega
        go_wp2
        go_ret2
        refine ⟨ret_ib ?_ ?_, rfl⟩
        · unfold rnN; rw [if_pos hout.out]
        · unfold rnB; rw [if_pos hout.out]
      · have hbig' : ¬ (576460752303423488 : Int) < 10 * (a : Int) + ((s[k].toNat : Int) - 48) := by omega
        go_wp2
        go_round
        case rel => exact ⟨k + 1, 10 * a + (s[k].toNat - 48), by omega, by go_num, congrArg (Value.int .i64) (by omega), by omega, nx⟩
        case measure => simp [intOf]; omega
    · have nx : Hid (val 0 s.data.toList = a) := by
        show _ = _
        rw [H.out, drop_all s k (by omega), val_nil]
      cases m
      · go_wp2
        go_ret2
        refine ⟨ret_ib ?_ ?_, rfl⟩
        · unfold rnN; rw [nx.out, if_neg (by omega)]; simp only [Bool.false_eq_true, if_false]
        · unfold rnB; rw [nx.out, if_neg (by omega)]; simp only [Bool.false_eq_true, if_false]
      · go_wp2
        go_ret2
        refine ⟨ret_ib ?_ ?_, rfl⟩
        · unfold rnN; rw [nx.out, if_neg (by omega)]; simp only [if_true]
        · unfold rnB; rw [nx.out, if_neg (by omega)]; simp only [if_true]

theorem num_ref (l : List UInt8) : fits (num l) = rnB (unsign l) (neg l) ∧ (fits (num l) = true → num l = rnN (unsign l) (neg l)) := by
  unfold num rnB rnN
  generalize val 0 (unsign l) = v
  cases neg l
  · simp only [Bool.false_eq_true, if_false]
    by_cases h : 576460752303423488 < v
    · rw [if_pos h, if_pos h, fits_no _ (by omega)]; simp
    · rw [if_neg h, if_neg h]
      refine ⟨?_, fun _ => rfl⟩
      rw [Bool.eq_iff_iff, fits_iff]; simp; omega
  · simp only [if_true]
    by_cases h : 576460752303423488 < v
    · rw [if_pos h, if_pos h, fits_no _ (by omega)]; simp
    · rw [if_neg h, if_neg h]
      refine ⟨?_, fun _ => rfl⟩
      rw [Bool.eq_iff_iff, fits_iff]; simp; omega

theorem rest_facts (s d : ByteArray) (h : d.data.toList = unsign s.data.toList) : d.size ≤ s.size ∧ isNum s.data.toList = (decide ((0 : Int) < (d.size : Int)) && d.data.toList.all isD) := by
  refine ⟨by rw [size_len d, size_len s, h]; exact unsign_le _, ?_⟩
  unfold isNum
  rw [← h, Bool.and_comm]
  congr 1
  rw [size_len d]
  cases d.data.toList with
  | nil => rfl
  | cons a r => simp

set_option maxHeartbeats 2000000 in
theorem refWord_any (s : ByteArray) (w : World) (hs : s.size ≤ 281474976710656) (h0 : 0 < s.size) :
    Calls Tryz.prog 74 #[.string s] w fun e w' => e = .returned (.tuple #[encT (word s.data.toList), .int .i64 (wordE s.data.toList)]) ∧ Below w.heap.size w w' := by
  by_cases h1 : s.data.toList = [46]
  · have e1 := eq_beq h1
    have HT : Hid (word s.data.toList = tk 4) := by show _ = _; simp [word, h1]
    have HN : Hid (wordE s.data.toList = 0) := by show _ = _; simp [wordE, h1]
    clear h1
    go_enter Tryz.func74, Tryz.ntmps74
    go_wp2_with fail
    refine bodyPost_ret (v := .tuple #[.agg #[.int .u8 4, .string ⟨#[]⟩, .int .i64 0, .int .i64 0], .int .i64 0]) (by simp [results, Tryz.results74, go_sem]) rfl ⟨?_, ?_⟩
    · rw [HT.out, HN.out]; rfl
    · exact (Below.refl _ w).alloc (Nat.le_refl _) _
  have e1 := ne_beq h1
  by_cases h2 : s.data.toList = [35, 116]
  · have e2 := eq_beq h2
    have HT : Hid (word s.data.toList = tk 8) := by show _ = _; simp [word, h2]
    have HN : Hid (wordE s.data.toList = 0) := by show _ = _; simp [wordE, h2]
    clear h1 h2
    go_enter Tryz.func74, Tryz.ntmps74
    go_wp2_with fail
    refine bodyPost_ret (v := .tuple #[.agg #[.int .u8 8, .string ⟨#[]⟩, .int .i64 0, .int .i64 0], .int .i64 0]) (by simp [results, Tryz.results74, go_sem]) rfl ⟨?_, ?_⟩
    · rw [HT.out, HN.out]; rfl
    · exact (Below.refl _ w).alloc (Nat.le_refl _) _
  have e2 := ne_beq h2
  by_cases h3 : s.data.toList = [35, 102]
  · have e3 := eq_beq h3
    have HT : Hid (word s.data.toList = tk 7) := by show _ = _; simp [word, h3]
    have HN : Hid (wordE s.data.toList = 0) := by show _ = _; simp [wordE, h3]
    clear h1 h2 h3
    go_enter Tryz.func74, Tryz.ntmps74
    go_wp2_with fail
    refine bodyPost_ret (v := .tuple #[.agg #[.int .u8 7, .string ⟨#[]⟩, .int .i64 0, .int .i64 0], .int .i64 0]) (by simp [results, Tryz.results74, go_sem]) rfl ⟨?_, ?_⟩
    · rw [HT.out, HN.out]; rfl
    · exact (Below.refl _ w).alloc (Nat.le_refl _) _
  have e3 := ne_beq h3
  have H1 : Hid _ := h1
  have H2 : Hid _ := h2
  have H3 : Hid _ := h3
  clear h1 h2 h3
  have hb0 := byte_le s 0 h0
  have hd0 := drop_step s 0 h0
  rw [List.drop_zero] at hd0
  have HD0 : Hid _ := hd0
  clear hd0
  cases hm : ((s[0].toNat : Int) == 45)
  · have hneg : Hid (neg s.data.toList = false) := by show _ = _; rw [HD0.out]; simp only [neg]; rw [beq_eq_false_iff_ne] at hm ⊢; omega
    have hun : Hid (unsign s.data.toList = s.data.toList) := by
      show _ = _
      rw [beq_eq_false_iff_ne] at hm
      rw [HD0.out]; simp only [unsign]; rw [if_neg (by omega)]
    have HDL := hun.out.symm
    obtain ⟨hds, hnum⟩ := rest_facts s s HDL
    have Hnum : Hid _ := hnum
    have HDLh : Hid _ := HDL
    clear HDL hnum
    go_enter Tryz.func74, Tryz.ntmps74
    go_wp2_with fail
    go_loop [6, 7] (fun b i => ∃ (k : Nat) (p : Bool), k ≤ s.size ∧ i = .int .i64 k ∧ b = .bool p ∧ Hid (isNum s.data.toList = (p && (s.data.toList.drop k).all isD))) (fun _ i => s.size - (intOf i).toNat)
    case atStart => exact ⟨0, _, Nat.zero_le _, rfl, rfl, by show _ = _; rw [Hnum.out, List.drop_zero, decide_eq_true (by omega)]⟩
    case round =>
      obtain ⟨k, p, hk, rfl, rfl, H⟩ := hrel
      by_cases hlt : k < s.size
      · have hdr : Hid _ := drop_step s k hlt
        have hb := byte_le s k hlt
        cases p
        · go_wp2_with fail
          go_round
          case rel => exact ⟨k + 1, false, by omega, by go_num, rfl, by show _ = _; rw [H.out]; simp⟩
          case measure => simp [intOf]; omega
        · go_wp2_with (go_at_call 101; refine (digit_any _ _ (by omega) (by omega)).mono ?_; rintro e w' ⟨rfl, rfl⟩)
          go_round
          case rel => exact ⟨k + 1, _, by omega, by go_num, rfl, by show _ = _; rw [H.out, hdr.out]; simp [isD]⟩
          case measure => simp [intOf]; omega
      · have Hp : Hid (isNum s.data.toList = p) := by show _ = _; rw [H.out, drop_all s k (by omega)]; simp
        cases p
        · have hbn : Hid (begNum s.data.toList = isDI s[0].toNat) := by show _ = _; unfold begNum; rw [hun.out, HD0.out]; rfl
          have hha : Hid (hash s.data.toList = ((s[0].toNat : Int) == 35)) := by show _ = _; rw [HD0.out]; simp only [hash]; rw [Bool.eq_iff_iff, beq_iff_eq, beq_iff_eq]; omega
          cases h6 : isDI s[0].toNat
          · cases h5 : ((s[0].toNat : Int) == 35)
            · by_cases h7 : 32 < s.size
              · have hbad : bad s.data.toList = true := by unfold bad; rw [← size_len, decide_eq_true h7]; simp
                have HT : Hid (word s.data.toList = tk 0) := by show _ = _; unfold word; rw [if_neg H1.out, if_neg H2.out, if_neg H3.out, Hp.out, hbad]; rfl
                have HN : Hid (wordE s.data.toList = 51) := by show _ = _; unfold wordE; rw [if_neg H1.out, if_neg H2.out, if_neg H3.out, Hp.out, hbad]; rfl
                clear hbad
                go_wp2_with (go_at_call 101; refine (digit_any _ _ (by omega) (by omega)).mono ?_; rintro e w' ⟨rfl, rfl⟩)
                refine bodyPost_ret (v := .tuple #[.agg #[.int .u8 0, .string ⟨#[]⟩, .int .i64 0, .int .i64 0], .int .i64 51]) (by simp [results, Tryz.results74, go_sem]) rfl ⟨?_, ?_⟩
                · rw [HT.out, HN.out]; rfl
                · exact (Below.refl _ _).alloc (Nat.le_refl _) _
              · have hbad : bad s.data.toList = false := by unfold bad; rw [← size_len, hbn.out, hha.out, h5, h6, decide_eq_false h7]; rfl
                have HT : Hid (word s.data.toList = ⟨6, s.data.toList, 0, 0⟩) := by show _ = _; unfold word; rw [if_neg H1.out, if_neg H2.out, if_neg H3.out, Hp.out, hbad]; rfl
                have HN : Hid (wordE s.data.toList = 0) := by show _ = _; unfold wordE; rw [if_neg H1.out, if_neg H2.out, if_neg H3.out, Hp.out, hbad]; rfl
                clear hbad
                go_wp2_with (go_at_call 101; refine (digit_any _ _ (by omega) (by omega)).mono ?_; rintro e w' ⟨rfl, rfl⟩)
                refine bodyPost_ret (v := .tuple #[.agg #[.int .u8 6, .string s, .int .i64 0, .int .i64 0], .int .i64 0]) (by simp [results, Tryz.results74, go_sem]) rfl ⟨?_, ?_⟩
                · rw [HT.out, HN.out]; rfl
                · exact (Below.refl _ _).alloc (Nat.le_refl _) _
            · have hbad : bad s.data.toList = true := by unfold bad; rw [hha.out, h5]; simp
              have HT : Hid (word s.data.toList = tk 0) := by show _ = _; unfold word; rw [if_neg H1.out, if_neg H2.out, if_neg H3.out, Hp.out, hbad]; rfl
              have HN : Hid (wordE s.data.toList = 51) := by show _ = _; unfold wordE; rw [if_neg H1.out, if_neg H2.out, if_neg H3.out, Hp.out, hbad]; rfl
              clear hbad
              go_wp2_with (go_at_call 101; refine (digit_any _ _ (by omega) (by omega)).mono ?_; rintro e w' ⟨rfl, rfl⟩)
              refine bodyPost_ret (v := .tuple #[.agg #[.int .u8 0, .string ⟨#[]⟩, .int .i64 0, .int .i64 0], .int .i64 51]) (by simp [results, Tryz.results74, go_sem]) rfl ⟨?_, ?_⟩
              · rw [HT.out, HN.out]; rfl
              · exact (Below.refl _ _).alloc (Nat.le_refl _) _
          · have hbad : bad s.data.toList = true := by unfold bad; rw [hbn.out, h6]; simp
            have HT : Hid (word s.data.toList = tk 0) := by show _ = _; unfold word; rw [if_neg H1.out, if_neg H2.out, if_neg H3.out, Hp.out, hbad]; rfl
            have HN : Hid (wordE s.data.toList = 51) := by show _ = _; unfold wordE; rw [if_neg H1.out, if_neg H2.out, if_neg H3.out, Hp.out, hbad]; rfl
            clear hbad
            go_wp2_with (go_at_call 101; refine (digit_any _ _ (by omega) (by omega)).mono ?_; rintro e w' ⟨rfl, rfl⟩)
            refine bodyPost_ret (v := .tuple #[.agg #[.int .u8 0, .string ⟨#[]⟩, .int .i64 0, .int .i64 0], .int .i64 51]) (by simp [results, Tryz.results74, go_sem]) rfl ⟨?_, ?_⟩
            · rw [HT.out, HN.out]; rfl
            · exact (Below.refl _ _).alloc (Nat.le_refl _) _
        · have Hal : Hid (s.data.toList.all isD = true) := by show _ = _; have := Hp.out; rw [Hnum.out, Bool.and_eq_true] at this; exact this.2
          go_wp2_with fail
          refine (refNumber_any s false _ (by omega) Hal.out).mono ?_
          rintro e w' ⟨rfl, rfl⟩
          have hr := num_ref s.data.toList
          rw [hneg.out, ← HDLh.out] at hr
          cases hfit : fits (num s.data.toList)
          · rw [hfit] at hr
            rw [← hr.1]
            have HT : Hid (word s.data.toList = tk 0) := by show _ = _; unfold word; rw [if_neg H1.out, if_neg H2.out, if_neg H3.out, Hp.out, if_pos rfl, hfit]; rfl
            have HN : Hid (wordE s.data.toList = 52) := by show _ = _; unfold wordE; rw [if_neg H1.out, if_neg H2.out, if_neg H3.out, Hp.out, if_pos rfl, hfit]; rfl
            clear hr hfit
            go_wp2
            refine bodyPost_ret (v := .tuple #[.agg #[.int .u8 0, .string ⟨#[]⟩, .int .i64 0, .int .i64 0], .int .i64 52]) (by simp [results, Tryz.results74, go_sem]) rfl ⟨?_, ?_⟩
            · rw [HT.out, HN.out]; rfl
            · exact (Below.refl _ w).alloc (Nat.le_refl _) _
          · rw [hfit] at hr
            rw [← hr.1, ← hr.2 rfl]
            have HT : Hid (word s.data.toList = ⟨5, [], num s.data.toList, 0⟩) := by show _ = _; unfold word; rw [if_neg H1.out, if_neg H2.out, if_neg H3.out, Hp.out, if_pos rfl, hfit]; rfl
            have HN : Hid (wordE s.data.toList = 0) := by show _ = _; unfold wordE; rw [if_neg H1.out, if_neg H2.out, if_neg H3.out, Hp.out, if_pos rfl, hfit]; rfl
            clear hr hfit
            generalize num s.data.toList = nv at *
            go_wp2
            refine bodyPost_ret (v := .tuple #[.agg #[.int .u8 5, .string ⟨#[]⟩, .int .i64 nv, .int .i64 0], .int .i64 0]) (by simp [results, Tryz.results74, go_sem]) rfl ⟨?_, ?_⟩
            · rw [HT.out, HN.out]; rfl
            · exact (Below.refl _ w).alloc (Nat.le_refl _) _
  · have hneg : Hid (neg s.data.toList = true) := by show _ = _; rw [HD0.out]; simp only [neg]; rw [beq_iff_eq] at hm ⊢; omega
    have hun : Hid (unsign s.data.toList = s.data.toList.drop 1) := by
      show _ = _
      rw [beq_iff_eq] at hm
      rw [HD0.out]; simp only [unsign]; rw [if_pos (by omega)]; rfl
    have HDL : (s.extract 1 s.size).data.toList = unsign s.data.toList := by
      rw [hun.out, Lib.extract_data, List.take_of_length_le (by rw [List.length_drop, ← size_len]; exact Nat.le_refl _)]
    have hxs : (s.extract 1 s.size).size = s.size - 1 := by rw [size_len, HDL, hun.out, List.length_drop, ← size_len]
    obtain ⟨hds, hnum⟩ := rest_facts s (s.extract 1 s.size) HDL
    have hdec : decide ((0 : Int) < ((s.extract 1 s.size).size : Int)) = decide (0 < s.size - 1) := by rw [hxs, Bool.eq_iff_iff]; simp only [decide_eq_true_eq]; omega
    rw [hdec] at hnum
    have Hxs : Hid _ := hxs
    clear hdec hxs hds
    have Hnum : Hid _ := hnum
    have HDLh : Hid _ := HDL
    clear HDL hnum
    go_enter Tryz.func74, Tryz.ntmps74
    go_wp2_with fail
    go_loop [6, 7] (fun b i => ∃ (k : Nat) (p : Bool), k ≤ s.size - 1 ∧ i = .int .i64 k ∧ b = .bool p ∧ Hid (isNum s.data.toList = (p && ((s.extract 1 s.size).data.toList.drop k).all isD))) (fun _ i => s.size - 1 - (intOf i).toNat)
    case atStart => exact ⟨0, _, Nat.zero_le _, rfl, rfl, by show _ = _; rw [Hnum.out, List.drop_zero]⟩
    case round =>
      obtain ⟨k, p, hk, rfl, rfl, H⟩ := hrel
      by_cases hlt : k < s.size - 1
      · have hltd : k < (s.extract 1 s.size).size := by rw [Hxs.out]; exact hlt
        have hdr : Hid _ := drop_step (s.extract 1 s.size) k hltd
        have hb := byte_le (s.extract 1 s.size) k hltd
        cases p
        · go_wp2_with fail
          go_round
          case rel => exact ⟨k + 1, false, by omega, by go_num, rfl, by show _ = _; rw [H.out]; simp⟩
          case measure => simp [intOf]; omega
        · go_wp2_with (go_at_call 101; refine (digit_any _ _ (by omega) (by omega)).mono ?_; rintro e w' ⟨rfl, rfl⟩)
          go_round
          case rel => exact ⟨k + 1, _, by omega, by go_num, rfl, by show _ = _; rw [H.out, hdr.out]; simp [isD]⟩
          case measure => simp [intOf]; omega
      · have Hp : Hid (isNum s.data.toList = p) := by show _ = _; rw [H.out, drop_all (s.extract 1 s.size) k (by rw [Hxs.out]; omega)]; simp
        cases p
        · have h6 : isDI s[0].toNat = false := by rw [beq_iff_eq] at hm; rw [hm]; rfl
          have h5 : ((s[0].toNat : Int) == 35) = false := by rw [beq_iff_eq] at hm; rw [hm]; rfl
          have hha : Hid (hash s.data.toList = false) := by show _ = _; rw [HD0.out]; simp only [hash]; rw [beq_eq_false_iff_ne] at h5 ⊢; omega
          by_cases hz : 1 < s.size
          · have hb1 := byte_le s 1 hz
            have hbn : Hid (begNum s.data.toList = isDI s[1].toNat) := by show _ = _; unfold begNum; rw [hun.out, drop_step s 1 hz]; rfl
            cases h8 : isDI s[1].toNat
            · by_cases h7 : 32 < s.size
              · have hbad : bad s.data.toList = true := by unfold bad; rw [← size_len, decide_eq_true h7]; simp
                have HT : Hid (word s.data.toList = tk 0) := by show _ = _; unfold word; rw [if_neg H1.out, if_neg H2.out, if_neg H3.out, Hp.out, hbad]; rfl
                have HN : Hid (wordE s.data.toList = 51) := by show _ = _; unfold wordE; rw [if_neg H1.out, if_neg H2.out, if_neg H3.out, Hp.out, hbad]; rfl
                clear hbad
                go_wp2_with (go_at_call 101; refine (digit_any _ _ (by omega) (by omega)).mono ?_; rintro e w' ⟨rfl, rfl⟩)
                refine bodyPost_ret (v := .tuple #[.agg #[.int .u8 0, .string ⟨#[]⟩, .int .i64 0, .int .i64 0], .int .i64 51]) (by simp [results, Tryz.results74, go_sem]) rfl ⟨?_, ?_⟩
                · rw [HT.out, HN.out]; rfl
                · exact (Below.refl _ _).alloc (Nat.le_refl _) _
              · have hbad : bad s.data.toList = false := by unfold bad; rw [← size_len, hbn.out, hha.out, h8, decide_eq_false h7]; rfl
                have HT : Hid (word s.data.toList = ⟨6, s.data.toList, 0, 0⟩) := by show _ = _; unfold word; rw [if_neg H1.out, if_neg H2.out, if_neg H3.out, Hp.out, hbad]; rfl
                have HN : Hid (wordE s.data.toList = 0) := by show _ = _; unfold wordE; rw [if_neg H1.out, if_neg H2.out, if_neg H3.out, Hp.out, hbad]; rfl
                clear hbad
                go_wp2_with (go_at_call 101; refine (digit_any _ _ (by omega) (by omega)).mono ?_; rintro e w' ⟨rfl, rfl⟩)
                refine bodyPost_ret (v := .tuple #[.agg #[.int .u8 6, .string s, .int .i64 0, .int .i64 0], .int .i64 0]) (by simp [results, Tryz.results74, go_sem]) rfl ⟨?_, ?_⟩
                · rw [HT.out, HN.out]; rfl
                · exact (Below.refl _ _).alloc (Nat.le_refl _) _
            · have hbad : bad s.data.toList = true := by unfold bad; rw [hbn.out, h8]; simp
              have HT : Hid (word s.data.toList = tk 0) := by show _ = _; unfold word; rw [if_neg H1.out, if_neg H2.out, if_neg H3.out, Hp.out, hbad]; rfl
              have HN : Hid (wordE s.data.toList = 51) := by show _ = _; unfold wordE; rw [if_neg H1.out, if_neg H2.out, if_neg H3.out, Hp.out, hbad]; rfl
              clear hbad
              go_wp2_with (go_at_call 101; refine (digit_any _ _ (by omega) (by omega)).mono ?_; rintro e w' ⟨rfl, rfl⟩)
              refine bodyPost_ret (v := .tuple #[.agg #[.int .u8 0, .string ⟨#[]⟩, .int .i64 0, .int .i64 0], .int .i64 51]) (by simp [results, Tryz.results74, go_sem]) rfl ⟨?_, ?_⟩
              · rw [HT.out, HN.out]; rfl
              · exact (Below.refl _ _).alloc (Nat.le_refl _) _
          · have hbn : Hid (begNum s.data.toList = false) := by show _ = _; unfold begNum; rw [hun.out, drop_all s 1 (by omega)]
            have hbad : bad s.data.toList = false := by unfold bad; rw [← size_len, hbn.out, hha.out, decide_eq_false (by omega)]; rfl
            have HT : Hid (word s.data.toList = ⟨6, s.data.toList, 0, 0⟩) := by show _ = _; unfold word; rw [if_neg H1.out, if_neg H2.out, if_neg H3.out, Hp.out, hbad]; rfl
            have HN : Hid (wordE s.data.toList = 0) := by show _ = _; unfold wordE; rw [if_neg H1.out, if_neg H2.out, if_neg H3.out, Hp.out, hbad]; rfl
            clear hbad
            go_wp2_with (go_at_call 101; refine (digit_any _ _ (by omega) (by omega)).mono ?_; rintro e w' ⟨rfl, rfl⟩)
            refine bodyPost_ret (v := .tuple #[.agg #[.int .u8 6, .string s, .int .i64 0, .int .i64 0], .int .i64 0]) (by simp [results, Tryz.results74, go_sem]) rfl ⟨?_, ?_⟩
            · rw [HT.out, HN.out]; rfl
            · exact (Below.refl _ _).alloc (Nat.le_refl _) _
        · have Hal : Hid ((s.extract 1 s.size).data.toList.all isD = true) := by show _ = _; have := Hp.out; rw [Hnum.out, Bool.and_eq_true] at this; exact this.2
          go_wp2_with fail
          refine (refNumber_any (s.extract 1 s.size) true _ (by rw [Hxs.out]; omega) Hal.out).mono ?_
          rintro e w' ⟨rfl, rfl⟩
          have hr := num_ref s.data.toList
          rw [hneg.out, ← HDLh.out] at hr
          cases hfit : fits (num s.data.toList)
          · rw [hfit] at hr
            rw [← hr.1]
            have HT : Hid (word s.data.toList = tk 0) := by show _ = _; unfold word; rw [if_neg H1.out, if_neg H2.out, if_neg H3.out, Hp.out, if_pos rfl, hfit]; rfl
            have HN : Hid (wordE s.data.toList = 52) := by show _ = _; unfold wordE; rw [if_neg H1.out, if_neg H2.out, if_neg H3.out, Hp.out, if_pos rfl, hfit]; rfl
            clear hr hfit
            go_wp2
            refine bodyPost_ret (v := .tuple #[.agg #[.int .u8 0, .string ⟨#[]⟩, .int .i64 0, .int .i64 0], .int .i64 52]) (by simp [results, Tryz.results74, go_sem]) rfl ⟨?_, ?_⟩
            · rw [HT.out, HN.out]; rfl
            · exact (Below.refl _ w).alloc (Nat.le_refl _) _
          · rw [hfit] at hr
            rw [← hr.1, ← hr.2 rfl]
            have HT : Hid (word s.data.toList = ⟨5, [], num s.data.toList, 0⟩) := by show _ = _; unfold word; rw [if_neg H1.out, if_neg H2.out, if_neg H3.out, Hp.out, if_pos rfl, hfit]; rfl
            have HN : Hid (wordE s.data.toList = 0) := by show _ = _; unfold wordE; rw [if_neg H1.out, if_neg H2.out, if_neg H3.out, Hp.out, if_pos rfl, hfit]; rfl
            clear hr hfit
            generalize num s.data.toList = nv at *
            go_wp2
            refine bodyPost_ret (v := .tuple #[.agg #[.int .u8 5, .string ⟨#[]⟩, .int .i64 nv, .int .i64 0], .int .i64 0]) (by simp [results, Tryz.results74, go_sem]) rfl ⟨?_, ?_⟩
            · rw [HT.out, HN.out]; rfl
            · exact (Below.refl _ w).alloc (Nat.le_refl _) _

end Go.Proofs.YtpkohocjgnodnaaGreatDoor

/- The walk of LexSymbols. -/
namespace Go.Proofs.YtpkohocjgnodnaaGreatDoor
open Go.RowKit

set_option maxHeartbeats 1000000 in
theorem refIsSymbol_any (s : ByteArray) (w : World) (hs : s.size ≤ 281474976710656) :
    Calls Tryz.prog 23 #[.string s] w fun e w' => e = .returned (.bool (refSym s.data.toList)) ∧ Below w.heap.size w w' := by
  have hmx : s.size ≤ 9223372036854775807 := by omega
  by_cases h0 : s.size = 0
  · have he : s.toList.isEmpty = true := by rw [Lib.toList_data, List.isEmpty_iff_length_eq_zero, ← size_len]; exact h0
    have hl : Hid (refSym s.data.toList = false) := by
      show _ = _
      have : s.data.toList = [] := by rw [← List.length_eq_zero_iff, ← size_len]; exact h0
      rw [this]; rfl
    clear h0
    go_enter Tryz.func23, Tryz.ntmps23
    go_wp2_with fail
    go_ret
    exact ⟨ret_bool (by rw [hl.out]), Below.refl _ _⟩
  have hlt0 : 0 < s.size := by omega
  have hne : Hid (s.data.toList.isEmpty = false) := by
    show _ = _
    rw [Bool.eq_false_iff]; intro h; rw [List.isEmpty_iff_length_eq_zero, ← size_len] at h; exact h0 h
  have he : s.toList.isEmpty = false := by rw [Lib.toList_data]; exact hne.out
  clear h0
  go_enter Tryz.func23, Tryz.ntmps23
  go_wp2_with fail
  go_loop [3] (fun i => ∃ k : Nat, k ≤ s.size ∧ i = .int .i64 k ∧ Hid (s.data.toList.all isW = (s.data.toList.drop k).all isW)) (fun i => s.size - (intOf i).toNat)
  case atStart => exact ⟨0, Nat.zero_le _, rfl, by show _ = _; simp⟩
  case round =>
    obtain ⟨k, hk, rfl, H⟩ := hrel
    by_cases hlt : k < s.size
    · have hdr : Hid _ := drop_step s k hlt
      have hb := byte_le s k hlt
      cases hc : isWI s[k].toNat
      · have nx : Hid (refSym s.data.toList = false) := by
          show _ = _
          unfold refSym; rw [H.out, hdr.out]; simp [isW, hc]
        go_wp2_with (go_at_call 73; refine (plain_any _ _ (by omega) (by omega)).mono ?_; rintro e w' ⟨rfl, rfl⟩)
        go_ret
        exact ⟨ret_bool (by rw [nx.out]), Below.refl _ _⟩
      · have nx : Hid (s.data.toList.all isW = (s.data.toList.drop (k + 1)).all isW) := by
          show _ = _
          rw [H.out, hdr.out]; simp [isW, hc]
        go_wp2_with (go_at_call 73; refine (plain_any _ _ (by omega) (by omega)).mono ?_; rintro e w' ⟨rfl, rfl⟩)
        go_round
        case rel => exact ⟨k + 1, by omega, by go_num, nx⟩
        case measure => simp [intOf]; omega
    · have nx : Hid (refSym s.data.toList = (wordE s.data.toList == 0 && (word s.data.toList).kind == 6)) := by
        show _ = _
        unfold refSym; rw [H.out, drop_all s k (by omega), hne.out]; simp
      go_wp2_with fail
      refine (refWord_any s _ hs hlt0).mono ?_
      rintro e w1 ⟨rfl, hb1⟩
      rw [encT]
      cases h1 : (wordE s.data.toList == 0)
      all_goals cases h2 : ((word s.data.toList).kind == 6)
      all_goals
        go_wp2
        go_ret
        refine ⟨ret_bool (by rw [nx.out]; simp [h1, h2]), hb1.alloc hb1.size _⟩

theorem symB_eq (s : ByteArray) : (begE s.data.toList == 0 && ((begT s.data.toList).kind == 6 && ((begS s.data.toList : Nat) : Int) == (s.size : Int))) = refSym s.data.toList := by
  rw [← sym_ref]; unfold symB5; rw [← size_len]
end Go.Proofs.YtpkohocjgnodnaaGreatDoor
