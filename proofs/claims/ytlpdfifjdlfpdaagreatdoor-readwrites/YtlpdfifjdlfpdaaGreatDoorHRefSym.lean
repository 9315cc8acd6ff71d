/- The walk of LexSymbols. -/
import Derived.Test.YtlpdfifjdlfpdaaGreatDoorHRef
namespace Go.Proofs.YtlpdfifjdlfpdaaGreatDoor
open Go.RowKit

set_option maxHeartbeats 1000000 in
theorem refIsSymbol_any (s : ByteArray) (w : World) (hs : s.size ≤ 281474976710656) :
    Calls Tryz.prog 67 #[.string s] w fun e w' => e = .returned (.bool (refSym s.data.toList)) ∧ Below w.heap.size w w' := by
  have hmx : s.size ≤ 9223372036854775807 := by omega
  by_cases h0 : s.size = 0
  · have he : s.toList.isEmpty = true := by rw [Lib.toList_data, List.isEmpty_iff_length_eq_zero, ← size_len]; exact h0
    have hl : Hid (refSym s.data.toList = false) := by
      show _ = _
      have : s.data.toList = [] := by rw [← List.length_eq_zero_iff, ← size_len]; exact h0
      rw [this]; rfl
    clear h0
    go_enter Tryz.func67, Tryz.ntmps67
    go_wp2_with fail
    go_ret
    exact ⟨ret_bool (by rw [hl.out]), Below.refl _ _⟩
  have hlt0 : 0 < s.size := by omega
  have hne : Hid (s.data.toList.isEmpty = false) := by
    show _ = _
    rw [Bool.eq_false_iff]; intro h; rw [List.isEmpty_iff_length_eq_zero, ← size_len] at h; exact h0 h
  have he : s.toList.isEmpty = false := by rw [Lib.toList_data]; exact hne.out
  clear h0
  go_enter Tryz.func67, Tryz.ntmps67
  go_wp2_with fail
  go_loop [3] (fun i => ∃ k : Nat, k ≤ s.size ∧ i = .int .i64 k ∧ Hid (s.data.toList.all isW = (s.data.toList.drop k).all isW)) (fun i => s.size - (intOf i).toNat)
  case atStart => exact ⟨0, Nat.zero_le _, rfl, by show _ = _; simp⟩
  case round =>
    obtain ⟨k, hk, rfl, H⟩ := hrel
    by_cases hlt : k < s.size
    · have hdr : Hid _ := drop_step s k hlt
      have hb := byte_le s k hlt
      cases hc : isWI s[k].toNat
      · have nx : Hid (refSym s.data.toList = false) := by
          show _ = _
          unfold refSym; rw [H.out, hdr.out]; simp [isW, hc]
        go_wp2_with (go_at_call 74; refine (plain_any _ _ (by omega) (by omega)).mono ?_; rintro e w' ⟨rfl, rfl⟩)
        go_ret
        exact ⟨ret_bool (by rw [nx.out]), Below.refl _ _⟩
      · have nx : Hid (s.data.toList.all isW = (s.data.toList.drop (k + 1)).all isW) := by
          show _ = _
          rw [H.out, hdr.out]; simp [isW, hc]
        go_wp2_with (go_at_call 74; refine (plain_any _ _ (by omega) (by omega)).mono ?_; rintro e w' ⟨rfl, rfl⟩)
        go_round
        case rel => exact ⟨k + 1, by omega, by go_num, nx⟩
        case measure => simp [intOf]; omega
    · have nx : Hid (refSym s.data.toList = (wordE s.data.toList == 0 && (word s.data.toList).kind == 6)) := by
        show _ = _
        unfold refSym; rw [H.out, drop_all s k (by omega), hne.out]; simp
      go_wp2_with fail
      refine (refWord_any s _ hs hlt0).mono ?_
      rintro e w1 ⟨rfl, hb1⟩
      rw [encT]
      cases h1 : (wordE s.data.toList == 0)
      all_goals cases h2 : ((word s.data.toList).kind == 6)
      all_goals
        go_wp2
        go_ret
        refine ⟨ret_bool (by rw [nx.out]; simp [h1, h2]), hb1.alloc hb1.size _⟩

theorem symB_eq (s : ByteArray) : (begE s.data.toList == 0 && ((begT s.data.toList).kind == 6 && ((begS s.data.toList : Nat) : Int) == (s.size : Int))) = refSym s.data.toList := by
  rw [← sym_ref]; unfold symB5; rw [← size_len]
end Go.Proofs.YtlpdfifjdlfpdaaGreatDoor
