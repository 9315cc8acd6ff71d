/- The kinds of a source's tokens. -/
import Derived.Test.YtlpdfifjdlfpdaaGreatDoorGH
namespace Go.Proofs.YtlpdfifjdlfpdaaGreatDoor
open Go.RowKit

theorem word_kinds (l : List UInt8) (h : wordE l = 0) : 1 ≤ (word l).kind ∧ (word l).kind ≤ 9 := by
  unfold wordE at h
  unfold word
  split
  · decide
  split
  · decide
  split
  · decide
  rename_i h1 h2 h3
  rw [if_neg h1, if_neg h2, if_neg h3] at h
  split
  · rename_i h4
    rw [if_pos h4] at h
    split
    · exact ⟨by show (1 : Int) ≤ 5; decide, by show (5 : Int) ≤ 9; decide⟩
    · rename_i h5
      rw [if_neg h5] at h; cases h
  · rename_i h4
    rw [if_neg h4] at h
    split
    · rename_i h5
      rw [if_pos h5] at h; cases h
    · exact ⟨by show (1 : Int) ≤ 6; decide, by show (6 : Int) ≤ 9; decide⟩
theorem begT_kinds (l : List UInt8) (h : begE l = 0) : 1 ≤ (begT l).kind ∧ (begT l).kind ≤ 9 := by
  cases l with
  | nil => exact ⟨by decide, by decide⟩
  | cons b r =>
    unfold begE at h
    unfold begT
    dsimp only at h ⊢
    split
    · decide
    split
    · decide
    split
    · decide
    rename_i h1 h2 h3
    rw [if_neg h1, if_neg h2, if_neg h3] at h
    split
    · rename_i h4
      rw [if_pos h4] at h
      exact word_kinds _ h
    · rename_i h4
      rw [if_neg h4] at h; cases h
theorem scan_kinds (N : Nat) : ∀ (k : Nat) (l : List UInt8) (x : Tok × Int), x ∈ scan N k l → x.2 = 0 → 1 ≤ x.1.kind ∧ x.1.kind ≤ 9
  | 0, l, x, h, _ => by cases h
  | k + 1, l, x, h, h0 => by
    rw [scan] at h
    rcases List.mem_cons.1 h with rfl | h
    · exact begT_kinds _ h0
    · split at h
      · cases h
      · exact scan_kinds N k _ x h h0
theorem items_kinds (l : List UInt8) (hf : fine (items l)) : ∀ x ∈ items l, 1 ≤ x.1.kind ∧ x.1.kind ≤ 9 := by
  intro x hx
  have h0 := hf x hx
  unfold items at hx
  split at hx
  · obtain rfl : x = _ := by simpa using hx
    cases h0
  · exact scan_kinds _ _ _ x hx h0
theorem fine_of_err : ∀ {xs : List (Tok × Int)}, lexErr xs = 0 → fine xs
  | [], _ => fun x hx => by cases hx
  | y :: r, h => by
    by_cases hy : y.2 = 0
    · have h2 : lexErr r = 0 := by
        unfold lexErr at h ⊢
        rwa [List.dropWhile_cons, if_pos (by simp [hy])] at h
      intro x hx
      rcases List.mem_cons.1 hx with rfl | hx
      · exact hy
      · exact fine_of_err h2 x hx
    · unfold lexErr at h
      rw [List.dropWhile_cons, if_neg (by simp [hy])] at h
      exact absurd h hy
end Go.Proofs.YtlpdfifjdlfpdaaGreatDoor
