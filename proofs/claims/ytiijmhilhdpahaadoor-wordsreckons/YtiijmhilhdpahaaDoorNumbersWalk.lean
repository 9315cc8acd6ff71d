/- The walk of WordsNumbers: it returns true wherever the table lies as its initialiser lays it, and leaves what was there. -/
import Derived.Test.YtiijmhilhdpahaaDoorKnown
namespace Go.Proofs.YtiijmhilhdpahaaDoor
open Go.RowKit

theorem Tab.later {w w1 : World} (h : Tab w) (hb : Below w.heap.size w w1) : Tab w1 :=
  fun t ht => ⟨cell_later hb (h t ht).1, cell_later hb (h t ht).2⟩

set_option maxHeartbeats 1000000 in
theorem wordsNumbers_walk (w : World) (hT : Tab w) :
    Calls Tryd.prog 3 #[] w fun e w' => e = .returned (.bool true) ∧ Below w.heap.size w w' := by
  have HT : Hid (Tab w) := hT
  clear hT
  go_enter Tryd.func3, Tryd.ntmps3
  go_wp2_with fail
  go_loop [2] (fun i => ∃ k : Nat, k ≤ 8 ∧ i = .int .i64 k) (fun i => 8 - (intOf i).toNat)
  case atStart => exact ⟨0, by omega, rfl⟩
  case round =>
    obtain ⟨k, hk, rfl⟩ := hrel
    by_cases hlt : k < 8
    · have hd : k = 0 ∨ k = 1 ∨ k = 2 ∨ k = 3 ∨ k = 4 ∨ k = 5 ∨ k = 6 ∨ k = 7 := by omega
      clear hlt hk
      rcases hd with rfl | rfl | rfl | rfl | rfl | rfl | rfl | rfl
      all_goals
        go_wp2_with fail
        go_round
        case rel => exact ⟨_, by decide, rfl⟩
        case measure => simp [intOf]
    · go_wp2_with fail
      have hb : Below w.heap.size w (w.alloc (.cells #[.int .u8 1, .int .u8 2, .int .u8 3, .int .u8 4, .int .u8 5, .int .u8 6, .int .u8 7, .int .u8 8] 22)) := (Below.refl _ _).alloc (Nat.le_refl _) _
      refine (known_any _ (HT.out.later hb)).mono ?_
      rintro e w' ⟨rfl, rfl⟩
      go_wp2_with fail
      go_ret
      exact ⟨rfl, hb⟩
end Go.Proofs.YtiijmhilhdpahaaDoor
