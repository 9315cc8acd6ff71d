/- Word and tail, with any fuel. -/
import Derived.Test.YtinijcmnojlphaaDoorHSTail
namespace Go.Proofs.YtinijcmnojlphaaDoor
open Go.RowKit Go.Maps Go.ChangeMaps

theorem tells_upto (E : Env) (hE : EnvOk E) : ∀ fu j, j ≤ fu → CallC E j true 15 ∧ CallC E j false 32 := by
  intro fu
  induction fu with
  | zero =>
    intro j hj
    obtain rfl : j = 0 := by omega
    refine ⟨?_, ?_⟩
    · intro f k x r l n w ht
      unfold tell at ht
      cases ht
    · intro f k x r l n w ht
      unfold tell at ht
      cases ht
  | succ fu ih =>
    intro j hj
    by_cases h : j ≤ fu
    · exact ih j h
    · obtain rfl : j = fu + 1 := by omega
      exact ⟨word_step E hE fu (ih fu (Nat.le_refl _)).1 (ih fu (Nat.le_refl _)).2, tail_step E hE fu (fun i hi => (ih i hi).1)⟩
/-- Word writes what is told. -/
theorem word_tells (E : Env) (hE : EnvOk E) (fu : Nat) : CallC E fu true 15 := (tells_upto E hE fu fu (Nat.le_refl _)).1
end Go.Proofs.YtinijcmnojlphaaDoor
