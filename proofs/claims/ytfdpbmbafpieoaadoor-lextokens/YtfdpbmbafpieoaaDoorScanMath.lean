/- The going through, step by step, as a plain function: what its steps are. -/
import Derived.Test.YtfdpbmbafpieoaaDoorMath
namespace Go.Proofs.YtfdpbmbafpieoaaDoor

theorem word_kind9 (l : List UInt8) : ¬ (word l).kind = 9 := by
  unfold word
  split; · decide
  split; · decide
  split; · decide
  split
  · split <;> simp [tk]
  · split <;> simp [tk]
theorem begT_nil : begT [] = tk 9 := rfl
theorem begT_kind9 (l : List UInt8) : ((begT l).kind == 9) = l.isEmpty := by
  cases l with
  | nil => rfl
  | cons b r =>
    simp only [begT]
    split; · rfl
    split; · rfl
    split; · rfl
    split
    · rw [show ((b :: r).isEmpty) = false from rfl]; exact beq_eq_false_iff_ne.2 (word_kind9 _)
    · rfl
theorem begE_nil : begE [] = 0 := rfl

/-- All that is given; a source that is too long: one error. -/
def items (l : List UInt8) : List (Tok × Int) := if 65536 < l.length then [(tk 0, 2)] else scan l.length (l.length + 1) l

theorem scan_ne (N f : Nat) (l : List UInt8) : scan N (f + 1) l = (at0 N l, er0 l) :: (if last l then [] else scan N f (nx0 l)) := rfl
theorem nx0_lt (l : List UInt8) (h : last l = false) : (nx0 l).length < l.length := by
  simp only [last, Bool.or_eq_false_iff, bne_eq_false_iff_eq, List.isEmpty_eq_false_iff] at h
  obtain ⟨he, hne⟩ := h
  have h1 := begS_pos _ hne he
  have h2 := begS_le (leave false l)
  have h3 := leave_le false l
  simp only [nx0, List.length_drop]
  omega
theorem scan_len (N : Nat) : ∀ (f : Nat) (l : List UInt8), (scan N f l).length ≤ l.length + 1 := by
  intro f
  induction f with
  | zero => intro l; simp [scan]
  | succ f ih =>
    intro l
    rw [scan_ne]
    cases h : last l
    · have := ih (nx0 l); have := nx0_lt l h; simp; omega
    · simp
theorem items_ne (l : List UInt8) : items l ≠ [] := by
  unfold items
  split
  · simp
  · rw [scan_ne]; simp
theorem items_len (l : List UInt8) : (items l).length ≤ l.length + 1 ∧ (items l).length ≤ 65537 := by
  unfold items
  split
  · simp
  · have := scan_len l.length (l.length + 1) l; omega
end Go.Proofs.YtfdpbmbafpieoaaDoor
