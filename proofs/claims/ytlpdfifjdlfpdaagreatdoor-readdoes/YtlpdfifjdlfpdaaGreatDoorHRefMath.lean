/- IsSymbol, as the program has it and as the chapter has it: the same. -/
import Derived.Test.YtlpdfifjdlfpdaaGreatDoorGB
namespace Go.Proofs.YtlpdfifjdlfpdaaGreatDoor

theorem takeWhile_all (l : List UInt8) (h : l.all isW = true) : l.takeWhile isW = l := by
  induction l with
  | nil => rfl
  | cons b r ih =>
    simp only [List.all_cons, Bool.and_eq_true] at h
    simp [h.1, ih h.2]
theorem all_takeWhile (l : List UInt8) (h : (l.takeWhile isW).length = l.length) : l.all isW = true := by
  induction l with
  | nil => rfl
  | cons b r ih =>
    cases hb : isW b
    · simp [hb] at h
    · simp [hb] at h ⊢
      simpa using ih h
theorem isW_ne (b : UInt8) (h : isW b = true) : ¬ b.toNat = 40 ∧ ¬ b.toNat = 41 ∧ ¬ b.toNat = 39 ∧ ¬ b.toNat = 59 ∧ ¬ b.toNat = 34 ∧ 33 ≤ b.toNat := by
  simp [isW, isWI] at h; omega

/-- Whether a text is a symbol. -/
def symB5 (l : List UInt8) : Bool := begE l == 0 && ((begT l).kind == 6 && ((begS l : Nat) : Int) == (l.length : Int))
/-- .. as the chapter has it. -/
def refSym (l : List UInt8) : Bool := !l.isEmpty && (l.all isW && (wordE l == 0 && (word l).kind == 6))

theorem sym_ref (l : List UInt8) : symB5 l = refSym l := by
  cases l with
  | nil => rfl
  | cons b r =>
    cases hw : isW b
    · have h1 : refSym (b :: r) = false := by simp [refSym, hw]
      rw [h1]
      simp only [symB5, begE, begT, begS]
      split; · rfl
      split; · rfl
      split; · rfl
      simp [hw]
    · have hn := isW_ne b hw
      have e1 : begE (b :: r) = wordE ((b :: r).takeWhile isW) := by simp only [begE]; rw [if_neg hn.1, if_neg hn.2.1, if_neg hn.2.2.1, hw]; rfl
      have e2 : begT (b :: r) = word ((b :: r).takeWhile isW) := by simp only [begT]; rw [if_neg hn.1, if_neg hn.2.1, if_neg hn.2.2.1, hw]; rfl
      have e3 : begS (b :: r) = ((b :: r).takeWhile isW).length := by simp only [begS]; rw [if_neg hn.1, if_neg hn.2.1, if_neg hn.2.2.1, hw]; rfl
      unfold symB5 refSym
      rw [e1, e2, e3]
      cases ha : (b :: r).all isW
      · have : ¬ (((b :: r).takeWhile isW).length : Int) = ((b :: r).length : Int) := fun e => by
          rw [all_takeWhile (b :: r) (by omega)] at ha; cases ha
        rw [beq_eq_false_iff_ne.2 this]; simp
      · rw [takeWhile_all _ ha]; simp
end Go.Proofs.YtlpdfifjdlfpdaaGreatDoor
