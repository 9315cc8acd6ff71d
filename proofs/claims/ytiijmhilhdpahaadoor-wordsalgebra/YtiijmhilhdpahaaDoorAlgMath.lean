/- Plain mathematics of sums, products and quotients of words of numbers; it names no program. -/
import Derived.Test.YtiijmhilhdpahaaDoorMath
namespace Go.Proofs.YtiijmhilhdpahaaDoor
open Go.RowKit

/-- A number of the language, not the least one. -/
def Fits (v : Int) : Prop := -576460752303423488 ≤ v ∧ v ≤ 576460752303423487
theorem wd5 {v : Int} (h : Fits v) : wd (mk 5 v) = true := wd_mk rfl (may5.2 h)
theorem ofT5 {v : Int} (h : Fits v) : ofT (mk 5 v) = 5 := by rw [ofT, wd5 h, if_pos rfl]; exact tg_mk v (by omega) (by omega)
theorem ofN5 {v : Int} (h : Fits v) : ofN (mk 5 v) = v := by rw [ofN, wd5 h, if_pos rfl]; exact nm_mk (by omega) (by omega) h
theorem both5 {a b : Int} (ha : Fits a) (hb : Fits b) : bothB (mk 5 a) (mk 5 b) = true := by simp [bothB, ofT5 ha, ofT5 hb]
theorem add5 {a b : Int} (ha : Fits a) (hb : Fits b) : addW (mk 5 a) (mk 5 b) = mkW 5 (a + b) ∧ addE (mk 5 a) (mk 5 b) = mkE 5 (a + b) := by
  simp [addW, addE, resW, resE, both5 ha hb, ofN5 ha, ofN5 hb]
theorem sub5 {a b : Int} (ha : Fits a) (hb : Fits b) : subW (mk 5 a) (mk 5 b) = mkW 5 (a - b) ∧ subE (mk 5 a) (mk 5 b) = mkE 5 (a - b) := by
  simp [subW, subE, resW, resE, both5 ha hb, ofN5 ha, ofN5 hb]
theorem mul5 {a b : Int} (ha : Fits a) (hb : Fits b) : mulW (mk 5 a) (mk 5 b) = mkW 5 (a * b) ∧ mulE (mk 5 a) (mk 5 b) = mkE 5 (a * b) := by
  simp [mulW, mulE, resW, resE, both5 ha hb, ofN5 ha, ofN5 hb]
theorem less5 {a b : Int} (ha : Fits a) (hb : Fits b) : lessB (mk 5 a) (mk 5 b) = decide (a < b) := by
  simp [lessB, both5 ha hb, ofN5 ha, ofN5 hb]
theorem quo5 {a b : Int} (ha : Fits a) (hb : Fits b) (hz : b ≠ 0) : quoW (mk 5 a) (mk 5 b) = mkW 5 (a.tdiv b) ∧ quoE (mk 5 a) (mk 5 b) = mkE 5 (a.tdiv b) := by
  simp [quoW, quoE, divW, divE, both5 ha hb, ofN5 ha, ofN5 hb, hz]
theorem rem5 {a b : Int} (ha : Fits a) (hb : Fits b) (hz : b ≠ 0) : remW (mk 5 a) (mk 5 b) = mkW 5 (a.tmod b) ∧ remE (mk 5 a) (mk 5 b) = mkE 5 (a.tmod b) := by
  simp [remW, remE, divW, divE, both5 ha hb, ofN5 ha, ofN5 hb, hz]
theorem quo5_zero {a : Int} (ha : Fits a) : quoE (mk 5 a) (mk 5 0) = 12 ∧ remE (mk 5 a) (mk 5 0) = 12 := by
  have h0 : Fits 0 := by unfold Fits; omega
  simp [quoE, remE, divE, both5 ha h0, ofN5 h0]
theorem e5 {v : Int} : (mkE 5 v == 0) = true ↔ Fits v := by
  by_cases h : Fits v
  · simp [(in5 h).2, h]
  · simp [(over5 h).2, h]
theorem e5' {v : Int} (h : (mkE 5 v != 0) = false) : Fits v := by
  apply e5.1; simpa using h
theorem w5 {v : Int} (h : Fits v) : mkW 5 v = mk 5 v := (in5 h).1
theorem z5 {v : Int} (h : Fits v) : mkE 5 v = 0 := (in5 h).2
theorem add_comm5 {a b : Int} (ha : Fits a) (hb : Fits b) : addW (mk 5 b) (mk 5 a) = addW (mk 5 a) (mk 5 b) ∧ addE (mk 5 b) (mk 5 a) = addE (mk 5 a) (mk 5 b) := by
  rw [(add5 ha hb).1, (add5 ha hb).2, (add5 hb ha).1, (add5 hb ha).2, Int.add_comm]; exact ⟨rfl, rfl⟩
theorem mul_comm5 {a b : Int} (ha : Fits a) (hb : Fits b) : mulW (mk 5 b) (mk 5 a) = mulW (mk 5 a) (mk 5 b) ∧ mulE (mk 5 b) (mk 5 a) = mulE (mk 5 a) (mk 5 b) := by
  rw [(mul5 ha hb).1, (mul5 ha hb).2, (mul5 hb ha).1, (mul5 hb ha).2, Int.mul_comm]; exact ⟨rfl, rfl⟩

/-- Products are shared out over sums. -/
theorem shares5 {a b c : Int} (ha : Fits a) (hb : Fits b) (hc : Fits c) (h1 : (addE (mk 5 b) (mk 5 c) != 0) = false)
    (h2 : (mulE (mk 5 a) (addW (mk 5 b) (mk 5 c)) != 0) = false) (h3 : (mulE (mk 5 a) (mk 5 b) != 0) = false) (h4 : (mulE (mk 5 a) (mk 5 c) != 0) = false) :
    addE (mulW (mk 5 a) (mk 5 b)) (mulW (mk 5 a) (mk 5 c)) = 0 ∧ mulW (mk 5 a) (addW (mk 5 b) (mk 5 c)) = addW (mulW (mk 5 a) (mk 5 b)) (mulW (mk 5 a) (mk 5 c)) := by
  rw [(add5 hb hc).2] at h1
  have f1 := e5' h1
  rw [(add5 hb hc).1, w5 f1] at h2 ⊢
  rw [(mul5 ha f1).2] at h2
  have f2 := e5' h2
  rw [(mul5 ha hb).2] at h3
  have f3 := e5' h3
  rw [(mul5 ha hc).2] at h4
  have f4 := e5' h4
  rw [(mul5 ha hb).1, (mul5 ha hc).1, (mul5 ha f1).1, w5 f2, w5 f3, w5 f4, (add5 f3 f4).1, (add5 f3 f4).2, ← Int.mul_add, w5 f2, z5 f2]
  exact ⟨rfl, rfl⟩
/-- Sub takes back what Add has added; the sum is greater just if what is added is. -/
theorem back5 {a b : Int} (ha : Fits a) (hb : Fits b) (h : (addE (mk 5 a) (mk 5 b) == 0) = true) :
    subW (addW (mk 5 a) (mk 5 b)) (mk 5 b) = mk 5 a ∧ subE (addW (mk 5 a) (mk 5 b)) (mk 5 b) = 0 ∧
    lessB (mk 5 a) (addW (mk 5 a) (mk 5 b)) = lessB (mk 5 0) (mk 5 b) := by
  rw [(add5 ha hb).2] at h
  have f := e5.1 h
  have f0 : Fits 0 := by unfold Fits; omega
  have e : a + b - b = a := by omega
  rw [(add5 ha hb).1, w5 f, (sub5 f hb).1, (sub5 f hb).2, e, w5 ha, z5 ha, less5 ha f, less5 f0 hb]
  refine ⟨rfl, rfl, ?_⟩
  rw [Bool.eq_iff_iff]; simp; omega
/-- a is b times the quotient and the rest. -/
theorem tdiv_fits {a b : Int} (ha : -576460752303423487 ≤ a ∧ a ≤ 576460752303423487) : Fits (a.tdiv b) := by
  have := tdiv_abs a b; unfold Fits; omega
theorem tmod_fits {a b : Int} (ha : Fits a) : Fits (a.tmod b) := tmod_bd ha
theorem tdivmul_fits {a b : Int} (ha : Fits a) : Fits (a.tdiv b * b) := by
  have h := Int.tmod_add_tdiv_mul a b
  have h1 := Int.natAbs_tmod a b
  have h2 : a.natAbs % b.natAbs ≤ a.natAbs := Nat.mod_le _ _
  unfold Fits at *
  rcases Int.le_total 0 a with h0 | h0
  · have := Int.tmod_nonneg b h0; omega
  · have : a.tmod b ≤ 0 := by
      have := Int.tmod_nonneg b (show 0 ≤ -a by omega)
      rw [Int.neg_tmod] at this; omega
    omega
theorem rem_small {a b : Int} (hz : b ≠ 0) : (a.tmod b).natAbs < b.natAbs := by
  rw [Int.natAbs_tmod]; exact Nat.mod_lt _ (by omega)
theorem rem_sign {a b : Int} : a.tmod b = 0 ∨ (a.tmod b < 0 ↔ a < 0) := by
  rcases Int.le_total 0 a with h0 | h0
  · have := Int.tmod_nonneg b h0; omega
  · have : a.tmod b ≤ 0 := by
      have := Int.tmod_nonneg b (show 0 ≤ -a by omega)
      rw [Int.neg_tmod] at this; omega
    by_cases ha : a = 0
    · subst ha; left; exact Int.zero_tmod b
    · omega
theorem cut_bd (n : Int) : -576460752303423487 ≤ n.tmod 576460752303423488 ∧ n.tmod 576460752303423488 ≤ 576460752303423487 := by
  have := rem_small (a := n) (b := 576460752303423488) (by omega); omega
end Go.Proofs.YtiijmhilhdpahaaDoor
