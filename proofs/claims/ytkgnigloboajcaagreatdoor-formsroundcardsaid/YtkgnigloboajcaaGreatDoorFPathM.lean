/- Where the path of an error leads: plain mathematics. -/
import Derived.Test.YtkgnigloboajcaaGreatDoorK18
namespace Go.Proofs.YtkgnigloboajcaaGreatDoor

def Fo.nd : Fo → Nat → Option Dt
  | .nil, _ => none
  | .cons k n t s d _, 0 => some ⟨k, n, t, s, d⟩
  | .cons _ _ _ _ _ r, j + 1 => r.nd j
/-- The datum to which a path leads. -/
def atM : Dt → List Int → Option Dt
  | x, [] => some x
  | x, i :: p => if 0 ≤ i then (match x.s.nd i.toNat with | some y => atM y p | none => none) else none
theorem Fo.nd_lt : ∀ {s : Fo} {j : Nat} {y : Dt}, s.nd j = some y → j < s.len
  | .nil, _, _, h => by cases h
  | .cons _ _ _ _ _ _, 0, _, _ => by simp [Fo.len]
  | .cons _ _ _ _ _ r, j + 1, _, h => by have := Fo.nd_lt (s := r) h; simp only [Fo.len]; omega
theorem Fo.nd_hd {s : Fo} (h : 0 < s.len) : s.nd 0 = some s.hd := by cases s with | nil => simp [Fo.len] at h | cons k n t s d r => rfl
theorem Fo.nd_tl (s : Fo) (j : Nat) : s.tl.nd j = s.nd (j + 1) := by cases s <;> rfl
theorem Fo.tl_len (s : Fo) : s.tl.len = s.len - 1 := by cases s <;> simp [Fo.tl, Fo.len]
theorem allD_tl {s : Fo} (h : allD s = true) : allD s.tl = true := by
  cases s with
  | nil => rfl
  | cons k n t s d r =>
    have hA : allD (.cons k n t s d r) = (isDat k n t s d && (allD s && allD r)) := rfl
    rw [hA] at h
    simp only [Bool.and_eq_true] at h
    exact h.2.2
/-- A datum that is one. -/
def okD (x : Dt) : Prop := isDat x.k x.n x.t x.s x.d = true ∧ allD x.s = true
theorem okD_of {x : Dt} (h : allD (x.fo .nil) = true) : okD x := by
  have hA : allD (x.fo .nil) = (isDat x.k x.n x.t x.s x.d && (allD x.s && allD .nil)) := rfl
  rw [hA] at h
  simp only [Bool.and_eq_true] at h
  exact ⟨h.1, h.2.1⟩
theorem nd_ok : ∀ {s : Fo} {j : Nat} {y : Dt}, allD s = true → s.nd j = some y → okD y
  | .nil, _, _, _, h => by cases h
  | .cons k n t s d r, 0, y, hA, h => by
    have e : allD (.cons k n t s d r) = (isDat k n t s d && (allD s && allD r)) := rfl
    rw [e] at hA
    simp only [Bool.and_eq_true] at hA
    cases h
    exact ⟨hA.1, hA.2.1⟩
  | .cons k n t s d r, j + 1, y, hA, h => nd_ok (s := r) (allD_tl hA) h
theorem canB_ok {x : Dt} (h : canB x = true) : okD x := by
  unfold canB at h
  have hc : chk (x.fo .nil) = 0 := by
    unfold writeOf at h
    by_cases h0 : chk (x.fo .nil) = 0
    · exact h0
    · rw [if_pos h0] at h
      exact absurd (by simpa using h) h0
  exact okD_of (chk_zero.1 hc).1
/-- The error's path leads to a datum; what a name's error says of it. -/
def BadP (m : Nat) (x : Dt) (e : Int) (p : List Int) : Prop :=
  ∃ y, atM x p = some y ∧ (e = 72 → y.k = 2 ∧ m ≤ p.length) ∧ (e = 71 → y.k ≠ 2 ∨ (primOf y.t).isSome = true ∨ (kwOf y.t).isSome = true)
theorem BadP.kid {m j : Nat} {x y : Dt} {e : Int} {p : List Int} (h : BadP m y e p) (hj : x.s.nd j = some y) : BadP (m + 1) x e ((j : Int) :: p) := by
  obtain ⟨z, h1, h2, h3⟩ := h
  refine ⟨z, ?_, fun he => ⟨(h2 he).1, by have := (h2 he).2; simp only [List.length_cons]; omega⟩, h3⟩
  simp only [atM]
  rw [if_pos (by omega), Int.toNat_natCast, hj]
  exact h1
theorem BadP.here {x : Dt} {e : Int} (m : Nat) (h2 : e ≠ 72) (h1 : e ≠ 71) : BadP m x e [] := ⟨x, rfl, fun h => absurd h h2, fun h => absurd h h1⟩

theorem shp_two {kd : Nat} (h : kd = 4 ∨ kd = 5 ∨ kd = 6 ∨ kd = 8) : (shpOf kd).2.1 = 1 ∧ (shpOf kd).2.2.1 = 1 := by
  rcases h with rfl | rfl | rfl | rfl <;> exact ⟨rfl, rfl⟩
end Go.Proofs.YtkgnigloboajcaaGreatDoor
