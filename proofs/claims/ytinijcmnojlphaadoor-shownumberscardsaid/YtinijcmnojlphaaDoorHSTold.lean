/- What a teller tells, as mathematics: words (true) and tails (false), with the labels and how many have come. -/
import Derived.Test.YtinijcmnojlphaaDoorHSTellG
namespace Go.Proofs.YtinijcmnojlphaaDoor
open Go.RowKit Go.Maps Go.ChangeMaps

abbrev Res := List UInt8 × (Nat → Lab) × Nat
/-- A cell's label ahead of it; labels and count behind. -/
def preT (f : Nat → Lab) (k c : Nat) : List UInt8 := if (f c).met = 1 then [] else betw [35] k [61]
def preF (f : Nat → Lab) (k c : Nat) : Nat → Lab := if (f c).met = 1 then f else getL f c (f c).met k
def preK (f : Nat → Lab) (k c : Nat) : Nat := if (f c).met = 1 then k else k + 1
def tell (X : List Cl) (N : List (List UInt8)) : Nat → Bool → (Nat → Lab) → Nat → Int → Option Res
  | 0, _, _, _, _ => none
  | fu + 1, true, f, k, x => match refN x with
    | none => some (plainT N x, f, k)
    | some c => if (f c).met ≠ 1 ∧ (f c).came = true then some (betw [35] (f c).num [35], f, k) else
      match X[c]? with
      | none => none
      | some y =>
        if y.k = 1 then (tell X N fu true (preF f k c) (preK f k c) y.a).bind fun r => (tell X N fu false r.2.1 r.2.2 y.b).bind fun q => some (preT f k c ++ ([40] ++ (r.1 ++ (q.1 ++ [41]))), q.2)
        else if y.k = 2 then (tell X N fu true (preF f k c) (preK f k c) y.a).bind fun r => some (preT f k c ++ ([35, 98, 111, 120, 40] ++ (r.1 ++ [41])), r.2)
        else (tell X N fu true (preF f k c) (preK f k c) y.b).bind fun r => some (preT f k c ++ (betw [35, 112, 114, 111, 99] (ofN y.a) [40] ++ (r.1 ++ [41])), r.2)
  | fu + 1, false, f, k, x => match goesM X f x with
    | some y => (tell X N fu true f k y.a).bind fun r => (tell X N fu false r.2.1 r.2.2 y.b).bind fun q => some ([32] ++ (r.1 ++ q.1), q.2)
    | none => if ofT x = 1 then some ([], f, k) else (tell X N fu true f k x).bind fun r => some ([32, 46, 32] ++ r.1, r.2)
theorem preK_le (f : Nat → Lab) (k c : Nat) : k ≤ preK f k c := by unfold preK; split <;> omega
/-- More and more labels come. -/
theorem tell_mono (X : List Cl) (N : List (List UInt8)) : ∀ (fu : Nat) (m : Bool) (f : Nat → Lab) (k : Nat) (x : Int) (r : Res), tell X N fu m f k x = some r → k ≤ r.2.2
  | 0, _, _, _, _, _, h => by cases h
  | fu + 1, true, f, k, x, r, h => by
    unfold tell at h
    split at h
    · cases h; exact Nat.le_refl _
    · rename_i c _
      split at h
      · cases h; exact Nat.le_refl _
      · split at h
        · cases h
        · rename_i y _
          split at h
          · obtain ⟨r1, h1, h2⟩ := Option.bind_eq_some_iff.1 h
            obtain ⟨r2, h3, h4⟩ := Option.bind_eq_some_iff.1 h2
            have := tell_mono X N fu _ _ _ _ _ h1
            have := tell_mono X N fu _ _ _ _ _ h3
            have := preK_le f k c
            cases h4
            simp only
            omega
          · split at h
            · obtain ⟨r1, h1, h2⟩ := Option.bind_eq_some_iff.1 h
              have := tell_mono X N fu _ _ _ _ _ h1
              have := preK_le f k c
              cases h2
              simp only
              omega
            · obtain ⟨r1, h1, h2⟩ := Option.bind_eq_some_iff.1 h
              have := tell_mono X N fu _ _ _ _ _ h1
              have := preK_le f k c
              cases h2
              simp only
              omega
  | fu + 1, false, f, k, x, r, h => by
    unfold tell at h
    split at h
    · obtain ⟨r1, h1, h2⟩ := Option.bind_eq_some_iff.1 h
      obtain ⟨r2, h3, h4⟩ := Option.bind_eq_some_iff.1 h2
      have := tell_mono X N fu _ _ _ _ _ h1
      have := tell_mono X N fu _ _ _ _ _ h3
      cases h4
      simp only
      omega
    · split at h
      · cases h; exact Nat.le_refl _
      · obtain ⟨r1, h1, h2⟩ := Option.bind_eq_some_iff.1 h
        have := tell_mono X N fu _ _ _ _ _ h1
        cases h2
        simp only
        omega
end Go.Proofs.YtinijcmnojlphaaDoor
