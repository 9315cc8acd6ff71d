/- The shelf's contracts, as they are asked for. -/
import Derived.Test.YtdcmkifljcdmmaaGreatDoorHGPath
import Derived.Test.YtdcmkifljcdmmaaGreatDoorHShelf
namespace Go.Proofs.YtdcmkifljcdmmaaGreatDoor
open Go.RowKit

theorem mul_ok : MulOk Tryz.prog 84 := fun x y w hx hy => Tryz.bits_Mul x y hx hy w
theorem len_ok : LenOk Tryz.prog 95 := fun x w hx => by
  refine (Tryz.bits_Len x w (by omega) (by omega)).mono ?_
  rintro e w' ⟨rfl, rfl⟩
  exact ⟨⟨_, rfl⟩, rfl⟩
theorem dr_cells {t g n : Nat} : ∀ (vs : List Value) (o : Nat) (W : World) (P : Nat → Value → Prop), DR W t g n P → DR (W.setCells g o vs) t g n (fun k u => (∃ j v, vs[j]? = some v ∧ k = o + j ∧ u = v) ∨ ((k < o ∨ o + vs.length ≤ k) ∧ P k u))
  | [], o, W, P, h => h.mono (fun k u _ hu => .inr ⟨by simp; omega, hu⟩)
  | v :: r, o, W, P, h => by
    have h1 : DR (W.setCell ⟨g, o, none⟩ v) t g n (fun k u => (k = o ∧ u = v) ∨ (k ≠ o ∧ P k u)) := h.set (fun k u hk hu => .inr ⟨hk, hu⟩) (.inl ⟨rfl, rfl⟩)
    refine (dr_cells r (o + 1) _ _ h1).mono (fun k u _ hu => ?_)
    rcases hu with ⟨j, x, hj, hk, hx⟩ | ⟨hk, ⟨h2, h3⟩ | ⟨h2, h3⟩⟩
    · exact .inl ⟨j + 1, x, by simpa using hj, by omega, hx⟩
    · exact .inl ⟨0, v, rfl, by omega, h3⟩
    · exact .inr ⟨by simp only [List.length_cons]; omega, h3⟩
theorem below_cells {B g : Nat} (hg : B ≤ g) : ∀ (vs : List Value) (o : Nat) (w : World), Below B w (w.setCells g o vs)
  | [], _, w => Below.refl _ w
  | v :: r, o, w => ((Below.refl B w).setCell (p := ⟨g, o, none⟩) hg v).trans (below_cells hg r (o + 1) _)
theorem rev_ok : RevOk := fun g n c zs w hd hz hn hb => by
  have hcell : ∀ j, j < zs.length → w.cell? ⟨g, 0 + j, none⟩ = some (.int .i64 (zs.getD j 0)) := fun j hj => by
    obtain ⟨u, hu, hu2⟩ := hd.cell (j := j) (by omega)
    rw [Nat.zero_add, hu, hu2 _ (List.getElem?_eq_getElem hj), List.getD_eq_getElem?_getD, List.getElem?_eq_getElem hj]; rfl
  refine (Tryz.slices_Reverse_int_cells g 0 n c zs w (by omega) (by omega) hcell (fun j hj => hd.fz _)).mono ?_
  rintro e w' ⟨rfl, q, rfl⟩
  have hl : (zs.take n).reverse = zs.reverse := by rw [List.take_of_length_le (by omega)]
  rw [hl]
  have hd2 : DR (w.drewN q) 3 g c (fun k u => ∀ x, zs[k]? = some x → u = .int .i64 x) := hd
  refine ⟨rfl, (dr_cells _ 0 _ _ hd2).mono (fun k u _ hu x hx => ?_), (show Below g w (w.drewN q) from ⟨rfl, rfl, rfl, Nat.le_refl _, fun _ _ => rfl⟩).trans (below_cells (Nat.le_refl _) _ _ _)⟩
  rcases hu with ⟨j, v, hj, hk, rfl⟩ | ⟨hk, _⟩
  · rw [Nat.zero_add] at hk
    subst hk
    rw [List.getElem?_map, hx] at hj
    exact (Option.some.inj hj).symm
  · have := (List.getElem?_eq_some_iff.1 hx).1
    simp at hk this; omega
end Go.Proofs.YtdcmkifljcdmmaaGreatDoor
