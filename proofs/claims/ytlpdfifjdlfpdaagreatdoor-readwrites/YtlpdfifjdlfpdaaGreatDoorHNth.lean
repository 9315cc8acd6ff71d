/- The datum at a place of a list. -/
import Derived.Test.YtlpdfifjdlfpdaaGreatDoorGH
namespace Go.Proofs.YtlpdfifjdlfpdaaGreatDoor
open Go.RowKit

structure Dm where
  k : Int
  n : Int
  t : List UInt8
  s : Fo
  d : Bool
def Fo.nth : Fo → Nat → Option Dm
  | .nil, _ => none
  | .cons k n t s d _, 0 => some ⟨k, n, t, s, d⟩
  | .cons _ _ _ _ _ r, j + 1 => r.nth j
theorem Fo.nth_some : ∀ (f : Fo) (j : Nat), j < f.len → ∃ x, f.nth j = some x
  | .nil, j, h => by simp [Fo.len] at h
  | .cons k n t s d r, 0, _ => ⟨_, rfl⟩
  | .cons k n t s d r, j + 1, h => Fo.nth_some r j (by simp only [Fo.len] at h; omega)
theorem Rd.nth {w : World} : ∀ {f : Fo} {b o j : Nat} {x : Dm}, Rd w b o f → f.nth j = some x →
    (b < w.heap.size ∧ w.cell? ⟨b, o + j * 5, none⟩ = some (.int .u8 x.k) ∧ w.cell? ⟨b, o + j * 5 + 1, none⟩ = some (.int .i64 x.n) ∧ w.cell? ⟨b, o + j * 5 + 1 + 1, none⟩ = some (S x.t) ∧ w.cell? ⟨b, o + j * 5 + 1 + 1 + 1 + 1, none⟩ = some (.bool x.d) ∧ x.s.len ≤ maxLen) ∧
      ∃ rk ck, w.cell? ⟨b, o + j * 5 + 1 + 1 + 1, none⟩ = some (.slice rk x.s.len ck) ∧ RS w rk x.s
  | .nil, _, _, _, _, _, hx => by cases hx
  | .cons k n t s d r, b, o, 0, x, ⟨⟨h0, h1, h2, h3, h4, h5⟩, ⟨rk, ck, b', o', hk, hz, hs⟩, _⟩, hx => by
    cases hx
    rw [Nat.zero_mul, Nat.add_zero]
    exact ⟨⟨h0, h1, h2, h3, h4, h5⟩, rk, ck, hk, b', o', hz, hs⟩
  | .cons k n t s d r, b, o, j + 1, x, ⟨_, _, hr⟩, hx => by
    have := Rd.nth hr (j := j) hx
    rw [show o + 5 + j * 5 = o + (j + 1) * 5 by omega] at this
    exact this
end Go.Proofs.YtlpdfifjdlfpdaaGreatDoor
