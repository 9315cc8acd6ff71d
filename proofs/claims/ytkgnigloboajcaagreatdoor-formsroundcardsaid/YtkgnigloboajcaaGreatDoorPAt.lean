/- at: the datum to which a path leads. -/
import Derived.Test.YtkgnigloboajcaaGreatDoorK41
import Derived.Test.YtkgnigloboajcaaGreatDoorFPathM
namespace Go.Proofs.YtkgnigloboajcaaGreatDoor
open Go.RowKit

theorem Rd.nd {w : World} : ∀ {f : Fo} {b o j : Nat} {x : Dt}, Rd w b o f → f.nd j = some x →
    (b < w.heap.size ∧ w.cell? ⟨b, o + j * 5, none⟩ = some (.int .u8 x.k) ∧ w.cell? ⟨b, o + j * 5 + 1, none⟩ = some (.int .i64 x.n) ∧ w.cell? ⟨b, o + j * 5 + 1 + 1, none⟩ = some (S x.t) ∧ w.cell? ⟨b, o + j * 5 + 1 + 1 + 1 + 1, none⟩ = some (.bool x.d) ∧ x.s.len ≤ maxLen) ∧
      ∃ rk ck, w.cell? ⟨b, o + j * 5 + 1 + 1 + 1, none⟩ = some (.slice rk x.s.len ck) ∧ RS w rk x.s
  | .nil, _, _, _, _, _, hx => by cases hx
  | .cons k n t s d r, b, o, 0, x, ⟨⟨h0, h1, h2, h3, h4, h5⟩, ⟨rk, ck, b', o', hk, hz, hs⟩, _⟩, hx => by
    cases hx
    rw [Nat.zero_mul, Nat.add_zero]
    exact ⟨⟨h0, h1, h2, h3, h4, h5⟩, rk, ck, hk, b', o', hz, hs⟩
  | .cons k n t s d r, b, o, j + 1, x, ⟨_, _, hr⟩, hx => by
    have := Rd.nd hr (j := j) hx
    rw [show o + 5 + j * 5 = o + (j + 1) * 5 by omega] at this
    exact this

end Go.Proofs.YtkgnigloboajcaaGreatDoor
