/- The contract of Tokens: the tokens in a list of its own, or the first error and its place.; Tokens, as a plain contract.; Rows of tokens in memory: read token by token. -/
import Derived.Test.YtkgnigloboajcaaGreatDoorK01
import Derived.Maps.AppendAt
/- The contract of Tokens: the tokens in a list of its own, or the first error and its place. -/
namespace Go.Proofs.YtkgnigloboajcaaGreatDoor
open Go.RowKit Go.Shelf

attribute [local go_sem] Oper.semAt_some

end Go.Proofs.YtkgnigloboajcaaGreatDoor

/- Tokens, as a plain contract. -/
namespace Go.Proofs.YtkgnigloboajcaaGreatDoor
open Go.RowKit

end Go.Proofs.YtkgnigloboajcaaGreatDoor

/- Rows of tokens in memory: read token by token. -/
namespace Go.Proofs.YtkgnigloboajcaaGreatDoor
open Go.RowKit

/-- Block g holds the tokens xs, one behind the other. -/
def TRow (w : World) (g : Nat) (xs : List (Tok × Int)) : Prop := g < w.heap.size ∧ ∀ (k : Nat) (x : Tok × Int), xs[k]? = some x →
  w.cell? ⟨g, k * 4, none⟩ = some (.int .u8 x.1.kind) ∧ w.cell? ⟨g, k * 4 + 1, none⟩ = some (S x.1.text) ∧ w.cell? ⟨g, k * 4 + 1 + 1, none⟩ = some (.int .i64 x.1.n) ∧ w.cell? ⟨g, k * 4 + 1 + 1 + 1, none⟩ = some (.int .i64 x.1.pos)

theorem TRow.below {w w' : World} {B g : Nat} {xs : List (Tok × Int)} (h : TRow w g xs) (hb : Below B w w') (hB : g < B) : TRow w' g xs :=
  ⟨Nat.lt_of_lt_of_le h.1 hb.size, fun k x hx => by
    obtain ⟨a, b, c, d⟩ := h.2 k x hx
    exact ⟨(hb.cell (p := ⟨g, k * 4, none⟩) hB).trans a, (hb.cell (p := ⟨g, k * 4 + 1, none⟩) hB).trans b, (hb.cell (p := ⟨g, k * 4 + 1 + 1, none⟩) hB).trans c, (hb.cell (p := ⟨g, k * 4 + 1 + 1 + 1, none⟩) hB).trans d⟩⟩

/-- .. kept, where its block is. -/
theorem TRow.kept {w w' : World} {g : Nat} {xs : List (Tok × Int)} (h : TRow w g xs) (hb : w'.heap[g]? = w.heap[g]?) (hs : w.heap.size ≤ w'.heap.size) : TRow w' g xs :=
  ⟨Nat.lt_of_lt_of_le h.1 hs, fun k x hx => by
    obtain ⟨a, b, c, d⟩ := h.2 k x hx
    have e : ∀ o, w'.cell? ⟨g, o, none⟩ = w.cell? ⟨g, o, none⟩ := fun o => World.cell?_of_block (w := w) (a := ⟨g, o, none⟩) hb
    exact ⟨(e _).trans a, (e _).trans b, (e _).trans c, (e _).trans d⟩⟩
end Go.Proofs.YtkgnigloboajcaaGreatDoor
