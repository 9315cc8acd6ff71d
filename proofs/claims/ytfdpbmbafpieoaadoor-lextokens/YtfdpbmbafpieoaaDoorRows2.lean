/- Rows of tokens in memory: read token by token; two tokens compared. -/
import Derived.Test.YtfdpbmbafpieoaaDoorWorks
import Derived.Laws.StructEq
import Derived.Deep.QuietTactic
import Derived.BigQuiet
import Derived.Lib.SmallJoins
namespace Go.Proofs.YtfdpbmbafpieoaaDoor
open Go.RowKit

/-- Block g holds the tokens xs, one behind the other. -/
def TRow (w : World) (g : Nat) (xs : List (Tok × Int)) : Prop := g < w.heap.size ∧ ∀ (k : Nat) (x : Tok × Int), xs[k]? = some x →
  w.cell? ⟨g, k * 4, none⟩ = some (.int .u8 x.1.kind) ∧ w.cell? ⟨g, k * 4 + 1, none⟩ = some (S x.1.text) ∧ w.cell? ⟨g, k * 4 + 1 + 1, none⟩ = some (.int .i64 x.1.n) ∧ w.cell? ⟨g, k * 4 + 1 + 1 + 1, none⟩ = some (.int .i64 x.1.pos)

theorem rowOf_get : ∀ (xs : List (Tok × Int)) (k j : Nat) (x : Tok × Int), xs[k]? = some x → j < 4 → (rowOf xs)[k * 4 + j]? = (cells4 x.1)[j]?
  | [], k, j, x, h, _ => by simp at h
  | y :: r, 0, j, x, h, hj => by
    obtain rfl : y = x := by simpa using h
    show (cells4 y.1 ++ rowOf r)[0 * 4 + j]? = _
    rw [Nat.zero_mul, Nat.zero_add, List.getElem?_append_left (by simpa [cells4] using hj)]
  | y :: r, k + 1, j, x, h, hj => by
    show (cells4 y.1 ++ rowOf r)[(k + 1) * 4 + j]? = _
    rw [List.getElem?_append_right (by simp [cells4]; omega), show (k + 1) * 4 + j - (cells4 y.1).length = k * 4 + j from by simp [cells4]; omega]
    exact rowOf_get r k j x (by simpa using h) hj

theorem trow_of {w : World} {base : Nat} {v : Value} {xs : List (Tok × Int)} (hne : xs ≠ []) (h : w.ownsRow base 56 4 v xs.length (rowOf xs)) :
    ∃ g cap, v = .slice (some ⟨g, 0, none⟩) xs.length cap ∧ base ≤ g ∧ TRow w g xs := by
  obtain ⟨n, hn⟩ : ∃ n, xs.length = n + 1 := ⟨xs.length - 1, by have := List.length_pos_iff.2 hne; omega⟩
  rw [hn] at h ⊢
  obtain ⟨g, cap, rfl, hb, hg, hc⟩ := ownsRow_cells h
  refine ⟨g, cap, rfl, hb, hg, fun k x hx => ⟨?_, ?_, ?_, ?_⟩⟩
  · exact hc _ _ (by have := rowOf_get xs k 0 x hx (by omega); simpa [cells4] using this)
  · exact hc _ _ (by have := rowOf_get xs k 1 x hx (by omega); simpa [cells4] using this)
  · exact hc _ _ (by have := rowOf_get xs k 2 x hx (by omega); simpa [cells4] using this)
  · exact hc _ _ (by have := rowOf_get xs k 3 x hx (by omega); simpa [cells4] using this)

theorem TRow.below {w w' : World} {B g : Nat} {xs : List (Tok × Int)} (h : TRow w g xs) (hb : Below B w w') (hB : g < B) : TRow w' g xs :=
  ⟨Nat.lt_of_lt_of_le h.1 hb.size, fun k x hx => by
    obtain ⟨a, b, c, d⟩ := h.2 k x hx
    exact ⟨(hb.cell (p := ⟨g, k * 4, none⟩) hB).trans a, (hb.cell (p := ⟨g, k * 4 + 1, none⟩) hB).trans b, (hb.cell (p := ⟨g, k * 4 + 1 + 1, none⟩) hB).trans c, (hb.cell (p := ⟨g, k * 4 + 1 + 1 + 1, none⟩) hB).trans d⟩⟩

theorem eqGuard56 : Tryd.prog.eqGuardType Tryd.prog.depth 56 = false := by kernel_rfl
theorem neqTok_same (k n p : Int) (s : ByteArray) (w : World) : (binOp .neq 56 (.agg #[.int .u8 k, .string s, .int .i64 n, .int .i64 p]) (.agg #[.int .u8 k, .string s, .int .i64 n, .int .i64 p])).run Tryd.prog w = .ok (.bool false) w := by
  have u23 := Tryd.underlying23
  have u9 := Tryd.underlying9
  have u2 := Tryd.underlying2
  have u3 := Tryd.underlying3
  have hS : Tryd.prog.underlying 56 = some (.struct (Tryd.prog.fieldsOf 56)) := by kernel_rfl
  have hp : Tryd.prog.stoodInHeld 56 = false := by kernel_rfl
  rw [run_neq_struct, show (10000 : Nat) = 9999 + 1 from rfl, run_equalIn_agg w 9999 56 _ _ hS hp]
  simp only [Program.fieldsOf, Tryd.underlying56]
  go_simp

end Go.Proofs.YtfdpbmbafpieoaaDoor
