/- Tokens that differ. -/
import Derived.Test.YtfdpbmbafpieoaaDoorRows2
namespace Go.Proofs.YtfdpbmbafpieoaaDoor
open Go.RowKit

theorem neqTok_any (k n p k' n' p' : Int) (s s' : ByteArray) (w : World) : (binOp .neq 56 (.agg #[.int .u8 k, .string s, .int .i64 n, .int .i64 p]) (.agg #[.int .u8 k', .string s', .int .i64 n', .int .i64 p'])).run Tryd.prog w = .ok (.bool (!(k == k' && (decide (s.toList = s'.toList) && (n == n' && p == p'))))) w := by
  have u23 := Tryd.underlying23
  have u9 := Tryd.underlying9
  have u2 := Tryd.underlying2
  have u3 := Tryd.underlying3
  have hS : Tryd.prog.underlying 56 = some (.struct (Tryd.prog.fieldsOf 56)) := by kernel_rfl
  have hp : Tryd.prog.stoodInHeld 56 = false := by kernel_rfl
  rw [run_neq_struct, show (10000 : Nat) = 9999 + 1 from rfl, run_equalIn_agg w 9999 56 _ _ hS hp]
  simp only [Program.fieldsOf, Tryd.underlying56]
  cases h1 : (k == k') <;> cases h2 : decide (s.toList = s'.toList) <;> cases h3 : (n == n') <;> cases h4 : (p == p')
  all_goals go_simp
  all_goals simpa using h2

theorem neqTok_ne (x y : Tok) (h : x ≠ y) (w : World) : (binOp .neq 56 (.agg #[.int .u8 x.kind, S x.text, .int .i64 x.n, .int .i64 x.pos]) (.agg #[.int .u8 y.kind, S y.text, .int .i64 y.n, .int .i64 y.pos])).run Tryd.prog w = .ok (.bool true) w := by
  have := neqTok_any x.kind x.n x.pos y.kind y.n y.pos ⟨x.text.toArray⟩ ⟨y.text.toArray⟩ w
  rw [show S x.text = .string ⟨x.text.toArray⟩ from rfl, show S y.text = .string ⟨y.text.toArray⟩ from rfl, this]
  have hf : (x.kind == y.kind && (decide ((⟨x.text.toArray⟩ : ByteArray).toList = (⟨y.text.toArray⟩ : ByteArray).toList) && (x.n == y.n && x.pos == y.pos))) = false := by
    rw [Bool.eq_false_iff]
    intro hc
    simp only [Bool.and_eq_true, beq_iff_eq, decide_eq_true_eq, Lib.toList_data] at hc
    obtain ⟨h1, h2, h3, h4⟩ := hc
    apply h
    obtain ⟨a, b, c, d⟩ := x
    obtain ⟨a', b', c', d'⟩ := y
    simp_all
  rw [hf]; rfl
end Go.Proofs.YtfdpbmbafpieoaaDoor
