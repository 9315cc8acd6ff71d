/- Labels in a map. -/
import Derived.Test.YtinijcmnojlphaaDoorHSNamed
import Derived.Maps.Own
import Derived.Maps.Views
namespace Go.Proofs.YtinijcmnojlphaaDoor
open Go.RowKit Go.Maps Go.ChangeMaps

structure Lab where
  met : Int
  came : Bool
  num : Int
def lab0 : Lab := ⟨0, false, 0⟩
abbrev labV (l : Lab) : Value := .agg #[.int .i64 l.met, .bool l.came, .int .i64 l.num]
def labD (l : Lab) : DataW Unit := .agg [.lit (.int .i64 l.met), .lit (.bool l.came), .lit (.int .i64 l.num)]
def RL (v : Value) : Option (DataW Unit × List MemPlace) := match v with
  | .agg ⟨[.int .i64 a, .bool b, .int .i64 c]⟩ => some (labD ⟨a, b, c⟩, [])
  | _ => none
theorem RL_mk (l : Lab) : RL (labV l) = some (labD l, []) := rfl
theorem RL_inv {v : Value} {l : Lab} {ps : List MemPlace} (h : RL v = some (labD l, ps)) : v = labV l := by
  unfold RL at h
  split at h
  · rename_i a b c
    have h1 := (Prod.mk.inj (Option.some.inj h)).1
    unfold labD at h1
    simp only [DataW.agg.injEq, List.cons.injEq, DataW.lit.injEq, Lit.int.injEq, Lit.bool.injEq, true_and, and_true] at h1
    obtain ⟨h1, h2, h3⟩ := h1
    rw [h1, h2, h3]
  · cases h
/-- The map's block tells each cell's label. -/
def LM (w : World) (b n : Nat) (f : Nat → Lab) : Prop := ∃ D : DataW Unit, IsMap D ∧ w.ownsMap Tryd.prog 3 RL b n D ∧ ∀ c : Nat, D.atKey (.int .i64 c) (labD lab0) = labD (f c)
theorem int_wf {c : Nat} (h : c ≤ 9223372036854775807) : (Lit.int .i64 (c : Int)).wf = true := by
  simp [Lit.wf, IntKind.min, IntKind.max, IntKind.signed, IntKind.bits]; omega
theorem LM.made (w : World) : LM (w.alloc (.map #[] 0)) w.heap.size 0 (fun _ => lab0) := ⟨.map [], ⟨[], rfl⟩, World.ownsMap_made w _ _ _, fun _ => rfl⟩
theorem LM.kept {w w' : World} {b n : Nat} {f : Nat → Lab} (h : LM w b n f) (hb : w'.heap[b]? = w.heap[b]?) : LM w' b n f := by
  obtain ⟨D, h1, ⟨es, clock, h2, h3, h4, h5⟩, h6⟩ := h
  exact ⟨D, h1, ⟨es, clock, hb.trans h2, h3, h4, h5⟩, h6⟩
theorem LM.lt {w : World} {b n : Nat} {f : Nat → Lab} (h : LM w b n f) : b < w.heap.size := by
  obtain ⟨D, _, ⟨es, clock, h2, _⟩, _⟩ := h
  exact heap_lt h2
theorem LM.look {w : World} {b n : Nat} {f : Nat → Lab} (h : LM w b n f) {c : Nat} (hc : c ≤ 9223372036854775807) : (Instr.lookup 48 (.map (some b)) (.int .i64 c) false).run Tryd.prog w = .ok (labV (f c)) w := by
  obtain ⟨D, h1, h2, h3⟩ := h
  obtain ⟨v, ps, hrun, hv⟩ := h2.lookup (int_keyed Tryd.underlying3) Tryd.underlying48 (z := labV lab0) (Tryd.zeroValue81 w) (RL_mk lab0) (keyOf_int_mk Tryd.underlying3 (int_wf hc))
  rw [h3 c] at hv
  rw [hrun, RL_inv hv]
theorem LM.put {w : World} {b n : Nat} {f : Nat → Lab} (h : LM w b n f) {c : Nat} (hc : c ≤ 9223372036854775807) (hn : n < maxLen) (l : Lab) : ∃ w', (Instr.mapUpdate 48 (.map (some b)) (.int .i64 c) (labV l)).run Tryd.prog w = .ok () w' ∧ LM w' b (n + 1) (fun k => if k = c then l else f k) ∧ w.grownBy w' (some b) := by
  obtain ⟨D, h1, h2, h3⟩ := h
  obtain ⟨w', hrun, ho, hg⟩ := h2.update (int_keyed Tryd.underlying3) Tryd.underlying48 hn (keyOf_int_mk Tryd.underlying3 (int_wf hc)) (RL_mk l)
  refine ⟨w', hrun, ⟨_, h1.put _ _, ho, fun k => ?_⟩, hg⟩
  by_cases he : k = c
  · subst he
    show _ = labD (if k = k then l else f k)
    rw [if_pos rfl]
    exact atKey_put_same h1 (by first | exact rfl | exact ⟨_, _, rfl⟩ | exact trivial | simp [WideAt.IsKeyLit]) _ _
  · show _ = labD (if k = c then l else f k)
    rw [if_neg he, atKey_put_other (fun e => he (by have e2 := (Lit.int.inj e).2; omega))]
    exact h3 k
end Go.Proofs.YtinijcmnojlphaaDoor
