/- Gifts in a map. -/
import Derived.Test.YtaenoenchbfeiaaHAIns
import Derived.Maps.OwnSet
import Derived.Maps.Views
namespace Go.Proofs.Ytaenoenchbfeiaa
open Go.RowKit Go.Maps Go.ChangeMaps

def intD (x : Int) : DataW Unit := .lit (.int .i64 x)
def RI (v : Value) : Option (DataW Unit × List MemPlace) := match v with
  | .int .i64 a => some (intD a, [])
  | _ => none
theorem RI_mk (x : Int) : RI (.int .i64 x) = some (intD x, []) := rfl
theorem RI_inv {v : Value} {x : Int} {ps : List MemPlace} (h : RI v = some (intD x, ps)) : v = .int .i64 x := by
  unfold RI at h
  split at h
  · rename_i a
    have h1 := (Prod.mk.inj (Option.some.inj h)).1
    unfold intD at h1
    simp only [DataW.lit.injEq, Lit.int.injEq, true_and] at h1
    rw [h1]
  · cases h
/-- The map's block tells each thread's cell. -/
def GM (w : World) (b n : Nat) (f : Int → Option Nat) : Prop := ∃ D : DataW Unit, IsMap D ∧ w.ownsMap Try.prog 3 RI b n D ∧
  ∀ t : Int, 1 ≤ t → t ≤ 8 → has D (.int .i64 t) = (f t).isSome ∧ D.atKey (.int .i64 t) (intD 0) = intD (((f t).getD 0 : Nat) : Int)
theorem thr_wf {t : Int} (h : 1 ≤ t) (h8 : t ≤ 8) : (Lit.int .i64 t).wf = true := by
  simp [Lit.wf, IntKind.min, IntKind.max, IntKind.signed, IntKind.bits]; omega
theorem GM.made (w : World) : GM (w.alloc (.map #[] 0)) w.heap.size 0 (fun _ => none) := ⟨.map [], ⟨[], rfl⟩, World.ownsMap_made w _ _ _, fun _ _ _ => ⟨rfl, rfl⟩⟩
theorem GM.kept {w w' : World} {b n : Nat} {f : Int → Option Nat} (h : GM w b n f) (hb : w'.heap[b]? = w.heap[b]?) : GM w' b n f := by
  obtain ⟨D, h1, ⟨es, clock, h2, h3, h4, h5⟩, h6⟩ := h
  exact ⟨D, h1, ⟨es, clock, hb.trans h2, h3, h4, h5⟩, h6⟩
theorem GM.isMapObj {w : World} {b n : Nat} {f : Int → Option Nat} (h : GM w b n f) : ∃ es clock, w.heap[b]? = some (.map es clock) := by
  obtain ⟨D, _, ⟨es, clock, h2, _⟩, _⟩ := h
  exact ⟨es, clock, h2⟩
theorem GM.lt {w : World} {b n : Nat} {f : Int → Option Nat} (h : GM w b n f) : b < w.heap.size := by
  obtain ⟨es, clock, h2⟩ := h.isMapObj
  exact heap_lt h2
theorem GM.look {w : World} {b n : Nat} {f : Int → Option Nat} (h : GM w b n f) {t : Int} (ht : 1 ≤ t) (h8 : t ≤ 8) : (Instr.lookup 76 (.map (some b)) (.int .i64 t) true).run Try.prog w = .ok (.tuple #[.int .i64 (((f t).getD 0 : Nat) : Int), .bool (f t).isSome]) w := by
  obtain ⟨D, h1, h2, h3⟩ := h
  obtain ⟨v, ps, hrun, hv⟩ := h2.look_ok (int_keyed Try.underlying3) Try.underlying76 (z := .int .i64 0) (Try.zeroValue3 w) (RI_mk 0) (keyOf_int_mk Try.underlying3 (thr_wf ht h8))
  rw [(h3 t ht h8).2] at hv
  rw [hrun, RI_inv hv, (h3 t ht h8).1]
theorem key_ne {t k : Int} (h : k ≠ t) : (Lit.int .i64 k) ≠ (Lit.int .i64 t) := fun e => h (Lit.int.inj e).2
theorem GM.del {w : World} {b n : Nat} {f : Int → Option Nat} (h : GM w b n f) {t : Int} (ht : 1 ≤ t) (h8 : t ≤ 8) : ∃ w', (∀ ty, (Builtin.delete_ #[76, 3] ty #[.map (some b), .int .i64 t]).run Try.prog w = .ok (.tuple #[]) w') ∧ GM w' b n (fun k => if k = t then none else f k) ∧ w.grownBy w' (some b) ∧ w'.heap.size = w.heap.size := by
  obtain ⟨D, h1, h2, h3⟩ := h
  have hk := keyOf_int_mk (P := Try.prog) Try.underlying3 (thr_wf ht h8)
  obtain ⟨w', hrun, ho, hg⟩ := h2.drop (int_keyed Try.underlying3) Try.underlying76 hk 0
  refine ⟨w', fun ty => ?_, ⟨_, h1.del _, ho, fun k hk1 hk8 => ?_⟩, hg.grown, ?_⟩
  · exact hrun
  · by_cases he : k = t
    · subst he
      dsimp only
      rw [if_pos rfl]
      exact ⟨has_del_same, atKey_del_same _⟩
    · dsimp only
      rw [if_neg he, has_del_other (key_ne he), atKey_del_other (key_ne he)]
      exact h3 k hk1 hk8
  · obtain ⟨es, clock, es', clock', _, rfl⟩ := hg
    simp [setBlock]
theorem GM.put {w : World} {b n : Nat} {f : Int → Option Nat} (h : GM w b n f) {t : Int} (ht : 1 ≤ t) (h8 : t ≤ 8) (hn : n < maxLen) (c : Nat) : ∃ w', (Instr.mapUpdate 76 (.map (some b)) (.int .i64 t) (.int .i64 c)).run Try.prog w = .ok () w' ∧ GM w' b (n + 1) (fun k => if k = t then some c else f k) ∧ w.grownBy w' (some b) ∧ w'.heap.size = w.heap.size := by
  obtain ⟨D, h1, h2, h3⟩ := h
  obtain ⟨w', hrun, ho, hg⟩ := h2.store (int_keyed Try.underlying3) Try.underlying76 hn (keyOf_int_mk Try.underlying3 (thr_wf ht h8)) (RI_mk (c : Int))
  have hk : WideAt.IsKeyLit (.int .i64 t) := by first | exact rfl | exact ⟨_, _, rfl⟩ | exact trivial | simp [WideAt.IsKeyLit]
  refine ⟨w', hrun, ⟨_, h1.put _ _, ho, fun k hk1 hk8 => ?_⟩, hg.grown, ?_⟩
  · by_cases he : k = t
    · subst he
      dsimp only
      rw [if_pos rfl]
      exact ⟨has_put_same h1 hk _, atKey_put_same h1 hk _ _⟩
    · dsimp only
      rw [if_neg he, has_put_other (key_ne he), atKey_put_other (key_ne he)]
      exact h3 k hk1 hk8
  · obtain ⟨es, clock, es', clock', _, rfl⟩ := hg
    simp [setBlock]
end Go.Proofs.Ytaenoenchbfeiaa
