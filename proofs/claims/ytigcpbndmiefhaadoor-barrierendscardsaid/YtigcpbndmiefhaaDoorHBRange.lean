/- A range over a function, its rounds met one by one. -/
import Derived.Test.YtigcpbndmiefhaaDoorHBRefStore
import Derived.RangeFuncNested
import Derived.RangeFuncBound
import Derived.RangeFuncCalls
import Derived.RangeFuncLeaves
import Derived.RangeFuncBox
import Derived.Shelf.Abstract
import Derived.Shelf.RegionOpen
import Derived.OwnWalkIn
import Derived.TacticsInMore
import Derived.LoopNIn
import Derived.LoopIn
namespace Go.Proofs.YtigcpbndmiefhaaDoor
open Go.RowKit Go.Shelf

/-- How a round may end: it goes on, or it returns. -/
def Ends (l : Nat) (r : Loop) (R : Ending → World → Prop) : Exit → Act → World → Prop
  | .normal, _, W => W.heap[l]? = some (.loop { r with state := .busy }) ∧ R (.returned (.bool true)) (W.putObj l (.loop { r with state := .ready, pending := none }))
  | .ret, _, W => W.heap[l]? = some (.loop { r with state := .busy }) ∧ R (.returned (.bool false)) (W.putObj l (.loop { r with state := .done, pending := some .ret }))
  | _, _, _ => False
theorem yield_round {F : Fence} {P : Program} {m l : Nat} {r : Loop} {args : Array Value} {W : World} {R : Ending → World → Prop} (hl : W.heap[l]? = some (.loop r)) (hr : r.state = .ready) (hs : args.size = r.params.size) (hF : F.fn r.fn)
    (h : ∀ K : Act → World → Prop, (∀ a₁ w₁, w₁.heap[l]? = some (.loop r) → r.body.wpIn (F.inRound l) m P (Ends l r R) a₁ (w₁.putObj l (.loop { r with state := .busy })) → K a₁ w₁) →
      r.assign.wpIn (F.inRound l) m P (Exit.then K (fun _ _ _ => False)) { tmps := (r.params.zip args).foldl (fun t (p, v) => t.setIfInBounds p v) r.tmps, defers := [] } W) : YieldAt F m P l args W R := by
  refine ⟨_, _, _, _, run_yield hl hs, roundIn_of_wpIn hF (h _ (fun a₁ w₁ hl₁ hb => ⟨_, run_beginRound hl₁ hr, wpIn_mono hb ?_⟩))⟩
  rintro e a3 W3 he
  cases e with
  | normal => exact ⟨_, _, run_endRound none he.1, he.2⟩
  | ret => exact ⟨_, _, run_endRound (some .ret) he.1, he.2⟩
  | exit id => exact he.elim
  | goto t => exact he.elim
  | panic ch => exact he.elim
  | outgrown => exact he.elim
/-- The loop's record, and the world in which the rounds begin. -/
def recL (w : World) (fn : FuncId) (tmps : Array Value) (ps : Array Tmp) (assign body : Code) : Loop := { state := .ready, pending := none, fn := fn, tmps := tmps, params := ps, assign := assign, body := body, defers := w.heap.size }
def entW (w : World) (r : Loop) : World := (w.alloc (.deferred (some []))).alloc (.loop r)
theorem range_at {F : Fence} {n : Nat} {P : Program} {g : Operand} {ps : Array Tmp} {assign body : Code} {Q : Exit → Act → World → Prop} {a : Act} {w : World} (hro : F.round = none) (h1 : 1 ≤ n) {gf : Nat} {lb : Array Value} (hg : a.eval g = .func (.func gf) #[] lb) (hFg : F.fn gf) (eg : ∀ args w, (callFunc gf args).run P w = .ok (.enter gf args) w)
    (h : ∀ fn, F.fn fn → CallsIn F (n - 1) P gf (#[.func (.yield (w.heap.size + 1)) #[] #[]] ++ lb) (entW w (recL w fn a.tmps ps assign body)) fun e W => (∃ v, e = .returned v) ∧
      ((∃ r, W.heap[w.heap.size + 1]? = some (.loop r) ∧ r.state = .ready ∧ r.pending = none ∧ Q .normal { a with defers := { target := .collected w.heap.size, args := #[] } :: a.defers } (W.putObj (w.heap.size + 1) (.loop { r with state := .exhausted }))) ∨
       (∃ r, W.heap[w.heap.size + 1]? = some (.loop r) ∧ r.state = .done ∧ r.pending = some .ret ∧ Code.ret.wpIn F n P Q { a with defers := { target := .collected w.heap.size, args := #[] } :: a.defers } (W.putObj (w.heap.size + 1) (.loop { r with state := .exhausted }))))) :
    (Code.rangeFunc g ps assign body).wpIn F n P Q a w := by
  refine wpIn_rangeFunc fun fn hfn => ?_
  rw [hro]
  have h0 := h fn hfn
  generalize hr : recL w fn a.tmps ps assign body = r0 at h0
  have e1 : (Instr.enterLoop fn a.tmps ps assign body none).run P w = .ok (w.heap.size + 1, [{ target := .collected w.heap.size, args := #[] }]) (entW w r0) := by
    subst hr
    exact run_enterLoop_outer fn a.tmps ps assign body
  generalize entW w r0 = W0 at h0 e1
  have e2 : (resolve a.eval (rangeCall g (w.heap.size + 1)) 0).run P W0 = .ok { target := .fn (.func gf) lb, args := #[.func (.yield (w.heap.size + 1)) #[] #[]] } W0 := by
    simp only [resolve, hg]
    simp [go_sem]
  have e3 : (invoke (.fn (.func gf) lb) #[.func (.yield (w.heap.size + 1)) #[] #[]]).run P W0 = .ok (.enter gf (#[.func (.yield (w.heap.size + 1)) #[] #[]] ++ lb)) W0 := by
    simp [invoke, go_sem, eg]
  have e4 : ∀ f', Target.leads P W0 (.fn (.func gf) lb) #[.func (.yield (w.heap.size + 1)) #[] #[]] = some f' → F.fn f' := by
    intro f' hf'
    simp [Target.leads] at hf'
    subst hf'
    exact hFg
  refine ⟨_, _, _, _, _, _, _, _, e1, e2, e4, e3, fun _ => h1, h0.mono ?_⟩
  rintro e W ⟨⟨v, rfl⟩, hh⟩
  rcases hh with ⟨r, hl, hs, hp, hq⟩ | ⟨r, hl, hs, hp, hq⟩
  · exact ⟨none, _, (run_endLoop hl (by rw [hs]; decide)).trans (by rw [hp]), hq⟩
  · exact ⟨some .ret, _, (run_endLoop hl (by rw [hs]; decide)).trans (by rw [hp]), hq⟩
end Go.Proofs.YtigcpbndmiefhaaDoor
