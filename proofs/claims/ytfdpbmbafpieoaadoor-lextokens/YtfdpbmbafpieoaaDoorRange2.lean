/- A range over a function in two parts: one round, told of the loop's record; the statement itself. For an iterator that ranges over another one. -/
import Derived.RangeFuncNested
import Derived.RangeFuncBound
namespace Go.Proofs.YtfdpbmbafpieoaaDoor
open Go.RowKit

/-- How a round may be left, the record still busy: G where it goes on, L c where it leaves by c. -/
def Left (l : Nat) (r : Loop) (G : World → Prop) (L : Code → World → Prop) : Exit → Act → World → Prop
  | .normal, _, W => W.heap[l]? = some (.loop { r with state := .busy }) ∧ G W
  | .ret, _, W => W.heap[l]? = some (.loop { r with state := .busy }) ∧ L .ret W
  | .exit id, _, W => W.heap[l]? = some (.loop { r with state := .busy }) ∧ L (.exit id) W
  | .goto t, _, W => W.heap[l]? = some (.loop { r with state := .busy }) ∧ L (.goto t) W
  | .panic _, _, _ => False
  | .outgrown, _, _ => False

/-- One call of yield. -/
theorem yield_round {F : Fence} {m : Nat} {P : Program} {l : Nat} {args : Array Value} {W : World} {r : Loop} {G : World → Prop} {L : Code → World → Prop} (hl : W.heap[l]? = some (.loop r)) (hr : r.state = .ready) (hp : r.pending = none) (hs : args.size = r.params.size) (hF : F.fn r.fn)
    (h : r.assign.wpIn (F.inRound l) m P (Exit.then (fun a1 W1 => W1.heap[l]? = some (.loop r) ∧ r.body.wpIn (F.inRound l) m P (Left l r G L) a1 (W1.putObj l (.loop { r with state := .busy }))) (fun _ _ _ => False))
      { tmps := (r.params.zip args).foldl (fun t (p, v) => t.setIfInBounds p v) r.tmps, defers := [] } W) :
    YieldAt F m P l args W fun e W' => (e = .returned (.bool true) ∧ ∃ W3, W3.heap[l]? = some (.loop { r with state := .busy }) ∧ W' = W3.putObj l (.loop r) ∧ G W3) ∨
      (e = .returned (.bool false) ∧ ∃ c W3, W3.heap[l]? = some (.loop { r with state := .busy }) ∧ W' = W3.putObj l (.loop { r with state := .done, pending := some c }) ∧ L c W3) := by
  obtain ⟨st, pe, fn, tmps, ps, assign, body, df⟩ := r
  simp only at hr hp hs hF h ⊢
  subst hr hp
  refine ⟨fn, _, assign, body, run_yield hl hs, roundIn_of_wpIn hF (wpIn_mono h ?_)⟩
  intro e a1 W1 he
  cases e with
  | normal =>
    obtain ⟨hl1, hb⟩ := he
    refine ⟨_, run_beginRound hl1 rfl, wpIn_mono hb ?_⟩
    intro e3 a3 W3 h3
    cases e3 with
    | normal => exact ⟨_, _, run_endRound none h3.1, .inl ⟨rfl, W3, h3.1, rfl, h3.2⟩⟩
    | ret => exact ⟨_, _, run_endRound (some .ret) h3.1, .inr ⟨rfl, _, W3, h3.1, rfl, h3.2⟩⟩
    | exit id => exact ⟨_, _, run_endRound (some (.exit id)) h3.1, .inr ⟨rfl, _, W3, h3.1, rfl, h3.2⟩⟩
    | goto t => exact ⟨_, _, run_endRound (some (.goto t)) h3.1, .inr ⟨rfl, _, W3, h3.1, rfl, h3.2⟩⟩
    | panic ch => exact h3.elim
    | outgrown => exact h3.elim
  | ret => exact he.elim
  | exit id => exact he.elim
  | goto t => exact he.elim
  | panic ch => exact he.elim
  | outgrown => exact he.elim

/-- What must hold when the iterator has returned: nothing is pending, or a jump is. -/
def Over (F : Fence) (n : Nat) (P : Program) (l : Nat) (r : Loop) (Q : Exit → Act → World → Prop) (a : Act) (W : World) : Prop :=
  (W.heap[l]? = some (.loop r) ∧ Q .normal a (W.putObj l (.loop { r with state := .exhausted }))) ∨
  ∃ c, W.heap[l]? = some (.loop { r with state := .done, pending := some c }) ∧ c.wpIn F n P Q a (W.putObj l (.loop { r with state := .exhausted, pending := some c }))

/-- The statement, at the outermost. -/
theorem range_outer {F : Fence} {n : Nat} {P : Program} {g : Operand} {ps : Array Tmp} {assign body : Code} {Q : Exit → Act → World → Prop} {a : Act} {w : World}
    (hro : F.round = none) (h1 : 1 ≤ n) {gf : Nat} {lb : Array Value} (hg : a.eval g = .func (.func gf) #[] lb) (hFg : F.fn gf) (eg : ∀ args w, (callFunc gf args).run P w = .ok (.enter gf args) w)
    (h : ∀ fn, F.fn fn → CallsIn F (n - 1) P gf (#[.func (.yield (w.heap.size + 1)) #[] #[]] ++ lb) ((w.alloc (.deferred (some []))).alloc (.loop ⟨.ready, none, fn, a.tmps, ps, assign, body, w.heap.size⟩)) fun e W => (∃ v, e = .returned v) ∧
      Over F n P (w.heap.size + 1) ⟨.ready, none, fn, a.tmps, ps, assign, body, w.heap.size⟩ Q { a with defers := { target := .collected w.heap.size, args := #[] } :: a.defers } W) :
    (Code.rangeFunc g ps assign body).wpIn F n P Q a w := by
  refine wpIn_rangeFunc ?_
  intro fn hfn
  refine ⟨_, _, _, { target := .fn (.func gf) lb, args := #[.func (.yield (w.heap.size + 1)) #[] #[]] }, (w.alloc (.deferred (some []))).alloc (.loop ⟨.ready, none, fn, a.tmps, ps, assign, body, w.heap.size⟩), gf, _, _, by rw [hro]; exact run_enterLoop_outer _ _ _ _ _, ?_, ?_, ?_, fun _ => h1, (h fn hfn).mono ?_⟩
  · simp only [resolve, hg]; simp [go_sem]
  · intro f' hf'; simp [Target.leads] at hf'; subst hf'; exact hFg
  · simp [invoke, go_sem, eg]
  · rintro e W ⟨⟨v, rfl⟩, ⟨hl, hq⟩ | ⟨c, hl, hq⟩⟩
    · exact ⟨none, _, run_endLoop hl (by simp), hq⟩
    · exact ⟨some c, _, run_endLoop hl (by simp), hq⟩

/-- .. and within a round of loop l₀. -/
theorem range_inner {F : Fence} {n : Nat} {P : Program} {g : Operand} {ps : Array Tmp} {assign body : Code} {Q : Exit → Act → World → Prop} {a : Act} {w : World} {l₀ : Nat} {r₀ : Loop}
    (hro : F.round = some l₀) (hl₀ : w.heap[l₀]? = some (.loop r₀)) (h1 : 1 ≤ n) {gf : Nat} {lb : Array Value} (hg : a.eval g = .func (.func gf) #[] lb) (hFg : F.fn gf) (eg : ∀ args w, (callFunc gf args).run P w = .ok (.enter gf args) w)
    (h : ∀ fn, F.fn fn → CallsIn F (n - 1) P gf (#[.func (.yield w.heap.size) #[] #[]] ++ lb) (w.alloc (.loop ⟨.ready, none, fn, a.tmps, ps, assign, body, r₀.defers⟩)) fun e W => (∃ v, e = .returned v) ∧
      Over F n P w.heap.size ⟨.ready, none, fn, a.tmps, ps, assign, body, r₀.defers⟩ Q a W) :
    (Code.rangeFunc g ps assign body).wpIn F n P Q a w := by
  refine wpIn_rangeFunc ?_
  intro fn hfn
  refine ⟨_, _, _, { target := .fn (.func gf) lb, args := #[.func (.yield w.heap.size) #[] #[]] }, w.alloc (.loop ⟨.ready, none, fn, a.tmps, ps, assign, body, r₀.defers⟩), gf, _, _, by rw [hro]; exact run_enterLoop_inner hl₀ _ _ _ _ _, ?_, ?_, ?_, fun _ => h1, (h fn hfn).mono ?_⟩
  · simp only [resolve, hg]; simp [go_sem]
  · intro f' hf'; simp [Target.leads] at hf'; subst hf'; exact hFg
  · simp [invoke, go_sem, eg]
  · rintro e W ⟨⟨v, rfl⟩, ⟨hl, hq⟩ | ⟨c, hl, hq⟩⟩
    · exact ⟨none, _, run_endLoop hl (by simp), hq⟩
    · exact ⟨some c, _, run_endLoop hl (by simp), hq⟩
end Go.Proofs.YtfdpbmbafpieoaaDoor
