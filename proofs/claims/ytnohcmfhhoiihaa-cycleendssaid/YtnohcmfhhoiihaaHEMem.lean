/- CycleEnds: how what is around lies in memory: one block, four rows of its own. -/
import Derived.Test.YtnohcmfhhoiihaaHEMath
namespace Go.Proofs.Ytnohcmfhhoiihaa
open Go.RowKit

theorem ty_ne {w : World} {g h : Nat} {cs ds : Array Value} {t u : TypeId} (hg : w.heap[g]? = some (.cells cs t (0, 0))) (hh : w.heap[h]? = some (.cells ds u (0, 0))) (hn : t ≠ u) : g ≠ h := fun e => by
  subst e
  rw [hg] at hh
  cases hh
  exact hn rfl
theorem own_blk {w : World} {base e size n g : Nat} {v : Value} {xs : List Value} (h : w.ownsRow base e size v n xs) (hg : v.ownBlock = some g) : ∃ cs, w.heap[g]? = some (.cells cs e (0, 0)) := by
  rcases h.2 with ⟨h', _⟩ | ⟨g', cap, cur, hv, _, hh, _⟩
  · rw [h'] at hg; cases hg
  · rw [hv] at hg
    cases hg
    exact ⟨cur, hh⟩
theorem own_ne {W : World} {b b' e e' c c' n n' : Nat} {v v' : Value} {xs xs' : List Value} (h : W.ownsRow b e c v n xs) (h' : W.ownsRow b' e' c' v' n' xs') (hne : e ≠ e') : ∀ g, v.ownBlock = some g → v'.ownBlock ≠ some g := fun g hg hg' => by
  obtain ⟨cs, hc⟩ := own_blk h hg
  obtain ⟨ds, hd⟩ := own_blk h' hg'
  exact ty_ne hc hd hne rfl
theorem own_ty {w : World} {base e size n k : Nat} {v : Value} {xs : List Value} {cs : Array Value} {t : TypeId} (h : w.ownsRow base e size v n xs) (hk : w.heap[k]? = some (.cells cs t (0, 0))) (hn : t ≠ e) : v.ownBlock ≠ some k := fun hg => by
  obtain ⟨ds, hd⟩ := own_blk h hg
  exact ty_ne hk hd hn rfl
theorem own_put {w : World} {base e size n cap g k : Nat} {xs : List Value} (h : w.ownsRow base e size (.slice (some ⟨g, 0, none⟩) n cap) n xs) (hk : k < xs.length) (u : Value) : (w.setCell ⟨g, k, none⟩ u).ownsRow base e size (.slice (some ⟨g, 0, none⟩) n cap) n (xs.set k u) := by
  obtain ⟨cs, h1, h2, h3, h4, h5, h6, h7⟩ := own_out h
  refine own_of (set_atC h1 u) (by simp [h2]) h3 h4 h5 (by simp [h6]) (fun j x hj => ?_)
  rw [List.getElem?_set] at hj
  have hkc : k < cs.size := (Array.getElem?_eq_some_iff.1 (h7 k _ (List.getElem?_eq_getElem hk))).1
  split at hj
  · rename_i e
    subst e
    cases hj
    rw [Array.getElem?_setIfInBounds_self_of_lt hkc]
  · rename_i e
    rw [Array.getElem?_setIfInBounds_ne e]
    exact h7 j x hj
/-- Blocks of the collector's own kinds stay. -/
def Kt (w w' : World) : Prop := w.heap.size ≤ w'.heap.size ∧ ∀ (k : Nat) (cs : Array Value) (t : TypeId), (t = 27 ∨ t = 29 ∨ t = 34) → w.heap[k]? = some (.cells cs t (0, 0)) → w'.heap[k]? = some (.cells cs t (0, 0))
theorem Kt.refl (w : World) : Kt w w := ⟨Nat.le_refl _, fun _ _ _ _ h => h⟩
theorem Kt.keep {w W W' : World} (h : Kt w W) (hb : Below W.heap.size W W') : Kt w W' := ⟨Nat.le_trans h.1 hb.size, fun k cs t ht hk => (hb.block k (heap_lt (h.2 k cs t ht hk))).trans (h.2 k cs t ht hk)⟩
theorem Kt.set {w W : World} {g j : Nat} {cs : Array Value} {u : TypeId} (h : Kt w W) (hg : W.heap[g]? = some (.cells cs u (0, 0))) (n1 : u ≠ 27) (n2 : u ≠ 29) (n3 : u ≠ 34) (x : Value) : Kt w (W.setCell ⟨g, j, none⟩ x) := by
  refine ⟨by rw [World.size_setCell]; exact h.1, fun k ds t ht hk => ?_⟩
  have hk' := h.2 k ds t ht hk
  refine (Below.heap_setCell _ _ _ _ (ty_ne hk' hg ?_)).trans hk'
  rcases ht with rfl | rfl | rfl
  · exact n1.symm
  · exact n2.symm
  · exact n3.symm
theorem Kt.new {w W : World} {g j : Nat} (h : Kt w W) (hg : w.heap.size ≤ g) (x : Value) : Kt w (W.setCell ⟨g, j, none⟩ x) :=
  ⟨by rw [World.size_setCell]; exact h.1, fun k _ t ht hk => (Below.heap_setCell _ _ _ _ (fun e => by have := heap_lt hk; have e' : k = g := e; omega)).trans (h.2 k _ t ht hk)⟩
theorem Kt.grow {w W W' : World} {base e size n : Nat} {v : Value} {xs : List Value} (h : Kt w W) (ho : W.ownsRow base e size v n xs) (hg : W.grownBy W' v.ownBlock) (n1 : e ≠ 27) (n2 : e ≠ 29) (n3 : e ≠ 34) : Kt w W' := by
  refine ⟨Nat.le_trans h.1 hg.size, fun k ds t ht hk => ?_⟩
  have hk' := h.2 k ds t ht hk
  refine (hg.block k (heap_lt hk') (fun e' => ?_)).trans hk'
  refine own_ty ho hk' ?_ e'.symm
  rcases ht with rfl | rfl | rfl
  · exact n1.symm
  · exact n2.symm
  · exact n3.symm
/-- The four rows' values. -/
structure Vs where
  l : Value
  s : Value
  t : Value
  a : Value
/-- The rows: how many, and what they hold. -/
structure Xs where
  nl : Nat
  xl : List Value
  ns : Nat
  xs : List Value
  nt : Nat
  xt : List Value
  na : Nat
  xa : List Value
structure WX (w0 w1 W : World) (b : Nat) (v : Vs) (x : Xs) (gr lf : Int) : Prop where
  bl : W.heap[b]? = some (.cells #[v.l, v.s, v.t, v.a, .int .i64 gr, .int .i64 lf] 45 (0, 0))
  l : W.ownsRow w0.heap.size 47 4 v.l x.nl x.xl
  s : W.ownsRow w0.heap.size 4 1 v.s x.ns x.xs
  t : W.ownsRow w0.heap.size 4 1 v.t x.nt x.xt
  a : W.ownsRow w0.heap.size 3 1 v.a x.na x.xa
  ap : ∀ k, v.s.ownBlock = some k → v.t.ownBlock ≠ some k
  le : w0.heap.size ≤ b
  bel : Below w0.heap.size w0 W
  kt : Kt w1 W
theorem WX.lt {w0 w1 W : World} {b : Nat} {v : Vs} {x : Xs} {gr lf : Int} (h : WX w0 w1 W b v x gr lf) : b < W.heap.size := heap_lt h.bl
theorem WX.keep {w0 w1 W W' : World} {b : Nat} {v : Vs} {x : Xs} {gr lf : Int} (h : WX w0 w1 W b v x gr lf) (hb : Below W.heap.size W W') : WX w0 w1 W' b v x gr lf :=
  ⟨(hb.block _ h.lt).trans h.bl, own_same h.l (fun k hk => hb.block k (h.l.lt k hk).2), own_same h.s (fun k hk => hb.block k (h.s.lt k hk).2), own_same h.t (fun k hk => hb.block k (h.t.lt k hk).2), own_same h.a (fun k hk => hb.block k (h.a.lt k hk).2), h.ap, h.le, h.bel.trans (hb.mono h.bel.size), h.kt.keep hb⟩
theorem WX.drew {w0 w1 W : World} {b : Nat} {v : Vs} {x : Xs} {gr lf : Int} (h : WX w0 w1 W b v x gr lf) : WX w0 w1 W.drew b v x gr lf := h.keep ((Below.refl _ _).drew)
theorem WX.alloc {w0 w1 W : World} {b : Nat} {v : Vs} {x : Xs} {gr lf : Int} (h : WX w0 w1 W b v x gr lf) (o : Obj) : WX w0 w1 (W.alloc o) b v x gr lf := h.keep ((Below.refl _ _).alloc (Nat.le_refl _) _)
/-- A cell of another type's block is set. -/
theorem WX.other {w0 w1 W : World} {b g j : Nat} {v : Vs} {x : Xs} {gr lf : Int} {cs : Array Value} {t : TypeId} (h : WX w0 w1 W b v x gr lf) (hg : W.heap[g]? = some (.cells cs t (0, 0))) (hl : w0.heap.size ≤ g) (hw : w1.heap.size ≤ g) (n1 : t ≠ 45) (n2 : t ≠ 47) (n3 : t ≠ 4) (n4 : t ≠ 3) (u : Value) : WX w0 w1 (W.setCell ⟨g, j, none⟩ u) b v x gr lf := by
  have hk : ∀ k, k ≠ g → (W.setCell ⟨g, j, none⟩ u).heap[k]? = W.heap[k]? := fun k hk => Below.heap_setCell _ _ _ _ hk
  refine ⟨(hk _ (ty_ne h.bl hg n1.symm)).trans h.bl, own_same h.l (fun k hk' => hk k (fun e => own_ty h.l hg n2 (e ▸ hk'))), own_same h.s (fun k hk' => hk k (fun e => own_ty h.s hg n3 (e ▸ hk'))), own_same h.t (fun k hk' => hk k (fun e => own_ty h.t hg n3 (e ▸ hk'))), own_same h.a (fun k hk' => hk k (fun e => own_ty h.a hg n4 (e ▸ hk'))), h.ap, h.le, h.bel.setCell (p := ⟨g, j, none⟩) hl _, h.kt.new hw _⟩
/-- A field of the block is set. -/
theorem WX.field {w0 w1 W : World} {b j : Nat} {v : Vs} {x : Xs} {gr lf gr' lf' : Int} (h : WX w0 w1 W b v x gr lf) (u : Value) (he : (#[v.l, v.s, v.t, v.a, .int .i64 gr, .int .i64 lf] : Array Value).setIfInBounds j u = #[v.l, v.s, v.t, v.a, .int .i64 gr', .int .i64 lf']) : WX w0 w1 (W.setCell ⟨b, j, none⟩ u) b v x gr' lf' := by
  have hk : ∀ k, k ≠ b → (W.setCell ⟨b, j, none⟩ u).heap[k]? = W.heap[k]? := fun k hk => Below.heap_setCell _ _ _ _ hk
  have h0 := set_atC (j := j) h.bl u
  rw [he] at h0
  exact ⟨h0, own_same h.l (fun k hk' => hk k (fun e => own_ty h.l h.bl (by decide) (e ▸ hk'))), own_same h.s (fun k hk' => hk k (fun e => own_ty h.s h.bl (by decide) (e ▸ hk'))), own_same h.t (fun k hk' => hk k (fun e => own_ty h.t h.bl (by decide) (e ▸ hk'))), own_same h.a (fun k hk' => hk k (fun e => own_ty h.a h.bl (by decide) (e ▸ hk'))), h.ap, h.le, h.bel.setCell (p := ⟨b, j, none⟩) h.le _, h.kt.set h.bl (by decide) (by decide) (by decide) _⟩
/-- A cell of a row is set. -/
theorem WX.putL {w0 w1 W : World} {b k g c : Nat} {v : Vs} {x : Xs} {gr lf : Int} (h : WX w0 w1 W b v x gr lf) (hv : v.l = .slice (some ⟨g, 0, none⟩) x.nl c) (hk : k < x.xl.length) (u : Value) : WX w0 w1 (W.setCell ⟨g, k, none⟩ u) b v { x with xl := x.xl.set k u } gr lf := by
  have hg := h.l.lt g (by rw [hv]; rfl)
  have hf : ∀ q, q ≠ g → (W.setCell ⟨g, k, none⟩ u).heap[q]? = W.heap[q]? := fun q hq => Below.heap_setCell _ _ _ _ hq
  have hl := h.l
  rw [hv] at hl
  refine ⟨(hf _ (fun e => own_ty h.l h.bl (by decide) (by rw [hv, e]; rfl))).trans h.bl, ?_, own_same h.s (fun q hq => hf q (fun e => own_ne h.s h.l (by decide) q hq (by rw [hv, e]; rfl))), own_same h.t (fun q hq => hf q (fun e => own_ne h.t h.l (by decide) q hq (by rw [hv, e]; rfl))), own_same h.a (fun q hq => hf q (fun e => own_ne h.a h.l (by decide) q hq (by rw [hv, e]; rfl))), h.ap, h.le, h.bel.setCell (p := ⟨g, k, none⟩) hg.1 _, ?_⟩
  · show World.ownsRow _ _ _ _ _ _ _
    rw [hv]
    exact own_put hl hk u
  · obtain ⟨cs, hc⟩ := own_blk h.l (g := g) (by rw [hv]; rfl)
    exact h.kt.set hc (by decide) (by decide) (by decide) _
theorem WX.putS {w0 w1 W : World} {b k g c : Nat} {v : Vs} {x : Xs} {gr lf : Int} (h : WX w0 w1 W b v x gr lf) (hv : v.s = .slice (some ⟨g, 0, none⟩) x.ns c) (hk : k < x.xs.length) (u : Value) : WX w0 w1 (W.setCell ⟨g, k, none⟩ u) b v { x with xs := x.xs.set k u } gr lf := by
  have hg := h.s.lt g (by rw [hv]; rfl)
  have hf : ∀ q, q ≠ g → (W.setCell ⟨g, k, none⟩ u).heap[q]? = W.heap[q]? := fun q hq => Below.heap_setCell _ _ _ _ hq
  have hl := h.s
  rw [hv] at hl
  refine ⟨(hf _ (fun e => own_ty h.s h.bl (by decide) (by rw [hv, e]; rfl))).trans h.bl, own_same h.l (fun q hq => hf q (fun e => own_ne h.l h.s (by decide) q hq (by rw [hv, e]; rfl))), ?_, own_same h.t (fun q hq => hf q (fun e => h.ap g (by rw [hv]; rfl) (e ▸ hq))), own_same h.a (fun q hq => hf q (fun e => own_ne h.a h.s (by decide) q hq (by rw [hv, e]; rfl))), h.ap, h.le, h.bel.setCell (p := ⟨g, k, none⟩) hg.1 _, ?_⟩
  · show World.ownsRow _ _ _ _ _ _ _
    rw [hv]
    exact own_put hl hk u
  · obtain ⟨cs, hc⟩ := own_blk h.s (g := g) (by rw [hv]; rfl)
    exact h.kt.set hc (by decide) (by decide) (by decide) _
theorem WX.putT {w0 w1 W : World} {b k g c : Nat} {v : Vs} {x : Xs} {gr lf : Int} (h : WX w0 w1 W b v x gr lf) (hv : v.t = .slice (some ⟨g, 0, none⟩) x.nt c) (hk : k < x.xt.length) (u : Value) : WX w0 w1 (W.setCell ⟨g, k, none⟩ u) b v { x with xt := x.xt.set k u } gr lf := by
  have hg := h.t.lt g (by rw [hv]; rfl)
  have hf : ∀ q, q ≠ g → (W.setCell ⟨g, k, none⟩ u).heap[q]? = W.heap[q]? := fun q hq => Below.heap_setCell _ _ _ _ hq
  have hl := h.t
  rw [hv] at hl
  refine ⟨(hf _ (fun e => own_ty h.t h.bl (by decide) (by rw [hv, e]; rfl))).trans h.bl, own_same h.l (fun q hq => hf q (fun e => own_ne h.l h.t (by decide) q hq (by rw [hv, e]; rfl))), own_same h.s (fun q hq => hf q (fun e => h.ap q hq (by rw [hv, e]; rfl))), ?_, own_same h.a (fun q hq => hf q (fun e => own_ne h.a h.t (by decide) q hq (by rw [hv, e]; rfl))), h.ap, h.le, h.bel.setCell (p := ⟨g, k, none⟩) hg.1 _, ?_⟩
  · show World.ownsRow _ _ _ _ _ _ _
    rw [hv]
    exact own_put hl hk u
  · obtain ⟨cs, hc⟩ := own_blk h.t (g := g) (by rw [hv]; rfl)
    exact h.kt.set hc (by decide) (by decide) (by decide) _
theorem WX.putA {w0 w1 W : World} {b k g c : Nat} {v : Vs} {x : Xs} {gr lf : Int} (h : WX w0 w1 W b v x gr lf) (hv : v.a = .slice (some ⟨g, 0, none⟩) x.na c) (hk : k < x.xa.length) (u : Value) : WX w0 w1 (W.setCell ⟨g, k, none⟩ u) b v { x with xa := x.xa.set k u } gr lf := by
  have hg := h.a.lt g (by rw [hv]; rfl)
  have hf : ∀ q, q ≠ g → (W.setCell ⟨g, k, none⟩ u).heap[q]? = W.heap[q]? := fun q hq => Below.heap_setCell _ _ _ _ hq
  have hl := h.a
  rw [hv] at hl
  refine ⟨(hf _ (fun e => own_ty h.a h.bl (by decide) (by rw [hv, e]; rfl))).trans h.bl, own_same h.l (fun q hq => hf q (fun e => own_ne h.l h.a (by decide) q hq (by rw [hv, e]; rfl))), own_same h.s (fun q hq => hf q (fun e => own_ne h.s h.a (by decide) q hq (by rw [hv, e]; rfl))), own_same h.t (fun q hq => hf q (fun e => own_ne h.t h.a (by decide) q hq (by rw [hv, e]; rfl))), ?_, h.ap, h.le, h.bel.setCell (p := ⟨g, k, none⟩) hg.1 _, ?_⟩
  · show World.ownsRow _ _ _ _ _ _ _
    rw [hv]
    exact own_put hl hk u
  · obtain ⟨cs, hc⟩ := own_blk h.a (g := g) (by rw [hv]; rfl)
    exact h.kt.set hc (by decide) (by decide) (by decide) _
/-- A row has grown, and its value is laid into its field. -/
theorem WX.growL {w0 w1 W W' : World} {b n' : Nat} {v : Vs} {x : Xs} {gr lf : Int} {u : Value} {ys : List Value} (h : WX w0 w1 W b v x gr lf) (hg : W.grownBy W' v.l.ownBlock) (ho : W'.ownsRow w0.heap.size 47 4 u n' ys) : WX w0 w1 (W'.setCell ⟨b, 0, none⟩ u) b { v with l := u } { x with nl := n', xl := ys } gr lf := by
  have hk : ∀ k, k < W.heap.size → v.l.ownBlock ≠ some k → W'.heap[k]? = W.heap[k]? := fun k hk hn => hg.block k hk (fun e => hn e.symm)
  have hb' := (hk _ h.lt (own_ty h.l h.bl (by decide))).trans h.bl
  have hf : ∀ k, k ≠ b → (W'.setCell ⟨b, 0, none⟩ u).heap[k]? = W'.heap[k]? := fun k hk => Below.heap_setCell _ _ _ _ hk
  exact ⟨set_atC (j := 0) hb' u, own_same ho (fun k hk' => hf k (fun e => own_ty ho hb' (by decide) (e ▸ hk'))), own_same h.s (fun k hk' => (hf k (fun e => own_ty h.s h.bl (by decide) (e ▸ hk'))).trans (hk k (h.s.lt k hk').2 (own_ne h.s h.l (by decide) k hk'))), own_same h.t (fun k hk' => (hf k (fun e => own_ty h.t h.bl (by decide) (e ▸ hk'))).trans (hk k (h.t.lt k hk').2 (own_ne h.t h.l (by decide) k hk'))), own_same h.a (fun k hk' => (hf k (fun e => own_ty h.a h.bl (by decide) (e ▸ hk'))).trans (hk k (h.a.lt k hk').2 (own_ne h.a h.l (by decide) k hk'))), h.ap, h.le, (h.bel.trans (grown_low hg (fun g hg' => (h.l.lt g hg').1) h.bel.size)).setCell (p := ⟨b, 0, none⟩) h.le _, (h.kt.grow h.l hg (by decide) (by decide) (by decide)).set hb' (by decide) (by decide) (by decide) _⟩
theorem WX.growS {w0 w1 W W' : World} {b n' : Nat} {v : Vs} {x : Xs} {gr lf : Int} {u : Value} {ys : List Value} (h : WX w0 w1 W b v x gr lf) (hg : W.grownBy W' v.s.ownBlock) (ho : W'.ownsRow w0.heap.size 4 1 u n' ys) (hn : ∀ g, u.ownBlock = some g → v.s.ownBlock = some g ∨ W.heap.size ≤ g) : WX w0 w1 (W'.setCell ⟨b, 1, none⟩ u) b { v with s := u } { x with ns := n', xs := ys } gr lf := by
  have hk : ∀ k, k < W.heap.size → v.s.ownBlock ≠ some k → W'.heap[k]? = W.heap[k]? := fun k hk hn => hg.block k hk (fun e => hn e.symm)
  have hb' := (hk _ h.lt (own_ty h.s h.bl (by decide))).trans h.bl
  have hf : ∀ k, k ≠ b → (W'.setCell ⟨b, 1, none⟩ u).heap[k]? = W'.heap[k]? := fun k hk => Below.heap_setCell _ _ _ _ hk
  refine ⟨set_atC (j := 1) hb' u, own_same h.l (fun k hk' => (hf k (fun e => own_ty h.l h.bl (by decide) (e ▸ hk'))).trans (hk k (h.l.lt k hk').2 (own_ne h.l h.s (by decide) k hk'))), own_same ho (fun k hk' => hf k (fun e => own_ty ho hb' (by decide) (e ▸ hk'))), own_same h.t (fun k hk' => (hf k (fun e => own_ty h.t h.bl (by decide) (e ▸ hk'))).trans (hk k (h.t.lt k hk').2 (fun e => h.ap k e hk'))), own_same h.a (fun k hk' => (hf k (fun e => own_ty h.a h.bl (by decide) (e ▸ hk'))).trans (hk k (h.a.lt k hk').2 (own_ne h.a h.s (by decide) k hk'))), fun k hk1 hk2 => ?_, h.le, (h.bel.trans (grown_low hg (fun g hg' => (h.s.lt g hg').1) h.bel.size)).setCell (p := ⟨b, 1, none⟩) h.le _, (h.kt.grow h.s hg (by decide) (by decide) (by decide)).set hb' (by decide) (by decide) (by decide) _⟩
  rcases hn k hk1 with e | e
  · exact h.ap k e hk2
  · have := (h.t.lt k hk2).2
    omega
theorem WX.growT {w0 w1 W W' : World} {b n' : Nat} {v : Vs} {x : Xs} {gr lf : Int} {u : Value} {ys : List Value} (h : WX w0 w1 W b v x gr lf) (hg : W.grownBy W' v.t.ownBlock) (ho : W'.ownsRow w0.heap.size 4 1 u n' ys) (hn : ∀ g, u.ownBlock = some g → v.t.ownBlock = some g ∨ W.heap.size ≤ g) : WX w0 w1 (W'.setCell ⟨b, 2, none⟩ u) b { v with t := u } { x with nt := n', xt := ys } gr lf := by
  have hk : ∀ k, k < W.heap.size → v.t.ownBlock ≠ some k → W'.heap[k]? = W.heap[k]? := fun k hk hn => hg.block k hk (fun e => hn e.symm)
  have hb' := (hk _ h.lt (own_ty h.t h.bl (by decide))).trans h.bl
  have hf : ∀ k, k ≠ b → (W'.setCell ⟨b, 2, none⟩ u).heap[k]? = W'.heap[k]? := fun k hk => Below.heap_setCell _ _ _ _ hk
  refine ⟨set_atC (j := 2) hb' u, own_same h.l (fun k hk' => (hf k (fun e => own_ty h.l h.bl (by decide) (e ▸ hk'))).trans (hk k (h.l.lt k hk').2 (own_ne h.l h.t (by decide) k hk'))), own_same h.s (fun k hk' => (hf k (fun e => own_ty h.s h.bl (by decide) (e ▸ hk'))).trans (hk k (h.s.lt k hk').2 (fun e => h.ap k hk' e))), own_same ho (fun k hk' => hf k (fun e => own_ty ho hb' (by decide) (e ▸ hk'))), own_same h.a (fun k hk' => (hf k (fun e => own_ty h.a h.bl (by decide) (e ▸ hk'))).trans (hk k (h.a.lt k hk').2 (own_ne h.a h.t (by decide) k hk'))), fun k hk1 hk2 => ?_, h.le, (h.bel.trans (grown_low hg (fun g hg' => (h.t.lt g hg').1) h.bel.size)).setCell (p := ⟨b, 2, none⟩) h.le _, (h.kt.grow h.t hg (by decide) (by decide) (by decide)).set hb' (by decide) (by decide) (by decide) _⟩
  rcases hn k hk2 with e | e
  · exact h.ap k hk1 e
  · have := (h.s.lt k hk1).2
    omega
theorem WX.growA {w0 w1 W W' : World} {b n' : Nat} {v : Vs} {x : Xs} {gr lf : Int} {u : Value} {ys : List Value} (h : WX w0 w1 W b v x gr lf) (hg : W.grownBy W' v.a.ownBlock) (ho : W'.ownsRow w0.heap.size 3 1 u n' ys) : WX w0 w1 (W'.setCell ⟨b, 3, none⟩ u) b { v with a := u } { x with na := n', xa := ys } gr lf := by
  have hk : ∀ k, k < W.heap.size → v.a.ownBlock ≠ some k → W'.heap[k]? = W.heap[k]? := fun k hk hn => hg.block k hk (fun e => hn e.symm)
  have hb' := (hk _ h.lt (own_ty h.a h.bl (by decide))).trans h.bl
  have hf : ∀ k, k ≠ b → (W'.setCell ⟨b, 3, none⟩ u).heap[k]? = W'.heap[k]? := fun k hk => Below.heap_setCell _ _ _ _ hk
  exact ⟨set_atC (j := 3) hb' u, own_same h.l (fun k hk' => (hf k (fun e => own_ty h.l h.bl (by decide) (e ▸ hk'))).trans (hk k (h.l.lt k hk').2 (own_ne h.l h.a (by decide) k hk'))), own_same h.s (fun k hk' => (hf k (fun e => own_ty h.s h.bl (by decide) (e ▸ hk'))).trans (hk k (h.s.lt k hk').2 (own_ne h.s h.a (by decide) k hk'))), own_same h.t (fun k hk' => (hf k (fun e => own_ty h.t h.bl (by decide) (e ▸ hk'))).trans (hk k (h.t.lt k hk').2 (own_ne h.t h.a (by decide) k hk'))), own_same ho (fun k hk' => hf k (fun e => own_ty ho hb' (by decide) (e ▸ hk'))), h.ap, h.le, (h.bel.trans (grown_low hg (fun g hg' => (h.a.lt g hg').1) h.bel.size)).setCell (p := ⟨b, 3, none⟩) h.le _, (h.kt.grow h.a hg (by decide) (by decide) (by decide)).set hb' (by decide) (by decide) (by decide) _⟩
/-- The rows of threads. -/
def lf4 (T : List Th) : List Value := T.flatMap (fun q => [.bool q.st, .int .i64 q.lt, .bool q.bo, .int .i64 q.sh])
def rows (T : List Th) : Xs := ⟨T.length, lf4 T, T.length, T.map (fun t => .bool t.sc), T.length, T.map (fun t => .bool t.tl), T.length, T.map (fun t => .int .i64 (t.la : Int))⟩
theorem lf4_len : ∀ (T : List Th), (lf4 T).length = T.length * 4
  | [] => rfl
  | y :: r => by
    have := lf4_len r
    have e : lf4 (y :: r) = .bool y.st :: .int .i64 y.lt :: .bool y.bo :: .int .i64 y.sh :: lf4 r := rfl
    rw [e]
    simp only [List.length_cons]
    omega
theorem lf4_at : ∀ (T : List Th) (j : Nat) (q : Th), T[j]? = some q → (lf4 T)[j * 4]? = some (.bool q.st) ∧ (lf4 T)[j * 4 + 1]? = some (.int .i64 q.lt) ∧ (lf4 T)[j * 4 + 2]? = some (.bool q.bo) ∧ (lf4 T)[j * 4 + 3]? = some (.int .i64 q.sh)
  | [], j, x, h => by simp at h
  | y :: r, 0, x, h => by
    have e : y = x := by simpa using h
    subst e
    exact ⟨rfl, rfl, rfl, rfl⟩
  | y :: r, j + 1, x, h => by
    have := lf4_at r j x (by simpa using h)
    have e : lf4 (y :: r) = .bool y.st :: .int .i64 y.lt :: .bool y.bo :: .int .i64 y.sh :: lf4 r := rfl
    rw [e, show (j + 1) * 4 = j * 4 + 1 + 1 + 1 + 1 by omega]
    simpa using this
theorem lf4_app (a b : List Th) : lf4 (a ++ b) = lf4 a ++ lf4 b := by unfold lf4; rw [List.flatMap_append]
theorem lf4_bo : ∀ (T : List Th) (j : Nat) (q : Th) (c : Bool), T[j]? = some q → lf4 (T.set j { q with bo := c }) = (lf4 T).set (j * 4 + 2) (.bool c)
  | [], j, x, c, h => by simp at h
  | y :: r, 0, x, c, h => by
    have e : y = x := by simpa using h
    subst e
    rfl
  | y :: r, j + 1, x, c, h => by
    have := lf4_bo r j x c (by simpa using h)
    have e : ∀ M : List Th, lf4 (y :: M) = .bool y.st :: .int .i64 y.lt :: .bool y.bo :: .int .i64 y.sh :: lf4 M := fun _ => rfl
    rw [List.set_cons_succ, e, e, this, show (j + 1) * 4 + 2 = j * 4 + 2 + 1 + 1 + 1 + 1 by omega, List.set_cons_succ, List.set_cons_succ, List.set_cons_succ, List.set_cons_succ]
/-- What is the same of a thread stays in its row. -/
theorem lf4_same : ∀ (T : List Th) (j : Nat) (q y : Th), T[j]? = some q → y.st = q.st → y.lt = q.lt → y.bo = q.bo → y.sh = q.sh → lf4 (T.set j y) = lf4 T
  | [], j, x, _, h, _, _, _, _ => by simp at h
  | z :: r, 0, x, y, h, h1, h2, h3, h4 => by
    have e : z = x := by simpa using h
    subst e
    have e : ∀ (z : Th) (M : List Th), lf4 (z :: M) = .bool z.st :: .int .i64 z.lt :: .bool z.bo :: .int .i64 z.sh :: lf4 M := fun _ _ => rfl
    rw [List.set_cons_zero, e, e, h1, h2, h3, h4]
  | z :: r, j + 1, x, y, h, h1, h2, h3, h4 => by
    have := lf4_same r j x y (by simpa using h) h1 h2 h3 h4
    have e : ∀ (z : Th) (M : List Th), lf4 (z :: M) = .bool z.st :: .int .i64 z.lt :: .bool z.bo :: .int .i64 z.sh :: lf4 M := fun _ _ => rfl
    rw [List.set_cons_succ, e, e, this]
theorem map_same {α : Type} (f : Th → α) {T : List Th} {j : Nat} {q y : Th} (h : T[j]? = some q) (hf : f y = f q) : (T.set j y).map f = T.map f := by
  rw [List.map_set, hf]
  refine List.ext_getElem? fun k => ?_
  rw [List.getElem?_set]
  split
  · rename_i e
    subst e
    rw [List.getElem?_map, h, if_pos (by simpa using (List.getElem?_eq_some_iff.1 h).1)]
    rfl
  · rfl
theorem rows_sc {T : List Th} {k : Nat} {t : Th} (h : T[k]? = some t) : rows (T.set k { t with sc := true }) = { rows T with xs := (rows T).xs.set k (.bool true) } := by
  show Xs.mk _ _ _ _ _ _ _ _ = Xs.mk _ _ _ _ _ _ _ _
  simp only [Xs.mk.injEq]
  exact ⟨List.length_set, lf4_same T k t { t with sc := true } h rfl rfl rfl rfl, List.length_set, List.map_set, List.length_set, map_same (fun t => Value.bool t.tl) (y := { t with sc := true }) h rfl, List.length_set, map_same (fun t => Value.int .i64 (t.la : Int)) (y := { t with sc := true }) h rfl⟩
theorem rows_tl {T : List Th} {k : Nat} {t : Th} (h : T[k]? = some t) : rows (T.set k { t with tl := true }) = { rows T with xt := (rows T).xt.set k (.bool true) } := by
  show Xs.mk _ _ _ _ _ _ _ _ = Xs.mk _ _ _ _ _ _ _ _
  simp only [Xs.mk.injEq]
  exact ⟨List.length_set, lf4_same T k t { t with tl := true } h rfl rfl rfl rfl, List.length_set, map_same (fun t => Value.bool t.sc) (y := { t with tl := true }) h rfl, List.length_set, List.map_set, List.length_set, map_same (fun t => Value.int .i64 (t.la : Int)) (y := { t with tl := true }) h rfl⟩
theorem rows_la {T : List Th} {k n : Nat} {t : Th} (h : T[k]? = some t) : rows (T.set k { t with la := n }) = { rows T with xa := (rows T).xa.set k (.int .i64 (n : Int)) } := by
  show Xs.mk _ _ _ _ _ _ _ _ = Xs.mk _ _ _ _ _ _ _ _
  simp only [Xs.mk.injEq]
  exact ⟨List.length_set, lf4_same T k t { t with la := n } h rfl rfl rfl rfl, List.length_set, map_same (fun t => Value.bool t.sc) (y := { t with la := n }) h rfl, List.length_set, map_same (fun t => Value.bool t.tl) (y := { t with la := n }) h rfl, List.length_set, List.map_set⟩
theorem rows_bo {T : List Th} {k : Nat} {t : Th} (h : T[k]? = some t) : rows (T.set k { t with bo := false }) = { rows T with xl := (rows T).xl.set (k * 4 + 2) (.bool false) } := by
  show Xs.mk _ _ _ _ _ _ _ _ = Xs.mk _ _ _ _ _ _ _ _
  simp only [Xs.mk.injEq]
  exact ⟨List.length_set, lf4_bo T k t false h, List.length_set, map_same (fun t => Value.bool t.sc) (y := { t with bo := false }) h rfl, List.length_set, map_same (fun t => Value.bool t.tl) (y := { t with bo := false }) h rfl, List.length_set, map_same (fun t => Value.int .i64 (t.la : Int)) (y := { t with bo := false }) h rfl⟩
theorem rows_app (T : List Th) (y : Th) : rows (T ++ [y]) = ⟨T.length + 1, lf4 T ++ [.bool y.st, .int .i64 y.lt, .bool y.bo, .int .i64 y.sh], T.length + 1, T.map (fun t => .bool t.sc) ++ [.bool y.sc], T.length + 1, T.map (fun t => .bool t.tl) ++ [.bool y.tl], T.length + 1, T.map (fun t => .int .i64 (t.la : Int)) ++ [.int .i64 (y.la : Int)]⟩ := by
  unfold rows
  rw [lf4_app]
  simp only [List.length_append, List.length_cons, List.length_nil, List.map_append, List.map_cons, List.map_nil]
  rfl
/-- Threads, grey cells and what can yet be grey, in memory. -/
def TX (w0 w1 W : World) (b : Nat) (T : List Th) (gr lf : Nat) : Prop := ∃ v, WX w0 w1 W b v (rows T) gr lf
theorem WX.re {w0 w1 W : World} {b : Nat} {v : Vs} {x : Xs} {gr lf : Int} (h : WX w0 w1 W b v x gr lf) : WX w0 W W b v x gr lf := ⟨h.bl, h.l, h.s, h.t, h.a, h.ap, h.le, h.bel, Kt.refl _⟩
theorem TX.re {w0 w1 W : World} {b : Nat} {T : List Th} {gr lf : Nat} (h : TX w0 w1 W b T gr lf) : TX w0 W W b T gr lf := by
  obtain ⟨v, h⟩ := h
  exact ⟨v, h.re⟩
theorem TX.kt {w0 w1 W : World} {b : Nat} {T : List Th} {gr lf : Nat} (h : TX w0 w1 W b T gr lf) : Kt w1 W := by
  obtain ⟨v, h⟩ := h
  exact h.kt
theorem TX.bel {w0 w1 W : World} {b : Nat} {T : List Th} {gr lf : Nat} (h : TX w0 w1 W b T gr lf) : Below w0.heap.size w0 W := by
  obtain ⟨v, h⟩ := h
  exact h.bel
theorem TX.keep {w0 w1 W W' : World} {b : Nat} {T : List Th} {gr lf : Nat} (h : TX w0 w1 W b T gr lf) (hb : Below W.heap.size W W') : TX w0 w1 W' b T gr lf := by
  obtain ⟨v, h⟩ := h
  exact ⟨v, h.keep hb⟩
/-- A row's value that is not empty. -/
theorem own_form {w : World} {base e size n : Nat} {v : Value} {xs : List Value} (h : w.ownsRow base e size v n xs) (hn : 0 < n) : ∃ g c, v = .slice (some ⟨g, 0, none⟩) n c ∧ base ≤ g ∧ g < w.heap.size := World.ownsRow.form h hn
end Go.Proofs.Ytnohcmfhhoiihaa
