/- The document's marker, in memory. -/
import Derived.Test.YtiglmffnhbegiaaDoorHRMade
namespace Go.Proofs.YtiglmffnhbegiaaDoor
open Go.RowKit

theorem step_append_known {w : World} {ops : Array Oper} {o : Oper} {a : Act} {K : Act → World → Prop} {Q : Exit → Act → World → Prop} {E : Prop} (hgd : o.guard = none) (d s : Operand) (t t' : TypeId)
    (ho : o.op = .call { callee := .builtin .append, args := #[d, s], argTypes := #[t, t'] }) (v u : Value) (hd : a.eval d = v) (hs : a.eval s = u) {v' : Value} {w' : World}
    (hr : (Builtin.append_ #[t, t'] o.type #[v, u]).run Tryd.prog w = .ok v' w') (h : K (a.put o.dst v') w') :
    if Region.wanted o (yielded ops a.tmps) = true then Oper.wp Tryd.prog o a w K Q else E := by
  have hw : Region.wanted o (yielded ops a.tmps) = true := by simp [Region.wanted, hgd]
  rw [if_pos hw]
  unfold Oper.wp
  simp [execOp, ho, resolve, invoke, builtin, hd, hs, hr, Result.andThen]
  exact h
structure DM (w : World) (db rb g : Nat) (rv : Value) (row : List Int) (h : List Cl) : Prop where
  m : w.heap[db]? = some (.cells #[.pointer (some ⟨rb, 0, none⟩), rv] 40 (0, 0))
  q : RQ w rv row
  r : RH w rb g h
structure DkS (db rb g : Nat) (rv rv' : Value) (row' : List Int) (h' : List Cl) (w w' : World) : Prop where
  m : DM w' db rb g rv' row' h'
  b : Below 0 w w'
  f : ∀ k, k < w.heap.size → k ≠ db → k ≠ g → rv.ownBlock ≠ some k → w'.heap[k]? = w.heap[k]?
  r : ∀ k, rv'.ownBlock = some k → rv.ownBlock = some k ∨ w.heap.size ≤ k
theorem DM.below {w w' : World} {db rb g : Nat} {rv : Value} {row : List Int} {h : List Cl} (H : DM w db rb g rv row h) (hB : Below w.heap.size w w') : DM w' db rb g rv row h :=
  ⟨(hB.block _ (heap_lt H.m)).trans H.m, H.q.kept (fun k hk => by obtain ⟨cs, q1⟩ := H.q.blk hk; exact hB.block k (heap_lt q1)), H.r.kept (hB.block _ H.r.lt.1) (hB.block _ H.r.lt.2)⟩
theorem DkS.of {w w' : World} {db rb g : Nat} {rv : Value} {row : List Int} {h : List Cl} (H : DM w db rb g rv row h) (hB : Below w.heap.size w w') : DkS db rb g rv rv row h w w' :=
  ⟨H.below hB, hB.mono (Nat.zero_le _), fun k hk _ _ _ => hB.block k hk, fun _ hk => .inl hk⟩
theorem DkS.trans {w w' w'' : World} {db rb g : Nat} {rv rv' rv'' : Value} {row row' : List Int} {h h' : List Cl} (a : DkS db rb g rv rv' row h w w') (b : DkS db rb g rv' rv'' row' h' w' w'') : DkS db rb g rv rv'' row' h' w w'' :=
  ⟨b.m, a.b.trans b.b, fun k hk n1 n2 n3 => (b.f k (Nat.lt_of_lt_of_le hk a.b.size) n1 n2 (fun e => by
      rcases a.r k e with h | h
      · exact n3 h
      · omega)).trans (a.f k hk n1 n2 n3), fun k hk => by
      rcases b.r k hk with h | h
      · exact a.r k h
      · exact .inr (Nat.le_trans a.b.size h)⟩
theorem DM.rh {w w' : World} {db rb g : Nat} {rv : Value} {row : List Int} {h h' : List Cl} (H : DM w db rb g rv row h) (hR : RhR rb g h' w w') : DkS db rb g rv rv row h' w w' := by
  obtain ⟨cs, r1, _⟩ := H.r.r
  refine ⟨⟨(hR.2.2 _ (ty_ne H.m r1 (by decide)) (heap_lt H.m)).trans H.m, H.q.kept (fun k hk => ?_), hR.1⟩, hR.2.1, fun k hk _ n2 _ => hR.2.2 k n2 hk, fun _ hk => .inl hk⟩
  obtain ⟨cs, q1⟩ := H.q.blk hk
  exact hR.2.2 k (ty_ne q1 r1 (by decide)) (heap_lt q1)
/-- Blocks of other types than ints stay, and the marker's row. -/
theorem DM.grown {w w' : World} {db rb g : Nat} {rv : Value} {row : List Int} {h : List Cl} (H : DM w db rb g rv row h) (_ : Below 0 w w') {X : Option Nat} (hX : ∀ k, X = some k → w.heap.size ≤ k ∨ ∃ cs, w.heap[k]? = some (.cells cs 3 (0, 0))) (hk : ∀ k, k < w.heap.size → X ≠ some k → w'.heap[k]? = w.heap[k]?) (hd : ∀ k, rv.ownBlock = some k → X ≠ some k) : DM w' db rb g rv row h := by
  have ct : ∀ (k : Nat) (cs : Array Value) (t : Nat), t ≠ 3 → w.heap[k]? = some (.cells cs t (0, 0)) → w'.heap[k]? = w.heap[k]? := fun k cs t ht hh => hk k (heap_lt hh) (fun e => by
    rcases hX k e with h1 | ⟨cs', h1⟩
    · have := heap_lt hh; omega
    · exact ty_ne hh h1 ht rfl)
  obtain ⟨cs, r1, _⟩ := H.r.r
  refine ⟨(ct _ _ _ (by decide) H.m).trans H.m, H.q.kept (fun k hk' => ?_), H.r.kept (ct _ _ _ (by decide) H.r.v) (ct _ _ _ (by decide) r1)⟩
  obtain ⟨cs, q1⟩ := H.q.blk hk'
  exact hk k (heap_lt q1) (hd k hk')
/-- The loop's standing: what came out so far, in a row of its own, and the marker. -/
structure DyI (w wr : World) (db rb g : Nat) (rv rv' v : Value) (row l : List Int) (h : List Cl) : Prop where
  o : wr.ownsRow w.heap.size 3 1 v l.length (iL l)
  s : DkS db rb g rv rv' row h w wr
  d : ∀ k, rv'.ownBlock = some k → v.ownBlock ≠ some k
theorem DyI.drew {w wr : World} {db rb g : Nat} {rv rv' v : Value} {row l : List Int} {h : List Cl} (H : DyI w wr db rb g rv rv' v row l h) : DyI w wr.drew db rb g rv rv' v row l h :=
  ⟨own_same H.o (fun _ _ => rfl), H.s.trans (.of H.s.m (Below.refl _ _).drew), H.d⟩
theorem DyI.rh {w wr w' : World} {db rb g : Nat} {rv rv' v : Value} {row l : List Int} {h h' : List Cl} (H : DyI w wr db rb g rv rv' v row l h) (hR : RhR rb g h' wr w') : DyI w w' db rb g rv rv' v row l h' := by
  obtain ⟨cs, r1, _⟩ := H.s.m.r.r
  refine ⟨own_same H.o (fun k hk => ?_), H.s.trans (H.s.m.rh hR), H.d⟩
  obtain ⟨cs, q1⟩ := own_blk H.o hk
  exact hR.2.2 k (ty_ne q1 r1 (by decide)) (heap_lt q1)
/-- What comes out grows by one. -/
theorem DyI.grown {w wr w2 : World} {db rb g : Nat} {rv rv' v v' : Value} {row l l' : List Int} {h : List Cl} {ob : Obj} (H : DyI w wr db rb g rv rv' v row l h) (hown : w2.ownsRow w.heap.size 3 1 v' l'.length (iL l')) (hgr : (wr.alloc ob).grownBy w2 v.ownBlock) (hat : ∀ k, v'.ownBlock = some k → v.ownBlock = some k ∨ wr.heap.size ≤ k) : DyI w w2 db rb g rv rv' v' row l' h := by
  have b2 : Below 0 wr w2 := ((Below.refl 0 wr).alloc (Nat.zero_le _) ob).trans (grown_low hgr (fun _ _ => Nat.zero_le _) (Nat.zero_le _))
  have kk : ∀ k, k < wr.heap.size → v.ownBlock ≠ some k → w2.heap[k]? = wr.heap[k]? := fun k hk hn => (hgr.block k (by rw [World.size_alloc]; omega) (fun e => hn e.symm)).trans (Below.heap_alloc _ _ _ hk)
  have hs := H.s.b.size
  have m2 : DM w2 db rb g rv' row h := H.s.m.grown b2 (fun k hk => .inr (own_blk H.o hk)) kk H.d
  refine ⟨hown, ⟨m2, H.s.b.trans b2, fun k hk n1 n2 n3 => (kk k (by omega) (fun e => by have := (H.o.lt k e).1; omega)).trans (H.s.f k hk n1 n2 n3), H.s.r⟩, fun k hk e => ?_⟩
  rcases hat k e with h1 | h1
  · exact H.d k hk h1
  · obtain ⟨cs, q1⟩ := H.s.m.q.blk hk
    have := heap_lt q1
    omega
/-- The marker's row grows. -/
theorem DyI.app {w wr w4 : World} {db rb g : Nat} {rv rv' v v' : Value} {row row' l : List Int} {h : List Cl} (H : DyI w wr db rb g rv rv' v row l h) (hq : RQ w4 v' row') (hk : ∀ k, k < wr.heap.size → rv'.ownBlock ≠ some k → w4.heap[k]? = wr.heap[k]?) (hb4 : Below 0 wr w4) (ho : ∀ k, v'.ownBlock = some k → rv'.ownBlock = some k ∨ wr.heap.size ≤ k) :
    DyI w (w4.setCell ⟨db, 1, none⟩ v') db rb g rv v' v row' l h ∧ w4.heap[db]? = some (.cells #[.pointer (some ⟨rb, 0, none⟩), rv'] 40 (0, 0)) := by
  have hs := H.s.b.size
  have ct : ∀ (k : Nat) (cs : Array Value) (t : Nat), t ≠ 3 → wr.heap[k]? = some (.cells cs t (0, 0)) → w4.heap[k]? = wr.heap[k]? := fun k cs t ht hh => hk k (heap_lt hh) (fun e => by
    obtain ⟨cs', h1⟩ := H.s.m.q.blk e
    exact ty_ne hh h1 ht rfl)
  have hm4 := (ct _ _ _ (by decide) H.s.m.m).trans H.s.m.m
  have sf : ∀ k, k ≠ db → (w4.setCell ⟨db, 1, none⟩ v').heap[k]? = w4.heap[k]? := fun k hk => Below.heap_setCell _ _ _ _ hk
  have st : ∀ (k : Nat) (cs : Array Value) (t : Nat), t ≠ 3 → t ≠ 40 → wr.heap[k]? = some (.cells cs t (0, 0)) → (w4.setCell ⟨db, 1, none⟩ v').heap[k]? = wr.heap[k]? := fun k cs t h1 h2 hh => (sf k (ty_ne hh H.s.m.m h2)).trans (ct k cs t h1 hh)
  obtain ⟨cs, r1, _⟩ := H.s.m.r.r
  have lm := heap_lt H.s.m.m
  refine ⟨⟨own_same H.o (fun k hk' => ?_), ⟨⟨set_atC hm4 v', hq.kept (fun k hk' => sf k (fun e => ?_)), H.s.m.r.kept (st _ _ _ (by decide) (by decide) H.s.m.r.v) (st _ _ _ (by decide) (by decide) r1)⟩, (H.s.b.trans hb4).setCell (p := ⟨db, 1, none⟩) (Nat.zero_le _) _, fun k hl n1 n2 n3 => ?_, fun k hk' => ?_⟩, fun k hk' e => ?_⟩, hm4⟩
  · obtain ⟨cs, q1⟩ := own_blk H.o hk'
    exact (sf k (ty_ne q1 H.s.m.m (by decide))).trans (hk k (heap_lt q1) (fun e => H.d k e hk'))
  · subst e
    obtain ⟨cs, q1⟩ := hq.blk hk'
    exact ty_ne q1 hm4 (by decide) rfl
  · refine (sf k n1).trans ((hk k (by omega) (fun e => ?_)).trans (H.s.f k hl n1 n2 n3))
    rcases H.s.r k e with h1 | h1
    · exact n3 h1
    · omega
  · rcases ho k hk' with h1 | h1
    · exact H.s.r k h1
    · exact .inr (by omega)
  · rcases ho k hk' with h1 | h1
    · exact H.d k h1 e
    · have := (H.o.lt k e).2
      omega
end Go.Proofs.YtiglmffnhbegiaaDoor
