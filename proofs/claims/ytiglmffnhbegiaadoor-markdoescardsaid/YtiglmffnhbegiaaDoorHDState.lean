/- The program's marker, the document's, and the book, beside each other. -/
import Derived.Test.YtiglmffnhbegiaaDoorHABookPut
import Derived.Test.YtiglmffnhbegiaaDoorHABookOwn
namespace Go.Proofs.YtiglmffnhbegiaaDoor
open Go.RowKit

abbrev nl : Value := .slice none 0 0
abbrev Vn : Nat → Value := fun _ => .slice none 0 0
theorem bo_ty {w : World} {b Ni : Nat} {vi : Value} {Vi : Nat → Value} (k : Bo w b vi nl Ni 0 Vi Vn) {x : Nat} (hx : BoF b vi nl Ni 0 Vi Vn x) : ∃ (cs : Array Value) (t : Nat), w.heap[x]? = some (.cells cs t (0, 0)) ∧ (t = 60 ∨ t = 26 ∨ t = 3) := by
  obtain ⟨n, X, s⟩ := k.si
  rcases hx with rfl | (h | ⟨j, hj, h⟩) | (h | ⟨j, hj, _⟩)
  · exact ⟨_, _, k.bi.heap, .inl rfl⟩
  · obtain ⟨cs, q⟩ := own_blk s.row h
    exact ⟨cs, _, q, .inr (.inl rfl)⟩
  · obtain ⟨cs, q⟩ := own_blk (s.own j hj) h
    exact ⟨cs, _, q, .inr (.inr rfl)⟩
  · cases h
  · omega
theorem bo_not {w : World} {b Ni : Nat} {vi : Value} {Vi : Nat → Value} (k : Bo w b vi nl Ni 0 Vi Vn) {x t : Nat} {cs : Array Value} (hx : w.heap[x]? = some (.cells cs t (0, 0))) (h1 : t ≠ 60) (h2 : t ≠ 26) (h3 : t ≠ 3) : ¬ BoF b vi nl Ni 0 Vi Vn x := fun hf => by
  obtain ⟨cs', t', q1, q2⟩ := bo_ty k hf
  rw [q1] at hx
  cases hx
  rcases q2 with q | q | q
  · exact h1 q
  · exact h2 q
  · exact h3 q
/-- Two rows that do not stand alike: the program's, then the document's. -/
structure GT (w0 w : World) (mb hb ab db rb g b : Nat) (rv rd : Value) (row row' : List Int) (h h' : List Cl) (vi : Value) (Ni : Nat) (Vi : Nat → Value) : Prop where
  m : MM w mb hb ab rv row h
  d : DM w db rb g rd row' h'
  k : Bo w b vi nl Ni 0 Vi Vn
  bl : Below w0.heap.size w0 w
  f : w0.heap.size ≤ mb ∧ w0.heap.size ≤ hb ∧ w0.heap.size ≤ ab ∧ w0.heap.size ≤ db ∧ w0.heap.size ≤ rb ∧ w0.heap.size ≤ g
  fr : ∀ x, (rv.ownBlock = some x ∨ rd.ownBlock = some x ∨ BoF b vi nl Ni 0 Vi Vn x) → w0.heap.size ≤ x
  dis : ∀ x, rv.ownBlock = some x → rd.ownBlock ≠ some x ∧ ¬ BoF b vi nl Ni 0 Vi Vn x
  dis2 : ∀ x, rd.ownBlock = some x → ¬ BoF b vi nl Ni 0 Vi Vn x
section
variable {w0 w w' : World} {mb hb ab db rb g b Ni : Nat} {rv rv' rd rd' vi vi' : Value} {row row' row2 : List Int} {h h' h2 : List Cl} {Vi : Nat → Value}
/-- Blocks that are neither touched by the program's marker nor new. -/
theorem GT.mks (H : GT w0 w mb hb ab db rb g b rv rd row row' h h' vi Ni Vi) (s : MkS mb hb ab rv rv' row2 h2 w w') : GT w0 w' mb hb ab db rb g b rv' rd row2 row' h2 h' vi Ni Vi := by
  obtain ⟨f1, f2, f3, f4, f5, f6⟩ := H.f
  obtain ⟨csa, ra, _⟩ := H.m.c.r
  obtain ⟨csg, rg, _⟩ := H.d.r.r
  have st : ∀ (x : Nat) (cs : Array Value) (t : Nat), t ≠ 3 → t ≠ 88 → t ≠ 138 → w.heap[x]? = some (.cells cs t (0, 0)) → w'.heap[x]? = w.heap[x]? := fun x cs t t1 t2 t3 hx => s.f x (heap_lt hx) (ty_ne hx H.m.m t2) (ty_ne hx ra t3) (fun e => by
    obtain ⟨cs', q⟩ := H.m.q.blk e
    exact ty_ne hx q t1 rfl)
  have kb : ∀ x, BoF b vi nl Ni 0 Vi Vn x → w'.heap[x]? = w.heap[x]? := fun x hx => s.f x (H.k.lt x hx) (fun e => bo_not H.k (e ▸ H.m.m) (by decide) (by decide) (by decide) hx) (fun e => bo_not H.k (e ▸ ra) (by decide) (by decide) (by decide) hx) (fun e => (H.dis x e).2 hx)
  refine ⟨s.m, ⟨(st _ _ _ (by decide) (by decide) (by decide) H.d.m).trans H.d.m, H.d.q.kept (fun x hx => ?_), H.d.r.kept (st _ _ _ (by decide) (by decide) (by decide) H.d.r.v) (st _ _ _ (by decide) (by decide) (by decide) rg)⟩, H.k.kept kb, below_out H.bl s.b (fun x hx => s.f x (Nat.lt_of_lt_of_le hx H.bl.size) (by omega) (by omega) (fun e => by have := H.fr x (.inl e); omega)), H.f, fun x hx => ?_, fun x hx => ?_, H.dis2⟩
  · obtain ⟨cs, q⟩ := H.d.q.blk hx
    exact s.f x (heap_lt q) (ty_ne q H.m.m (by decide)) (ty_ne q ra (by decide)) (fun e => (H.dis x e).1 hx)
  · rcases hx with hx | hx
    · rcases s.r x hx with e | e
      · exact H.fr x (.inl e)
      · exact Nat.le_trans H.bl.size e
    · exact H.fr x (.inr hx)
  · rcases s.r x hx with e | e
    · exact H.dis x e
    · refine ⟨fun e2 => ?_, fun e2 => ?_⟩
      · obtain ⟨cs, q⟩ := H.d.q.blk e2
        have := heap_lt q
        omega
      · have := H.k.lt x e2
        omega
theorem GT.dk (H : GT w0 w mb hb ab db rb g b rv rd row row' h h' vi Ni Vi) (s : DkS db rb g rd rd' row2 h2 w w') : GT w0 w' mb hb ab db rb g b rv rd' row row2 h h2 vi Ni Vi := by
  obtain ⟨f1, f2, f3, f4, f5, f6⟩ := H.f
  obtain ⟨csa, ra, _⟩ := H.m.c.r
  obtain ⟨csg, rg, _⟩ := H.d.r.r
  have st : ∀ (x : Nat) (cs : Array Value) (t : Nat), t ≠ 3 → t ≠ 40 → t ≠ 86 → w.heap[x]? = some (.cells cs t (0, 0)) → w'.heap[x]? = w.heap[x]? := fun x cs t t1 t2 t3 hx => s.f x (heap_lt hx) (ty_ne hx H.d.m t2) (ty_ne hx rg t3) (fun e => by
    obtain ⟨cs', q⟩ := H.d.q.blk e
    exact ty_ne hx q t1 rfl)
  have kb : ∀ x, BoF b vi nl Ni 0 Vi Vn x → w'.heap[x]? = w.heap[x]? := fun x hx => s.f x (H.k.lt x hx) (fun e => bo_not H.k (e ▸ H.d.m) (by decide) (by decide) (by decide) hx) (fun e => bo_not H.k (e ▸ rg) (by decide) (by decide) (by decide) hx) (fun e => H.dis2 x e hx)
  refine ⟨⟨(st _ _ _ (by decide) (by decide) (by decide) H.m.m).trans H.m.m, H.m.q.kept (fun x hx => ?_), H.m.c.kept (st _ _ _ (by decide) (by decide) (by decide) H.m.c.v) (st _ _ _ (by decide) (by decide) (by decide) ra) (fun q cs hq => st _ _ _ (by decide) (by decide) (by decide) hq)⟩, s.m, H.k.kept kb, below_out H.bl s.b (fun x hx => s.f x (Nat.lt_of_lt_of_le hx H.bl.size) (by omega) (by omega) (fun e => by have := H.fr x (.inr (.inl e)); omega)), H.f, fun x hx => ?_, fun x hx => ⟨fun e => ?_, (H.dis x hx).2⟩, fun x hx => ?_⟩
  · obtain ⟨cs, q⟩ := H.m.q.blk hx
    exact s.f x (heap_lt q) (ty_ne q H.d.m (by decide)) (ty_ne q rg (by decide)) (fun e => (H.dis x hx).1 e)
  · rcases hx with hx | hx | hx
    · exact H.fr x (.inl hx)
    · rcases s.r x hx with e | e
      · exact H.fr x (.inr (.inl e))
      · exact Nat.le_trans H.bl.size e
    · exact H.fr x (.inr (.inr hx))
  · rcases s.r x e with e2 | e2
    · exact (H.dis x hx).1 e2
    · obtain ⟨cs, q⟩ := H.m.q.blk hx
      have := heap_lt q
      omega
  · rcases s.r x hx with e | e
    · exact H.dis2 x e
    · intro e2
      have := H.k.lt x e2
      omega
/-- Nothing of it is touched. -/
theorem GT.fr' (H : GT w0 w mb hb ab db rb g b rv rd row row' h h' vi Ni Vi) (hb' : Below 0 w w') (hk : ∀ x cs t, w.heap[x]? = some (.cells cs t (0, 0)) → (t = 3 → rv.ownBlock = some x ∨ rd.ownBlock = some x ∨ BoF b vi nl Ni 0 Vi Vn x) → t ≠ 29 → w'.heap[x]? = w.heap[x]?) (hk0 : ∀ x, x < w0.heap.size → w'.heap[x]? = w.heap[x]?) : GT w0 w' mb hb ab db rb g b rv rd row row' h h' vi Ni Vi := by
  have st : ∀ (x : Nat) (cs : Array Value) (t : Nat), t ≠ 3 → t ≠ 29 → w.heap[x]? = some (.cells cs t (0, 0)) → w'.heap[x]? = w.heap[x]? := fun x cs t t1 t2 hx => hk x cs t hx (fun e => absurd e t1) t2
  obtain ⟨csa, ra, _⟩ := H.m.c.r
  obtain ⟨csg, rg, _⟩ := H.d.r.r
  refine ⟨⟨(st _ _ _ (by decide) (by decide) H.m.m).trans H.m.m, H.m.q.kept (fun x hx => ?_), H.m.c.kept (st _ _ _ (by decide) (by decide) H.m.c.v) (st _ _ _ (by decide) (by decide) ra) (fun q cs hq => st _ _ _ (by decide) (by decide) hq)⟩, ⟨(st _ _ _ (by decide) (by decide) H.d.m).trans H.d.m, H.d.q.kept (fun x hx => ?_), H.d.r.kept (st _ _ _ (by decide) (by decide) H.d.r.v) (st _ _ _ (by decide) (by decide) rg)⟩, H.k.kept (fun x hx => ?_), below_out H.bl hb' hk0, H.f, H.fr, H.dis, H.dis2⟩
  · obtain ⟨cs, q⟩ := H.m.q.blk hx
    exact hk x cs _ q (fun _ => .inl hx) (by decide)
  · obtain ⟨cs, q⟩ := H.d.q.blk hx
    exact hk x cs _ q (fun _ => .inr (.inl hx)) (by decide)
  · obtain ⟨cs, t, q, ht⟩ := bo_ty H.k hx
    exact hk x cs t q (fun _ => .inr (.inr hx)) (by rcases ht with e | e | e <;> (rw [e]; decide))
theorem GT.below (H : GT w0 w mb hb ab db rb g b rv rd row row' h h' vi Ni Vi) (hB : Below w.heap.size w w') : GT w0 w' mb hb ab db rb g b rv rd row row' h h' vi Ni Vi :=
  H.fr' (hB.mono (Nat.zero_le _)) (fun x _ _ hx _ _ => hB.block x (heap_lt hx)) (fun x hx => hB.block x (Nat.lt_of_lt_of_le hx H.bl.size))
end
end Go.Proofs.YtiglmffnhbegiaaDoor
