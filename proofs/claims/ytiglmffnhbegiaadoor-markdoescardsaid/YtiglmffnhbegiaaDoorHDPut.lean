/- What the book takes. -/
import Derived.Test.YtiglmffnhbegiaaDoorHDState
namespace Go.Proofs.YtiglmffnhbegiaaDoor
open Go.RowKit
section
variable {w0 w w' : World} {mb hb ab db rb g b Ni : Nat} {rv rv' rd rd' vi v' l : Value} {row row' row2 : List Int} {h h' h2 : List Cl} {Vi Vi' : Nat → Value}
theorem GT.put (H : GT w0 w mb hb ab db rb g b rv rd row row' h h' vi Ni Vi) (hbo : Bo w' b v' nl (Ni + 1) 0 Vi' Vn) (hF : ∀ x, BoF b v' nl (Ni + 1) 0 Vi' Vn x → BoF b vi nl Ni 0 Vi Vn x ∨ l.ownBlock = some x ∨ w.heap.size ≤ x)
    (hb' : Below 0 w w') (hk : ∀ x, x < w.heap.size → ¬ BoF b vi nl Ni 0 Vi Vn x → w'.heap[x]? = w.heap[x]?) (hl : ∀ x, l.ownBlock = some x → w0.heap.size ≤ x ∧ rv.ownBlock ≠ some x ∧ rd.ownBlock ≠ some x) : GT w0 w' mb hb ab db rb g b rv rd row row' h h' v' (Ni + 1) Vi' := by
  have st : ∀ (x : Nat) (cs : Array Value) (t : Nat), t ≠ 60 → t ≠ 26 → t ≠ 3 → w.heap[x]? = some (.cells cs t (0, 0)) → w'.heap[x]? = w.heap[x]? := fun x cs t t1 t2 t3 hx => hk x (heap_lt hx) (bo_not H.k hx t1 t2 t3)
  obtain ⟨csa, ra, _⟩ := H.m.c.r
  obtain ⟨csg, rg, _⟩ := H.d.r.r
  have lv : ∀ x, rv.ownBlock = some x → x < w.heap.size := fun x hx => by
    obtain ⟨cs, q⟩ := H.m.q.blk hx
    exact heap_lt q
  have ld : ∀ x, rd.ownBlock = some x → x < w.heap.size := fun x hx => by
    obtain ⟨cs, q⟩ := H.d.q.blk hx
    exact heap_lt q
  have no : ∀ x, (rv.ownBlock = some x ∨ rd.ownBlock = some x) → ¬ BoF b v' nl (Ni + 1) 0 Vi' Vn x := fun x hx hf => by
    rcases hF x hf with e | e | e
    · rcases hx with hx | hx
      · exact (H.dis x hx).2 e
      · exact H.dis2 x hx e
    · rcases hx with hx | hx
      · exact (hl x e).2.1 hx
      · exact (hl x e).2.2 hx
    · rcases hx with hx | hx
      · have := lv x hx; omega
      · have := ld x hx; omega
  refine ⟨⟨(st _ _ _ (by decide) (by decide) (by decide) H.m.m).trans H.m.m, H.m.q.kept (fun x hx => hk x (lv x hx) (H.dis x hx).2), H.m.c.kept (st _ _ _ (by decide) (by decide) (by decide) H.m.c.v) (st _ _ _ (by decide) (by decide) (by decide) ra) (fun q cs hq => st _ _ _ (by decide) (by decide) (by decide) hq)⟩,
    ⟨(st _ _ _ (by decide) (by decide) (by decide) H.d.m).trans H.d.m, H.d.q.kept (fun x hx => hk x (ld x hx) (H.dis2 x hx)), H.d.r.kept (st _ _ _ (by decide) (by decide) (by decide) H.d.r.v) (st _ _ _ (by decide) (by decide) (by decide) rg)⟩,
    hbo, below_out H.bl hb' (fun x hx => hk x (Nat.lt_of_lt_of_le hx H.bl.size) (fun hf => by have := H.fr x (.inr (.inr hf)); omega)), H.f, fun x hx => ?_, fun x hx => ⟨(H.dis x hx).1, no x (.inl hx)⟩, fun x hx => no x (.inr hx)⟩
  rcases hx with hx | hx | hx
  · exact H.fr x (.inl hx)
  · exact H.fr x (.inr (.inl hx))
  · rcases hF x hx with e | e | e
    · exact H.fr x (.inr (.inr e))
    · exact (hl x e).1
    · exact Nat.le_trans H.bl.size e
/-- What taking a row leaves: all as it was, but the book, and no row of ints turns. -/
def PutR (w0 : World) (mb hb ab db rb g b : Nat) (rv rd : Value) (row row' : List Int) (h h' : List Cl) (vi : Value) (Ni : Nat) (Vi : Nat → Value) (l : Value) (w : World) (e : Ending) (w' : World) : Prop := (∃ r, e = .returned r) ∧ (∃ v' Vi', GT w0 w' mb hb ab db rb g b rv rd row row' h h' v' (Ni + 1) Vi' ∧ ∀ x, BoF b v' nl (Ni + 1) 0 Vi' Vn x → BoF b vi nl Ni 0 Vi Vn x ∨ l.ownBlock = some x ∨ w.heap.size ≤ x) ∧ Below 0 w w' ∧ ∀ (x t : Nat) (cs : Array Value), t ≠ 60 → t ≠ 26 → w.heap[x]? = some (.cells cs t (0, 0)) → w'.heap[x]? = w.heap[x]?
theorem put_any (H : GT w0 w mb hb ab db rb g b rv rd row row' h h' vi Ni Vi) (hN : Ni ≤ 900000) (ra : Option Addr) (c : Nat) (l : List Int) (base : Nat) (hl : w.ownsRow base 3 1 (.slice ra l.length c) l.length (iL l)) (hn : l.length ≤ 1000000) (hbase : ∀ x, (Value.slice ra l.length c).ownBlock = some x → w0.heap.size ≤ x ∧ rv.ownBlock ≠ some x ∧ rd.ownBlock ≠ some x ∧ ¬ BoF b vi nl Ni 0 Vi Vn x) :
    Calls Tryd.prog 27 #[.pointer (some ⟨b, 0, none⟩), .slice ra l.length c] w fun e w' => PutR w0 mb hb ab db rb g b rv rd row row' h h' vi Ni Vi (.slice ra l.length c) w e w' := by
  refine (bookInts_any b vi nl Ni 0 Vi Vn ra l.length c (iL l) w H.k (by omega) (own_mono hl (Nat.zero_le _)) hn (fun x hx => (hbase x hx).2.2.2)).mono ?_
  rintro e w' ⟨he, v', hbo, hb', hk, hint⟩
  obtain ⟨q1, q2⟩ := hbo _ rfl
  refine ⟨he, ⟨v', _, H.put q1 q2 hb' hk (fun x hx => ⟨(hbase x hx).1, (hbase x hx).2.1, (hbase x hx).2.2.1⟩), q2⟩, hb', fun x t cs t1 t2 hx => ?_⟩
  by_cases e : t = 3
  · subst e
    exact hint x cs (.inl hx)
  · exact hk x (heap_lt hx) (bo_not H.k hx t1 t2 e)
end
end Go.Proofs.YtiglmffnhbegiaaDoor
