/- What MarkReach's walk wants. -/
import Derived.Test.YtiglmffnhbegiaaDoorHXBlackW
import Derived.Test.YtiglmffnhbegiaaDoorHXPlain
namespace Go.Proofs.YtiglmffnhbegiaaDoor
open Go.RowKit

theorem mdH_plain {p : List Cl} (hp : Pl p) (hl : p.length = 16) : ∀ j, j ≤ 16 → mdH p j = p.take j ++ List.replicate (16 - j) c0
  | 0, _ => by simp [mdH]
  | j + 1, hj => by
    have ih := mdH_plain hp hl j (by omega)
    obtain ⟨x, hx⟩ : ∃ x, p[j]? = some x := ⟨_, List.getElem?_eq_getElem (by omega)⟩
    rw [mdH_some hx, ih, List.take_add_one, hx]
    have hr : List.replicate (16 - j) c0 = c0 :: List.replicate (16 - (j + 1)) c0 := by
      rw [← List.replicate_succ]; congr 1; omega
    have hlt : (p.take j).length = j := by rw [List.length_take]; omega
    have hg : getC (p.take j ++ List.replicate (16 - j) c0) j = some c0 := by
      unfold getC
      rw [if_pos (by omega), show ((j : Int)).toNat = j by omega, List.getElem?_append_right (by omega), hlt, hr]
      simp
    rcases hp j x hx with e | ⟨h1, h2, h3, _, _⟩
    · have hE : makeE (p.take j ++ List.replicate (16 - j) c0) j x = 30 := by
        unfold makeE
        rw [hg, e]
        rfl
      unfold makeH
      rw [hE, if_neg (by decide), hr, e]
      simp
    · have hf : makeF x = true := by unfold makeF; rw [h3]; simp [h1, h2]
      have hE : makeE (p.take j ++ List.replicate (16 - j) c0) j x = 0 := by
        unfold makeE
        rw [hg]
        dsimp only
        rw [if_pos hf]
        rfl
      unfold makeH
      rw [hE, if_pos rfl, show ((j : Int)).toNat = j by omega, hr, List.set_append_right _ _ (by omega), hlt]
      simp
theorem apt_of {p : List Cl} {S R : List Int} {n : Nat} (H : MK p S R n) : Apt (colH p R n) := fun i x hx h0 h2 => by
  rw [colH_at] at hx
  cases hy : p[i]? with
  | none => rw [hy] at hx; cases hx
  | some y =>
    rw [hy] at hx
    simp only [Option.map_some, Option.some.injEq] at hx
    subst hx
    have hin : (i : Int) ∈ R.take n := by
      have h2' : col R n i = 2 := h2
      unfold col at h2'
      split at h2'
      · assumption
      · split at h2' <;> cases h2'
    have one : ∀ w, (∀ d, Nm p w d → (d : Int) ∈ R) → Ap (colH p R n) w := fun w hw => by
      cases e : refB w
      · exact .inl e
      · obtain ⟨d, hd, hc⟩ := ref_some e
        refine .inr ⟨e, d, hc, ?_⟩
        by_cases hdl : d < (colH p R n).length
        · refine .inr ?_
          rw [colH_len] at hdl
          refine ⟨_, by rw [colH_at, List.getElem?_eq_getElem hdl]; rfl, ?_⟩
          dsimp only
          by_cases hk : (p[d]).k = 0
          · exact .inl hk
          · exact .inr ⟨hk, fun hc0 => col_zero.1 hc0 (hw d ⟨hd, d, p[d], rfl, List.getElem?_eq_getElem hdl, hk⟩)⟩
        · exact .inl (by omega)
    exact ⟨one y.a (fun d hd => H.cl i y hin hy d (.inl hd)), one y.b (fun d hd => H.cl i y hin hy d (.inr hd))⟩
/-- A row that is no part of the marker grows. -/
theorem MN.grown {w0 w w' : World} {mb hb ab : Nat} {rv v : Value} {row : List Int} {h : List Cl} {base n : Nat} {xs : List Value} (H : MN w0 w mb hb ab rv row h) (ho : w.ownsRow base 3 1 v n xs) (hbs : w0.heap.size ≤ base) (hgr : w.grownBy w' v.ownBlock) (hd : ∀ k, rv.ownBlock = some k → v.ownBlock ≠ some k) : MN w0 w' mb hb ab rv row h := by
  have b2 : Below 0 w w' := grown_low hgr (fun _ _ => Nat.zero_le _) (Nat.zero_le _)
  have kk : ∀ k, k < w.heap.size → v.ownBlock ≠ some k → w'.heap[k]? = w.heap[k]? := fun k hk hn => hgr.block k hk (fun e => hn e.symm)
  have ct : ∀ (k : Nat) (cs : Array Value) (t : Nat), t ≠ 3 → w.heap[k]? = some (.cells cs t (0, 0)) → w'.heap[k]? = w.heap[k]? := fun k cs t ht hh => kk k (heap_lt hh) (fun e => by
    obtain ⟨cs', q⟩ := own_blk ho e
    exact ty_ne hh q ht rfl)
  obtain ⟨csa, ra, _⟩ := H.m.c.r
  refine ⟨⟨(ct _ _ _ (by decide) H.m.m).trans H.m.m, H.m.q.kept (fun k hk => ?_), H.m.c.kept (ct _ _ _ (by decide) H.m.c.v) (ct _ _ _ (by decide) ra) (fun q cs hq => ct _ _ _ (by decide) hq)⟩, below_out H.b b2 (fun k hk => kk k (Nat.lt_of_lt_of_le hk H.b.size) (fun e => by have := (ho.lt k e).1; omega)), H.mb, H.hb, H.ab, H.rv⟩
  obtain ⟨cs, q⟩ := H.m.q.blk hk
  exact kk k (heap_lt q) (hd k hk)
/-- How the loop stands: so many greyed, so many scanned. -/
structure XS (w0 wr : World) (mb hb ab : Nat) (rv v : Value) (p : List Cl) (S R : List Int) (n : Nat) : Prop where
  m : MN w0 wr mb hb ab rv (R.drop n) (colH p R n)
  o : wr.ownsRow w0.heap.size 3 1 v R.length (iL R)
  d : ∀ k, rv.ownBlock = some k → v.ownBlock ≠ some k
  k : MK p S R n
theorem own_hr {w : World} {base : Nat} {ra : Option Addr} {c n : Nat} {l : List Cl} (h : w.ownsRow base 86 4 (.slice ra n c) n (clCells l)) (hl : l.length = n) (hok : ∀ x ∈ l, OkK x) : HR w ra l := by
  rcases h.2 with ⟨_, h0⟩ | ⟨g, cap, cur, hv, _⟩
  · exact ⟨0, 0, .inl (by omega), fun j x hx => by have := (List.getElem?_eq_some_iff.1 hx).1; omega⟩
  · cases hv
    obtain ⟨cs, hc⟩ := own_blk h rfl
    refine ⟨g, 0, .inr rfl, fun j x hx => ⟨heap_lt hc, ?_, hok x (List.mem_of_getElem? hx)⟩⟩
    obtain ⟨a0, a1, a2, a3⟩ := clCells_at l j x hx
    rw [Nat.zero_add]
    exact ⟨own_cell h a0, own_cell h a1, own_cell h a2, own_cell h a3⟩
theorem wr_rng2 {w : World} {ra : Option Addr} {l : List Int} (h : WR w ra l) {x : Int} (hx : x ∈ l) : Rng x := by
  obtain ⟨b, o, h1, h2⟩ := h
  obtain ⟨j, hj⟩ := List.getElem?_of_mem hx
  exact (h2 j x hj).2.2
end Go.Proofs.YtiglmffnhbegiaaDoor
