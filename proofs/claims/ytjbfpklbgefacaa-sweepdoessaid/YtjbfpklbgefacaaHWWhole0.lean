/- SweepWhole: mathematics, and what stands beside a sweeper. -/
import Derived.Test.YtjbfpklbgefacaaHWRow
namespace Go.Proofs.Ytjbfpklbgefacaa
open Go.RowKit

def swX (x : Cl) : Cl := if x.c = 0 then c0 else ⟨x.k, 0, x.a, x.b⟩
def Good (x : Cl) : Prop := x = c0 ∨ (x.k ≠ 0 ∧ (x.c = 0 ∨ x.c = 2))
def whB (x : Cl) : Bool := !decide (x.k = 0) && decide (x.c = 0)
def frM (H : List Cl) : Nat → Nat
  | 0 => 0
  | j + 1 => frM H j + (match H[j]? with | some x => (whB x).toNat | none => 0)
theorem frM_some {H : List Cl} {j : Nat} {x : Cl} (hx : H[j]? = some x) : frM H (j + 1) = frM H j + (whB x).toNat := by
  show frM H j + (match H[j]? with | some x => (whB x).toNat | none => 0) = _
  rw [hx]
theorem frM_le (H : List Cl) : ∀ j, frM H j ≤ j
  | 0 => Nat.le_refl _
  | j + 1 => by
    have := frM_le H j
    show frM H j + (match H[j]? with | some x => (whB x).toNat | none => 0) ≤ _
    split
    · rename_i x _
      cases whB x <;> simp <;> omega
    · omega
theorem swX_good {x : Cl} (h : Good x) : Good (swX x) := by
  unfold swX
  split
  · exact .inl rfl
  · rename_i h0
    rcases h with rfl | ⟨h1, _⟩
    · exact absurd rfl h0
    · exact .inr ⟨h1, .inl rfl⟩
theorem plX_good {x : Cl} (h : OkK x) (hc : x.c ≠ 1) : Good (plX x) := by
  unfold plX
  split
  · rename_i hm
    unfold makeF at hm
    simp at hm
    have := h.c
    exact .inr ⟨by omega, by omega⟩
  · exact .inl rfl
theorem gb_not {t : Int} {x : Cl} (ht : t ≠ 1) : (gb t x).c ≠ 1 := by
  unfold gb
  split
  · exact ht
  · assumption
theorem sweep_at {H : List Cl} {j : Nat} {x : Cl} (hx : H[j]? = some x) (hg : Good x) : swE (pm swX H j) j = 0 ∧ swN (pm swX H j) j = j ∧ swA (pm swX H j) j = j + 1 ∧ swB (pm swX H j) j = whB x ∧ swH (pm swX H j) j = pm swX H (j + 1) := by
  have hx' : (pm swX H j)[j]? = some x := (pm_at (Nat.le_refl _)).trans hx
  have e1 : swE (pm swX H j) j = 0 := by
    unfold swE
    rw [hx']
    dsimp only
    rcases hg with rfl | ⟨h1, h2⟩
    · rfl
    · rw [if_neg h1, if_neg (by omega)]
  refine ⟨e1, by unfold swN; rw [e1]; rfl, by unfold swA; rw [e1]; rfl, by unfold swB; rw [hx']; rfl, ?_⟩
  unfold swH
  rw [hx']
  dsimp only
  rcases hg with rfl | ⟨h1, h2 | h2⟩
  · rw [if_pos (show c0.k = 0 from rfl), pm_same hx rfl]
  · rw [if_neg h1, if_pos h2, ← pm_set hx]
    unfold swX
    rw [if_pos h2]
  · rw [if_neg h1, if_neg (by omega), if_pos h2, ← pm_set hx]
    unfold swX
    rw [if_neg (by omega)]
theorem CN.from {w0 w1 w : World} {hb ab : Nat} {h : List Cl} (H : CN w1 w hb ab h) (hB : Below w0.heap.size w0 w1) : CN w0 w hb ab h :=
  ⟨H.c, hB.trans (H.b.mono hB.size), Nat.le_trans hB.size H.hb, Nat.le_trans hB.size H.ab⟩
/-- A sweeper, its heap, and a row of cells. -/
structure WT (w0 w : World) (sb hb ab g : Nat) (H h : List Cl) (a f : Nat) : Prop where
  n : SN w0 w sb hb ab h a f
  k : KR w g H H.length
  g : w0.heap.size ≤ g
theorem KR.kept {w w' : World} {g j : Nat} {H : List Cl} (h : KR w g H j) (hk : w'.heap[g]? = w.heap[g]?) : KR w' g H j := DR.kept h hk
theorem WT.ne {w0 w : World} {sb hb ab g : Nat} {H h : List Cl} {a f : Nat} (T : WT w0 w sb hb ab g H h a f) : g ≠ sb ∧ g ≠ ab ∧ g < w.heap.size := by
  obtain ⟨cs, q, _⟩ := T.k
  obtain ⟨cs', r1, _⟩ := T.n.s.c.r
  exact ⟨ty_ne q T.n.s.s (by decide), ty_ne q r1 (by decide), heap_lt q⟩
theorem WT.step {w0 w w' : World} {sb hb ab g : Nat} {H h h' : List Cl} {a f a' f' : Nat} (T : WT w0 w sb hb ab g H h a f) (hS : SS w' sb hb ab h' a' f') (hF : Fr (fun g => g ≠ sb ∧ g ≠ ab) w w') : WT w0 w' sb hb ab g H h' a' f' :=
  ⟨T.n.step hS hF, T.k.kept (hF.2 _ ⟨T.ne.1, T.ne.2.1⟩ T.ne.2.2), T.g⟩
theorem WT.below {w0 w w' : World} {sb hb ab g : Nat} {H h : List Cl} {a f : Nat} (T : WT w0 w sb hb ab g H h a f) (hB : Below w.heap.size w w') : WT w0 w' sb hb ab g H h a f :=
  ⟨T.n.below hB, T.k.kept (hB.block _ T.ne.2.2), T.g⟩
theorem WT.begin {w0 w w' : World} {sb hb ab g : Nat} {H h : List Cl} {a f : Nat} (T : WT w0 w sb hb ab g H h a f) (hS : SW w' sb hb 0 0) (hF : Fr (fun g => g ≠ sb) w w') : WT w0 w' sb hb ab g H h 0 0 :=
  ⟨T.n.begin hS hF, T.k.kept (hF.2 _ T.ne.1 T.ne.2.2), T.g⟩
theorem WT.row {w0 w w' : World} {sb hb ab g g' : Nat} {H H' h : List Cl} {a f : Nat} (T : WT w0 w sb hb ab g H h a f) (hB : Below w.heap.size w w') (hk : KR w' g' H' H'.length) (hg : w.heap.size ≤ g') : WT w0 w' sb hb ab g' H' h a f :=
  ⟨T.n.below hB, hk, Nat.le_trans T.n.b.size hg⟩
end Go.Proofs.Ytjbfpklbgefacaa
