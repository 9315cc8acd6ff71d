/- SweepDoes: two sweepers, the document's two, a heap and a row of cells. -/
import Derived.Test.YtjbfpklbgefacaaHWChg
namespace Go.Proofs.Ytjbfpklbgefacaa
open Go.RowKit

def upd (A : Nat → Nat) (k v : Nat) : Nat → Nat := fun j => if j = k then v else A j
theorem upd_at (A : Nat → Nat) (k v : Nat) : upd A k v k = v := if_pos rfl
theorem upd_ne {A : Nat → Nat} {k v j : Nat} (h : j ≠ k) : upd A k v j = A j := if_neg h
structure DT (w0 w : World) (hb ab sl rl g : Nat) (s r : Nat → Nat) (h H : List Cl) (A F B G : Nat → Nat) : Prop where
  c : CH w hb ab h
  fs : w.heap[sl]? = some (.cells #[.pointer (some ⟨s 0, 0, none⟩), .pointer (some ⟨s 1, 0, none⟩)] 28 (0, 0))
  fr : w.heap[rl]? = some (.cells #[.pointer (some ⟨r 0, 0, none⟩), .pointer (some ⟨r 1, 0, none⟩)] 31 (0, 0))
  ss : ∀ k, k < 2 → SW w (s k) hb (A k) (F k)
  rs : ∀ k, k < 2 → RW w (r k) (B k) (G k)
  ns : ∀ i j, i < 2 → j < 2 → i ≠ j → s i ≠ s j
  nr : ∀ i j, i < 2 → j < 2 → i ≠ j → r i ≠ r j
  k : KR w g H H.length
  b : Below w0.heap.size w0 w
  la : w0.heap.size ≤ ab
  lg : w0.heap.size ≤ g
  ls : ∀ k, k < 2 → w0.heap.size ≤ s k
  lr : ∀ k, k < 2 → w0.heap.size ≤ r k
variable {w0 w w' : World} {hb ab sl rl g : Nat} {s r : Nat → Nat} {h h' H H' : List Cl} {A F B G : Nat → Nat}
/-- What stays while only some blocks turn. -/
theorem DT.keep (T : DT w0 w hb ab sl rl g s r h H A F B G) {X : Nat → Prop} (hF : Fr X w w') (hx : ∀ q, q < w0.heap.size → X q) : Below w0.heap.size w0 w' :=
  below_out T.b hF.1 (fun q hq => hF.2 q (hx q hq) (Nat.lt_of_lt_of_le hq T.b.size))
theorem DT.gblk (T : DT w0 w hb ab sl rl g s r h H A F B G) : ∃ cs, w.heap[g]? = some (.cells cs 39 (0, 0)) := by
  obtain ⟨cs, q, _⟩ := T.k
  exact ⟨cs, q⟩
theorem DT.ablk (T : DT w0 w hb ab sl rl g s r h H A F B G) : ∃ cs, w.heap[ab]? = some (.cells cs 80 (0, 0)) := by
  obtain ⟨cs, q, _⟩ := T.c.r
  exact ⟨cs, q⟩
theorem DT.sStep (T : DT w0 w hb ab sl rl g s r h H A F B G) {k a f : Nat} (hk : k < 2) (hS : SS w' (s k) hb ab h' a f) (hF : Fr (fun q => q ≠ s k ∧ q ≠ ab) w w') : DT w0 w' hb ab sl rl g s r h' H (upd A k a) (upd F k f) B G := by
  obtain ⟨cg, qg⟩ := T.gblk
  obtain ⟨ca, qa⟩ := T.ablk
  have sk := T.ss k hk
  refine ⟨hS.c, (hF.2 _ ⟨ty_ne T.fs sk (by decide), ty_ne T.fs qa (by decide)⟩ (heap_lt T.fs)).trans T.fs, (hF.2 _ ⟨ty_ne T.fr sk (by decide), ty_ne T.fr qa (by decide)⟩ (heap_lt T.fr)).trans T.fr, fun j hj => ?_, fun j hj => ?_, T.ns, T.nr, T.k.kept (hF.2 _ ⟨ty_ne qg sk (by decide), ty_ne qg qa (by decide)⟩ (heap_lt qg)), ?_, T.la, T.lg, T.ls, T.lr⟩
  · by_cases e : j = k
    · subst e; rw [upd_at, upd_at]; exact hS.s
    · rw [upd_ne e, upd_ne e]
      exact (T.ss j hj).kept (hF.2 _ ⟨T.ns j k hj hk e, ty_ne (T.ss j hj) qa (by decide)⟩ (T.ss j hj).lt)
  · exact (T.rs j hj).kept (hF.2 _ ⟨ty_ne (T.rs j hj) sk (by decide), ty_ne (T.rs j hj) qa (by decide)⟩ (T.rs j hj).lt)
  · exact T.keep hF (fun q hq => ⟨by have := T.ls k hk; omega, by have := T.la; omega⟩)
theorem DT.sBegin (T : DT w0 w hb ab sl rl g s r h H A F B G) {k : Nat} (hk : k < 2) (hS : SW w' (s k) hb 0 0) (hF : Fr (fun q => q ≠ s k) w w') : DT w0 w' hb ab sl rl g s r h H (upd A k 0) (upd F k 0) B G :=
  T.sStep hk ⟨T.c.sw (T.ss k hk) hF, hS⟩ (hF.sub (fun _ h => h.1))
theorem DT.rStep (T : DT w0 w hb ab sl rl g s r h H A F B G) {k a f : Nat} (hk : k < 2) (hR : RW w' (r k) a f) (hK : KR w' g H' H'.length) (hF : Fr (fun q => q ≠ r k ∧ q ≠ g) w w') : DT w0 w' hb ab sl rl g s r h H' A F (upd B k a) (upd G k f) := by
  obtain ⟨cg, qg⟩ := T.gblk
  obtain ⟨ca, qa⟩ := T.ablk
  have rk := T.rs k hk
  refine ⟨T.c.kept (hF.2 _ ⟨ty_ne T.c.v rk (by decide), ty_ne T.c.v qg (by decide)⟩ T.c.lt.1) (hF.2 _ ⟨ty_ne qa rk (by decide), ty_ne qa qg (by decide)⟩ T.c.lt.2) (fun q cs hq => hF.2 q ⟨ty_ne hq rk (by decide), ty_ne hq qg (by decide)⟩ (heap_lt hq)), (hF.2 _ ⟨ty_ne T.fs rk (by decide), ty_ne T.fs qg (by decide)⟩ (heap_lt T.fs)).trans T.fs, (hF.2 _ ⟨ty_ne T.fr rk (by decide), ty_ne T.fr qg (by decide)⟩ (heap_lt T.fr)).trans T.fr, fun j hj => ?_, fun j hj => ?_, T.ns, T.nr, hK, ?_, T.la, T.lg, T.ls, T.lr⟩
  · exact (T.ss j hj).kept (hF.2 _ ⟨ty_ne (T.ss j hj) rk (by decide), ty_ne (T.ss j hj) qg (by decide)⟩ (T.ss j hj).lt)
  · by_cases e : j = k
    · subst e; rw [upd_at, upd_at]; exact hR
    · rw [upd_ne e, upd_ne e]
      exact (T.rs j hj).kept (hF.2 _ ⟨T.nr j k hj hk e, ty_ne (T.rs j hj) qg (by decide)⟩ (T.rs j hj).lt)
  · exact T.keep hF (fun q hq => ⟨by have := T.lr k hk; omega, by have := T.lg; omega⟩)
theorem DT.rBegin (T : DT w0 w hb ab sl rl g s r h H A F B G) {k : Nat} (hk : k < 2) (hR : RW w' (r k) 0 0) (hF : Fr (fun q => q ≠ r k) w w') : DT w0 w' hb ab sl rl g s r h H A F (upd B k 0) (upd G k 0) := by
  obtain ⟨cg, qg⟩ := T.gblk
  exact T.rStep hk hR (T.k.kept (hF.2 _ (ty_ne qg (T.rs k hk) (by decide)) (heap_lt qg))) (hF.sub (fun _ h => h.1))
theorem DT.below (T : DT w0 w hb ab sl rl g s r h H A F B G) (hB : Below w.heap.size w w') : DT w0 w' hb ab sl rl g s r h H A F B G := by
  obtain ⟨cg, qg⟩ := T.gblk
  exact ⟨T.c.below hB, (hB.block _ (heap_lt T.fs)).trans T.fs, (hB.block _ (heap_lt T.fr)).trans T.fr, fun j hj => (T.ss j hj).kept (hB.block _ (T.ss j hj).lt), fun j hj => (T.rs j hj).kept (hB.block _ (T.rs j hj).lt), T.ns, T.nr, T.k.kept (hB.block _ (heap_lt qg)), T.b.trans (hB.mono T.b.size), T.la, T.lg, T.ls, T.lr⟩
theorem DT.ex (T : DT w0 w hb ab sl rl g s r h H A F B G) (hE : ExR hb ab h' w w') : DT w0 w' hb ab sl rl g s r h' H A F B G := by
  obtain ⟨cg, qg⟩ := T.gblk
  obtain ⟨ca, qa⟩ := T.ablk
  have hk : ∀ q, q ≠ ab → q < w.heap.size → w'.heap[q]? = w.heap[q]? := fun q hq hl => hE.2.1.2 q hq hl
  exact ⟨hE.1, (hk _ (ty_ne T.fs qa (by decide)) (heap_lt T.fs)).trans T.fs, (hk _ (ty_ne T.fr qa (by decide)) (heap_lt T.fr)).trans T.fr, fun j hj => (T.ss j hj).kept (hk _ (ty_ne (T.ss j hj) qa (by decide)) (T.ss j hj).lt), fun j hj => (T.rs j hj).kept (hk _ (ty_ne (T.rs j hj) qa (by decide)) (T.rs j hj).lt), T.ns, T.nr, T.k.kept (hk _ (ty_ne qg qa (by decide)) (heap_lt qg)), T.keep hE.2.1 (fun q hq => by have := T.la; omega), T.la, T.lg, T.ls, T.lr⟩
theorem DT.row (T : DT w0 w hb ab sl rl g s r h H A F B G) {g' : Nat} (hB : Below w.heap.size w w') (hK : KR w' g' H' H'.length) (hg : w.heap.size ≤ g') : DT w0 w' hb ab sl rl g' s r h H' A F B G := by
  have T' := T.below hB
  exact ⟨T'.c, T'.fs, T'.fr, T'.ss, T'.rs, T'.ns, T'.nr, hK, T'.b, T'.la, Nat.le_trans T.b.size hg, T'.ls, T'.lr⟩
theorem DT.cells (T : DT w0 w hb ab sl rl g s r h H A F B G) {k : Nat} (hk : k < 2) : w.cell? ⟨sl, k, none⟩ = some (.pointer (some ⟨s k, 0, none⟩)) ∧ w.cell? ⟨rl, k, none⟩ = some (.pointer (some ⟨r k, 0, none⟩)) ∧ w.cell? ⟨r k, 0, none⟩ = some (.int .i64 (B k)) ∧ w.cell? ⟨r k, 1, none⟩ = some (.int .i64 (G k)) := by
  refine ⟨?_, ?_, (T.rs k hk).cell.1, (T.rs k hk).cell.2.1⟩
  · match k, hk with
    | 0, _ => exact heap_cell T.fs rfl
    | 1, _ => exact heap_cell T.fs rfl
  · match k, hk with
    | 0, _ => exact heap_cell T.fr rfl
    | 1, _ => exact heap_cell T.fr rfl
theorem swB_zero {h : List Cl} {a : Nat} (hb : swB h a = true) : swE h a = 0 := by
  unfold swB at hb
  unfold swE
  split at hb
  · cases hb
  · simp at hb
    rw [if_neg hb.1, if_neg (by omega)]
theorem swE_lt {h : List Cl} {a : Nat} (he : swE h a = 0) : a < h.length := by
  unfold swE at he
  split at he
  · cases he
  · rename_i x hx
    exact (List.getElem?_eq_some_iff.1 hx).1
theorem sw_bounds {h : List Cl} {a f n : Nat} (hn : h.length = n) (ha : a ≤ n) (hf : f ≤ a) : swA h a ≤ n ∧ f + (swB h a).toNat ≤ swA h a := by
  by_cases E : swE h a = 0
  · have e1 : swA h a = a + 1 := by unfold swA; rw [if_pos E]
    have e2 := swE_lt E
    rw [e1]
    cases swB h a <;> simp <;> omega
  · have e1 : swA h a = a := by unfold swA; rw [if_neg E]
    have e2 : swB h a = false := by
      cases hb : swB h a
      · rfl
      · exact absurd (swB_zero hb) E
    rw [e1, e2]
    simp
    omega
end Go.Proofs.Ytjbfpklbgefacaa
