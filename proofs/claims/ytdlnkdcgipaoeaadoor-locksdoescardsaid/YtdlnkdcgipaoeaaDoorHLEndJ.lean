/- A thread ends, by the answers alone: what is kept beside. -/
import Derived.Test.YtdlnkdcgipaoeaaDoorHLHanded
namespace Go.Proofs.YtdlnkdcgipaoeaaDoor
open Go.RowKit

section
variable {w0 w wr w1 : World} {b gr gj gb ob : Nat} {R : List (Sl × List Int)} {J : List Int} {B : Bk} {F : Nat → Prop} {gs : Nat → Bool} {ov : Array Value}
theorem JF.keep {w' : World} (h : JF w0 w b gr gj R J B F) (hk : ∀ g, (F g ∨ Rf gr R g ∨ g = gj ∨ g < w0.heap.size) → w'.heap[g]? = w.heap[g]?) (hb : Below 0 w w') : JF w0 w' b gr gj R J B F :=
  ⟨h.bb.kept (fun g hg => hk g (.inl hg)), h.rz.kept (fun g hg => hk g (.inr (.inl hg))), (hk gj (.inr (.inr (.inl rfl)))).trans h.jo, h.dF, h.dR, h.bj, ⟨hb.os.trans h.bel.os, hb.tape.trans h.bel.tape, hb.output.trans h.bel.output, Nat.le_trans h.bel.size hb.size, fun k hk' => (hk k (.inr (.inr (.inr hk')))).trans (h.bel.block k hk')⟩⟩
structure EJ (w0 w wr : World) (b gr gj gb ob : Nat) (R : List (Sl × List Int)) (J : List Int) (B : Bk) (F : Nat → Prop) (gs : Nat → Bool) (ov : Array Value) : Prop where
  jf : JF w0 wr b gr gj R J B F
  g : DR wr 4 gb 9 (fun k u => u = .bool (gs k))
  o : wr.heap[ob]? = some (.cells ov 58 (0, 0))
  dg : w.heap.size ≤ gb
  d2 : w.heap.size ≤ ob
  fl : ∀ g, F g → g < w.heap.size
  w0 : w0.heap.size ≤ w.heap.size
theorem EJ.gne (h : EJ w0 w wr b gr gj gb ob R J B F gs ov) {g : Nat} {cs : Array Value} {t : TypeId} (hg : wr.heap[g]? = some (.cells cs t (0, 0))) (ht : t ≠ 4) : g ≠ gb := fun e => by
  obtain ⟨c, hc, _⟩ := h.g
  exact ty_ne hg hc ht e
theorem EJ.one (h : EJ w0 w wr b gr gj gb ob R J B F gs ov) {g : Nat} {cs : Array Value} {t : TypeId} (hg : wr.heap[g]? = some (.cells cs t (0, 0))) (ht : t ≠ 58) : g ≠ ob := fun e => ty_ne hg h.o ht e
theorem EJ.rft (h : EJ w0 w wr b gr gj gb ob R J B F gs ov) {g : Nat} (hg : Rf gr R g) : ∃ cs t, wr.heap[g]? = some (.cells cs t (0, 0)) ∧ t ≠ 4 ∧ t ≠ 58 := by
  rcases hg with rfl | ⟨p, hp, hg⟩
  · exact ⟨_, _, h.jf.rz.obj, by decide, by decide⟩
  · obtain ⟨i, hi⟩ := List.getElem?_of_mem hp
    obtain ⟨cs, hc⟩ := (h.jf.rz.rr.r i p hi).bt hg
    exact ⟨cs, _, hc, by decide, by decide⟩
/-- One goes. -/
theorem EJ.gset (h : EJ w0 w wr b gr gj gb ob R J B F gs ov) (k : Nat) : EJ w0 w (wr.setCell ⟨gb, k, none⟩ (.bool true)) b gr gj gb ob R J B F (fun x => if x = k then true else gs x) ov := by
  have hs : ∀ g, g ≠ gb → (wr.setCell ⟨gb, k, none⟩ (.bool true)).heap[g]? = wr.heap[g]? := fun g hg => Below.heap_setCell _ _ _ _ hg
  refine ⟨h.jf.keep (fun g hg => hs g ?_) ((Below.refl 0 wr).setCell (p := ⟨gb, k, none⟩) (Nat.zero_le _) _), h.g.set (fun j u hj hu => ?_) (by rw [if_pos rfl]), (hs ob (fun e => ?_)).trans h.o, h.dg, h.d2, h.fl, h.w0⟩
  · have := h.dg
    have := h.w0
    rcases hg with hg | hg | rfl | hg
    · have := h.fl g hg; omega
    · obtain ⟨cs, t, h1, h2, _⟩ := h.rft hg
      exact h.gne h1 h2
    · exact h.gne h.jf.jo (by decide)
    · omega
  · rw [if_neg hj]
    exact hu
  · exact h.gne h.o (by decide) e
/-- One join is another. -/
theorem EJ.jset (h : EJ w0 w wr b gr gj gb ob R J B F gs ov) (k : Nat) (v : Int) : EJ w0 w (wr.setCell ⟨gj, k, none⟩ (.int .i64 v)) b gr gj gb ob R (J.set k v) B F gs ov := by
  have hs : ∀ g, g ≠ gj → (wr.setCell ⟨gj, k, none⟩ (.int .i64 v)).heap[g]? = wr.heap[g]? := fun g hg => Below.heap_setCell _ _ _ _ hg
  exact ⟨h.jf.jset k v, h.g.kept (hs gb (fun e => h.gne h.jf.jo (by decide) e.symm)), (hs ob (fun e => h.one h.jf.jo (by decide) e.symm)).trans h.o, h.dg, h.d2, h.fl, h.w0⟩
/-- One row is another. -/
theorem EJ.row (h : EJ w0 w wr b gr gj gb ob R J B F gs ov) {n : Nat} {p q : Sl × List Int} (hn : R[n]? = some p) (hR : RI w1 q.1 q.2) (hk : ∀ g, g < wr.heap.size → w1.heap[g]? = wr.heap[g]?) (hb : Below 0 wr w1) (hq : ∀ g, q.1.blk = some g → wr.heap.size ≤ g) : EJ w0 w (w1.setCell ⟨gr, n, none⟩ (rc q)) b gr gj gb ob (R.set n q) J B F gs ov := by
  have hs : ∀ g, g ≠ gr → (w1.setCell ⟨gr, n, none⟩ (rc q)).heap[g]? = w1.heap[g]? := fun g hg => Below.heap_setCell _ _ _ _ hg
  refine ⟨h.jf.row hn hR (fun g hg _ => hk g hg) hb (fun g hg => .inr (hq g hg)), h.g.kept ((hs gb (fun e => h.gne h.jf.rz.obj (by decide) e.symm)).trans (hk gb h.g.lt)), ((hs ob (fun e => h.one h.jf.rz.obj (by decide) e.symm)).trans (hk ob (heap_lt h.o))).trans h.o, h.dg, h.d2, h.fl, h.w0⟩
/-- A list of one's own grows. -/
theorem EJ.grow (h : EJ w0 w wr b gr gj gb ob R J B F gs ov) {s : Sl} (hs : ∀ g, s.blk = some g → w.heap.size ≤ g ∧ ¬ Rf gr R g ∧ g ≠ gj ∧ ∃ cs, wr.heap[g]? = some (.cells cs 3 (0, 0))) (hk : ∀ g, g < wr.heap.size → s.blk ≠ some g → w1.heap[g]? = wr.heap[g]?) (hb : Below 0 wr w1) : EJ w0 w w1 b gr gj gb ob R J B F gs ov := by
  have hw := h.w0
  have hsz := h.jf.bel.size
  refine ⟨h.jf.keep (fun g hg => ?_) hb, h.g.kept (hk gb h.g.lt (fun e => ?_)), (hk ob (heap_lt h.o) (fun e => ?_)).trans h.o, h.dg, h.d2, h.fl, h.w0⟩
  · rcases hg with hg | hg | rfl | hg
    · exact hk g (h.jf.bb.lt hg) (fun e => by have := (hs g e).1; have := h.fl g hg; omega)
    · exact hk g (h.jf.rz.lt hg) (fun e => (hs g e).2.1 hg)
    · exact hk _ (heap_lt h.jf.jo) (fun e => (hs _ e).2.2.1 rfl)
    · exact hk g (by omega) (fun e => by have := (hs g e).1; omega)
  · obtain ⟨cs, hc⟩ := (hs gb e).2.2.2
    exact h.gne hc (by decide) rfl
  · obtain ⟨cs, hc⟩ := (hs ob e).2.2.2
    exact h.one hc (by decide) rfl
end
/-- Rows of which the first ones are cut. -/
def cutR (t : Int) (l : List Lk) (j : Nat) : List (List Int) := (hoLs t l j).map (·.row)
theorem cutR_at {t : Int} {l : List Lk} {j : Nat} {R : List (Sl × List Int)} {y : Lk} (hR : R.map (·.2) = cutR t l j) (hy : l[j]? = some y) : ∃ p, R[j]? = some p ∧ p.2 = y.row := by
  have h : (R.map (·.2))[j]? = some y.row := by
    rw [hR, cutR, List.getElem?_map, hoLs_at, hy]
    rfl
  cases hp : R[j]? with
  | none => rw [List.getElem?_map, hp] at h; cases h
  | some p =>
    rw [List.getElem?_map, hp] at h
    exact ⟨p, rfl, Option.some.inj h⟩
theorem cutR_succ {t : Int} {l : List Lk} {j : Nat} {y : Lk} (hy : l[j]? = some y) : cutR t l (j + 1) = (cutR t l j).set j (hoL1 t y).row := by
  rw [cutR, cutR, hoLs_succ hy, List.map_set]
theorem cutR_same {t : Int} {l : List Lk} {j : Nat} {y : Lk} (hy : l[j]? = some y) (h : (hoL1 t y).row = y.row) : cutR t l (j + 1) = cutR t l j := by
  rw [cutR_succ hy, h]
  have e : (cutR t l j)[j]? = some y.row := by rw [cutR, List.getElem?_map, hoLs_at, hy]; rfl
  have h1 := (List.getElem?_eq_some_iff.1 e).1
  have h2 := (List.getElem?_eq_some_iff.1 e).2
  rw [← h2]
  exact List.set_getElem_self h1
/-- Joins of which the first ones that are t are none. -/
def zapJ (t : Int) (J : List Int) (k : Nat) : List Int := J.mapIdx (fun i v => if 1 ≤ i ∧ i < k ∧ v = t then 0 else v)
theorem zapJ_at {t : Int} {J : List Int} {k i : Nat} : (zapJ t J k)[i]? = (J[i]?).map (fun v => if 1 ≤ i ∧ i < k ∧ v = t then 0 else v) := by
  simp [zapJ]
theorem zapJ_one (t : Int) (J : List Int) : zapJ t J 1 = J := by
  refine List.ext_getElem? (fun i => ?_)
  rw [zapJ_at]
  cases J[i]? with
  | none => rfl
  | some v => simp; omega
theorem zapJ_set {t : Int} {J : List Int} {k : Nat} (hk : 1 ≤ k) (h : J[k]? = some t) : zapJ t J (k + 1) = (zapJ t J k).set k 0 := by
  refine List.ext_getElem? (fun i => ?_)
  have hlt := (List.getElem?_eq_some_iff.1 h).1
  by_cases e : k = i
  · subst e
    rw [List.getElem?_set_self (by simp [zapJ]; exact hlt), zapJ_at, h]
    simp [hk]
  · rw [List.getElem?_set_ne e, zapJ_at, zapJ_at]
    cases J[i]? with
    | none => rfl
    | some v =>
      simp only [Option.map_some, Option.some.injEq]
      have : (1 ≤ i ∧ i < k + 1 ∧ v = t) ↔ (1 ≤ i ∧ i < k ∧ v = t) := by omega
      simp only [this]
theorem zapJ_skip {t v : Int} {J : List Int} {k : Nat} (h : J[k]? = some v) (hne : v ≠ t) : zapJ t J (k + 1) = zapJ t J k := by
  refine List.ext_getElem? (fun i => ?_)
  rw [zapJ_at, zapJ_at]
  by_cases e : k = i
  · subst e
    rw [h]
    simp [hne]
  · cases J[i]? with
    | none => rfl
    | some v =>
      simp only [Option.map_some, Option.some.injEq]
      have : (1 ≤ i ∧ i < k + 1 ∧ v = t) ↔ (1 ≤ i ∧ i < k ∧ v = t) := by omega
      simp only [this]
theorem zapJ_len (t : Int) (J : List Int) (k : Nat) : (zapJ t J k).length = J.length := by simp [zapJ]
/-- Who waits for the end of t. -/
theorem JN.is {B : Bk} (h : Iv B) {k v : Int} {i : Nat} {x : Th} (hx : B.t[i]? = some x) (hj : JN B k v) : v = (i : Int) + 1 ↔ k ∈ x.row := by
  constructor
  · rintro rfl
    rcases hj with ⟨e, _⟩ | ⟨j, y, e, hy, hk⟩
    · omega
    · have : i = j := by omega
      subst this
      rw [hx] at hy
      cases hy
      exact hk
  · intro hk
    rcases hj with ⟨_, h0⟩ | ⟨j, y, e, hy, hk'⟩
    · exact absurd hk (h0 x (List.mem_of_getElem? hx))
    · have := h.nd.inj _ _ _ _ k (rows_t hx) (rows_t hy) hk hk'
      rw [e, this]
/-- What is kept beside a book of which one has ended. -/
theorem end_rel {B : Bk} {R R' : List (Sl × List Int)} {J : List Int} (h : Rel B R J) {i : Nat} {x : Th} (wd er : Int) (hx : B.t[i]? = some x) (hg : goB B ((i : Int) + 1) = 0) (hR : R'.map (·.2) = cutR ((i : Int) + 1) B.l 3) : Rel (endM B ((i : Int) + 1) wd er).2 R' (zapJ ((i : Int) + 1) J 6) := by
  have hiv := end_iv h.iv ((i : Int) + 1) wd er
  rw [end_is wd er hg hx] at hiv ⊢
  dsimp only at hiv ⊢
  have hlt := (List.getElem?_eq_some_iff.1 hx).1
  refine ⟨?_, by rw [zapJ_len]; exact h.jl, fun k v h1 h2 h3 => ?_, hiv, by dsimp only; rw [List.length_set]; exact h.tl, by dsimp only; rw [List.length_map]; exact h.ll⟩
  · rw [hR, cutR, ← h.ll, hoLs_all]
  · rw [zapJ_at] at h3
    cases hv : J[k]? with
    | none => rw [hv] at h3; cases h3
    | some u =>
      rw [hv] at h3
      simp only [Option.map_some, Option.some.injEq] at h3
      have hj := h.jn k u h1 h2 hv
      by_cases e : u = (i : Int) + 1
      · rw [if_pos ⟨h1, by omega, e⟩] at h3
        subst h3
        have hk := (hj.is h.iv hx).1 e
        refine .inl ⟨rfl, fun y hy hky => ?_⟩
        obtain ⟨m, hm⟩ := List.getElem?_of_mem hy
        dsimp only at hm
        by_cases em : i = m
        · subst em
          rw [List.getElem?_set_self hlt] at hm
          cases hm
          cases hky
        · rw [List.getElem?_set_ne em] at hm
          have := h.iv.nd.inj _ _ _ _ (k : Int) (rows_t hx) (rows_t hm) hk hky
          exact em this
      · rw [if_neg (fun hc => e hc.2.2)] at h3
        subst h3
        rcases hj with ⟨rfl, h0⟩ | ⟨m, y, rfl, hm, hk⟩
        · refine .inl ⟨rfl, fun y hy => ?_⟩
          rcases mem_set hy with hy | rfl
          · exact h0 y hy
          · simp
        · exact .inr ⟨m, y, rfl, by
            show (B.t.set i _)[m]? = some y
            rw [List.getElem?_set_ne (fun e' => e (by rw [e']))]
            exact hm, hk⟩
end Go.Proofs.YtdlnkdcgipaoeaaDoor
