/- A book in which one thing is turned. -/
import Derived.Test.YtdlnkdcgipaoeaaDoorHLBook
namespace Go.Proofs.YtdlnkdcgipaoeaaDoor
open Go.RowKit

section
variable {w w1 w' : World} {b : Nat} {pt pl pg : Sl} {T : List (Sl × Th)} {L : List (Sl × Lk)} {G : List Int}
theorem ft_set {b : Nat} {pt pl pg : Sl} {T T' : List (Sl × Th)} {L L' : List (Sl × Lk)} {i : Nat} {p q : Sl × List Int} {n : Nat} (hR : rws T' L' = (rws T L).set i q) (hi : (rws T L)[i]? = some p) (hb : q.1.blk = p.1.blk ∨ ∃ k, q.1.blk = some k ∧ n ≤ k) : ∀ g, Ft b pt pl pg T' L' g → Ft b pt pl pg T L g ∨ n ≤ g := fun g hg => by
  rcases hg with hg | ⟨r, hr, hg⟩
  · exact .inl (.inl hg)
  · rw [hR] at hr
    rcases List.mem_or_eq_of_mem_set hr with hr | rfl
    · exact .inl (.inr ⟨r, hr, hg⟩)
    · rcases hb with hb | ⟨k, hb, hk⟩
      · exact .inl (.inr ⟨p, List.mem_of_getElem? hi, by rw [← hb]; exact hg⟩)
      · rw [hb] at hg
        have := Option.some.inj hg
        exact .inr (by omega)
/-- One thread is another. -/
theorem BX.upT (h : BX w b pt pl pg T L G) {i gt : Nat} {x x' : Sl × Th} (hi : T[i]? = some x) (hR : RI w1 x'.1 x'.2.row) (hk : ∀ g, g < w.heap.size → x.1.blk ≠ some g → w1.heap[g]? = w.heap[g]?) (hb : Below 0 w w1) (hq : x'.1.blk = x.1.blk ∨ ∃ k, x'.1.blk = some k ∧ w.heap.size ≤ k) (hg : pt.blk = some gt) (hk' : ∀ g, g ≠ gt → w'.heap[g]? = w1.heap[g]?) (hb' : Below 0 w1 w')
    (ho : w1.ownsRow 0 124 4 (.slice pt.ra T.length pt.cap) T.length (T.flatMap tc) → w'.ownsRow 0 124 4 (.slice pt.ra T.length pt.cap) T.length ((T.set i x').flatMap tc)) :
    BX w' b pt pl pg (T.set i x') L G ∧ Chg (Ft b pt pl pg T L) (Ft b pt pl pg (T.set i x') L) w w' := by
  have hlt := (List.getElem?_eq_some_iff.1 hi).1
  have hri := rws_t L hi
  obtain ⟨ct, htb⟩ := h.tb hg
  have rne : ∀ g, (∃ p ∈ rws T L, p.1.blk = some g) → g ≠ gt := fun g hr => by
    obtain ⟨c2, h2⟩ := h.rb hr
    exact ty_ne h2 htb (by decide)
  have xne : ∀ g cs t, w.heap[g]? = some (.cells cs t (0, 0)) → t ≠ 3 → x.1.blk ≠ some g := fun g cs t hgt hn e => by
    obtain ⟨c2, h2⟩ := (h.r.r i _ hri).bt e
    rw [hgt] at h2
    cases h2
    exact hn rfl
  have tot : ∀ g, g < w.heap.size → x.1.blk ≠ some g → g ≠ gt → w'.heap[g]? = w.heap[g]? := fun g h1 h2 h3 => (hk' g h3).trans (hk g h1 h2)
  have e1 : (T.set i x').length = T.length := List.length_set
  have hob : gt ≠ b := fun e => by
    subst e
    have := h.obj
    rw [htb] at this
    cases this
  have RIb : ∀ g, x'.1.blk = some g → g ≠ gt := fun g hg' => by
    rcases hq with hq | ⟨k, hq, hk2⟩
    · exact rne g ⟨_, List.mem_of_getElem? hri, by rw [← hg', hq]⟩
    · rw [hq] at hg'
      have := heap_lt htb
      have := Option.some.inj hg'
      omega
  refine ⟨⟨?_, ?_, ?_, ?_, ?_, by rw [e1]; exact h.tn, h.ln, h.gn⟩, ?_⟩
  · rw [e1]
    exact (tot b (heap_lt h.obj) (xne b _ _ h.obj (by decide)) (fun e => hob e.symm)).trans h.obj
  · rw [e1]
    refine ho (own_same h.t (fun g hg' => ?_))
    rw [ob_eq, hg] at hg'
    cases hg'
    exact hk gt (heap_lt htb) (xne gt _ _ htb (by decide))
  · refine own_same h.l (fun g hg' => ?_)
    obtain ⟨c2, h2⟩ := own_blk h.l hg'
    exact tot g (heap_lt h2) (xne g _ _ h2 (by decide)) (ty_ne h2 htb (by decide))
  · refine own_same h.g (fun g hg' => ?_)
    obtain ⟨c2, h2⟩ := own_blk h.g hg'
    exact tot g (heap_lt h2) (xne g _ _ h2 (by decide)) (ty_ne h2 htb (by decide))
  · rw [rws_setT L hlt]
    exact h.r.set (q := (x'.1, x'.2.row)) hri (hR.kept (fun g hg' => hk' g (RIb g hg'))) (fun g h1 h2 h3 => tot g h1 h2 (rne g h3)) hq
  · refine ⟨fun g h1 h2 => tot g h1 (fun e => h2 (.inr ⟨_, List.mem_of_getElem? hri, e⟩)) (fun e => h2 (.inl (.inr (.inl (by rw [e]; exact hg))))), hb.trans hb', ?_⟩
    exact ft_set (rws_setT L hlt x') hri hq
/-- One lock is another. -/
theorem BX.upL (h : BX w b pt pl pg T L G) {i gt : Nat} {x x' : Sl × Lk} (hi : L[i]? = some x) (hR : RI w1 x'.1 x'.2.row) (hk : ∀ g, g < w.heap.size → x.1.blk ≠ some g → w1.heap[g]? = w.heap[g]?) (hb : Below 0 w w1) (hq : x'.1.blk = x.1.blk ∨ ∃ k, x'.1.blk = some k ∧ w.heap.size ≤ k) (hg : pl.blk = some gt) (hk' : ∀ g, g ≠ gt → w'.heap[g]? = w1.heap[g]?) (hb' : Below 0 w1 w')
    (ho : w1.ownsRow 0 130 2 (.slice pl.ra L.length pl.cap) L.length (L.flatMap lc) → w'.ownsRow 0 130 2 (.slice pl.ra L.length pl.cap) L.length ((L.set i x').flatMap lc)) :
    BX w' b pt pl pg T (L.set i x') G ∧ Chg (Ft b pt pl pg T L) (Ft b pt pl pg T (L.set i x')) w w' := by
  have hri := rws_l T hi
  obtain ⟨ct, htb⟩ := h.lb hg
  have rne : ∀ g, (∃ p ∈ rws T L, p.1.blk = some g) → g ≠ gt := fun g hr => by
    obtain ⟨c2, h2⟩ := h.rb hr
    exact ty_ne h2 htb (by decide)
  have xne : ∀ g cs t, w.heap[g]? = some (.cells cs t (0, 0)) → t ≠ 3 → x.1.blk ≠ some g := fun g cs t hgt hn e => by
    obtain ⟨c2, h2⟩ := (h.r.r _ _ hri).bt e
    rw [hgt] at h2
    cases h2
    exact hn rfl
  have tot : ∀ g, g < w.heap.size → x.1.blk ≠ some g → g ≠ gt → w'.heap[g]? = w.heap[g]? := fun g h1 h2 h3 => (hk' g h3).trans (hk g h1 h2)
  have e1 : (L.set i x').length = L.length := List.length_set
  have hob : gt ≠ b := fun e => by
    subst e
    have := h.obj
    rw [htb] at this
    cases this
  have RIb : ∀ g, x'.1.blk = some g → g ≠ gt := fun g hg' => by
    rcases hq with hq | ⟨k, hq, hk2⟩
    · exact rne g ⟨_, List.mem_of_getElem? hri, by rw [← hg', hq]⟩
    · rw [hq] at hg'
      have := heap_lt htb
      have := Option.some.inj hg'
      omega
  refine ⟨⟨?_, ?_, ?_, ?_, ?_, h.tn, by rw [e1]; exact h.ln, h.gn⟩, ?_⟩
  · rw [e1]
    exact (tot b (heap_lt h.obj) (xne b _ _ h.obj (by decide)) (fun e => hob e.symm)).trans h.obj
  · refine own_same h.t (fun g hg' => ?_)
    obtain ⟨c2, h2⟩ := own_blk h.t hg'
    exact tot g (heap_lt h2) (xne g _ _ h2 (by decide)) (ty_ne h2 htb (by decide))
  · rw [e1]
    refine ho (own_same h.l (fun g hg' => ?_))
    rw [ob_eq, hg] at hg'
    cases hg'
    exact hk gt (heap_lt htb) (xne gt _ _ htb (by decide))
  · refine own_same h.g (fun g hg' => ?_)
    obtain ⟨c2, h2⟩ := own_blk h.g hg'
    exact tot g (heap_lt h2) (xne g _ _ h2 (by decide)) (ty_ne h2 htb (by decide))
  · rw [rws_setL T]
    exact h.r.set (q := (x'.1, x'.2.row)) hri (hR.kept (fun g hg' => hk' g (RIb g hg'))) (fun g h1 h2 h3 => tot g h1 h2 (rne g h3)) hq
  · refine ⟨fun g h1 h2 => tot g h1 (fun e => h2 (.inr ⟨_, List.mem_of_getElem? hri, e⟩)) (fun e => h2 (.inl (.inr (.inr (.inl (by rw [e]; exact hg)))))), hb.trans hb', ?_⟩
    exact ft_set (rws_setL T x') hri hq
/-- Where a thread lies. -/
theorem BX.tf (h : BX w b pt pl pg T L G) {i : Nat} {x : Sl × Th} (hi : T[i]? = some x) : ∃ gt, pt.ra = some ⟨gt, 0, none⟩ ∧ pt.blk = some gt ∧ gt < w.heap.size ∧ ∃ cs, w.heap[gt]? = some (.cells cs 124 (0, 0)) ∧ cs[i * 4]? = some (.slice x.1.ra x.2.row.length x.1.cap) ∧ cs[i * 4 + 1]? = some (.bool x.2.en) ∧ cs[i * 4 + 2]? = some (.int .u64 x.2.wd) ∧ cs[i * 4 + 3]? = some (.int .i64 x.2.er) := by
  have hlt := (List.getElem?_eq_some_iff.1 hi).1
  obtain ⟨g, c, hv, -, -⟩ := World.ownsRow.form h.t (by omega)
  have e : pt.ra = some ⟨g, 0, none⟩ := (Value.slice.inj hv).1
  have ht := h.t
  rw [e] at ht
  obtain ⟨cs, h1, _, _, _, _, _, h2⟩ := own_out ht
  refine ⟨g, e, by rw [Sl.blk, e]; rfl, heap_lt h1, cs, h1, h2 _ _ ?_, h2 _ _ ?_, h2 _ _ ?_, h2 _ _ ?_⟩
  · exact fm_at tc_len T i 0 x hi (by omega)
  · exact fm_at tc_len T i 1 x hi (by omega)
  · exact fm_at tc_len T i 2 x hi (by omega)
  · exact fm_at tc_len T i 3 x hi (by omega)
theorem BX.lf (h : BX w b pt pl pg T L G) {i : Nat} {x : Sl × Lk} (hi : L[i]? = some x) : ∃ gt, pl.ra = some ⟨gt, 0, none⟩ ∧ pl.blk = some gt ∧ gt < w.heap.size ∧ ∃ cs, w.heap[gt]? = some (.cells cs 130 (0, 0)) ∧ cs[i * 2]? = some (.slice x.1.ra x.2.row.length x.1.cap) ∧ cs[i * 2 + 1]? = some (.int .i64 x.2.ho) := by
  have hlt := (List.getElem?_eq_some_iff.1 hi).1
  obtain ⟨g, c, hv, -, -⟩ := World.ownsRow.form h.l (by omega)
  have e : pl.ra = some ⟨g, 0, none⟩ := (Value.slice.inj hv).1
  have ht := h.l
  rw [e] at ht
  obtain ⟨cs, h1, _, _, _, _, _, h2⟩ := own_out ht
  refine ⟨g, e, by rw [Sl.blk, e]; rfl, heap_lt h1, cs, h1, h2 _ _ ?_, h2 _ _ ?_⟩
  · exact fm_at lc_len L i 0 x hi (by omega)
  · exact fm_at lc_len L i 1 x hi (by omega)
/-- A thread's row is another. -/
theorem BX.rowT (h : BX w b pt pl pg T L G) {i gt : Nat} {x : Sl × Th} {s : Sl} {r : List Int} (hi : T[i]? = some x) (hR : RI w1 s r) (hk : ∀ g, g < w.heap.size → x.1.blk ≠ some g → w1.heap[g]? = w.heap[g]?) (hb : Below 0 w w1) (hq : s.blk = x.1.blk ∨ ∃ k, s.blk = some k ∧ w.heap.size ≤ k) (hg : pt.ra = some ⟨gt, 0, none⟩) :
    BX (w1.setCell ⟨gt, i * 4, none⟩ (.slice s.ra r.length s.cap)) b pt pl pg (T.set i (s, { x.2 with row := r })) L G ∧ Chg (Ft b pt pl pg T L) (Ft b pt pl pg (T.set i (s, { x.2 with row := r })) L) w (w1.setCell ⟨gt, i * 4, none⟩ (.slice s.ra r.length s.cap)) :=
  h.upT (x' := (s, { x.2 with row := r })) hi hR hk hb hq (gt := gt) (by rw [Sl.blk, hg]; rfl) (fun g hne => Below.heap_setCell _ _ _ _ hne) ((Below.refl 0 w1).setCell (p := ⟨gt, i * 4, none⟩) (Nat.zero_le _) _) (fun ho => by
    rw [hg] at ho ⊢
    rw [fm_set tc_len T i 0 x (s, { x.2 with row := r }) (.slice s.ra r.length s.cap) hi (by omega) rfl]
    exact own_set ho _)
/-- A lock's row is another. -/
theorem BX.rowL (h : BX w b pt pl pg T L G) {i gt : Nat} {x : Sl × Lk} {s : Sl} {r : List Int} (hi : L[i]? = some x) (hR : RI w1 s r) (hk : ∀ g, g < w.heap.size → x.1.blk ≠ some g → w1.heap[g]? = w.heap[g]?) (hb : Below 0 w w1) (hq : s.blk = x.1.blk ∨ ∃ k, s.blk = some k ∧ w.heap.size ≤ k) (hg : pl.ra = some ⟨gt, 0, none⟩) :
    BX (w1.setCell ⟨gt, i * 2, none⟩ (.slice s.ra r.length s.cap)) b pt pl pg T (L.set i (s, { x.2 with row := r })) G ∧ Chg (Ft b pt pl pg T L) (Ft b pt pl pg T (L.set i (s, { x.2 with row := r }))) w (w1.setCell ⟨gt, i * 2, none⟩ (.slice s.ra r.length s.cap)) :=
  h.upL (x' := (s, { x.2 with row := r })) hi hR hk hb hq (gt := gt) (by rw [Sl.blk, hg]; rfl) (fun g hne => Below.heap_setCell _ _ _ _ hne) ((Below.refl 0 w1).setCell (p := ⟨gt, i * 2, none⟩) (Nat.zero_le _) _) (fun ho => by
    rw [hg] at ho ⊢
    rw [fm_set lc_len L i 0 x (s, { x.2 with row := r }) (.slice s.ra r.length s.cap) hi (by omega) rfl]
    exact own_set ho _)
/-- A lock's holder is another. -/
theorem BX.hoL (h : BX w b pt pl pg T L G) {i gt : Nat} {x : Sl × Lk} (y : Int) (hi : L[i]? = some x) (hg : pl.ra = some ⟨gt, 0, none⟩) :
    BX (w.setCell ⟨gt, i * 2 + 1, none⟩ (.int .i64 y)) b pt pl pg T (L.set i (x.1, { x.2 with ho := y })) G ∧ Chg (Ft b pt pl pg T L) (Ft b pt pl pg T (L.set i (x.1, { x.2 with ho := y }))) w (w.setCell ⟨gt, i * 2 + 1, none⟩ (.int .i64 y)) :=
  h.upL (w1 := w) (x' := (x.1, { x.2 with ho := y })) hi (h.r.r _ _ (rws_l T hi)) (fun _ _ _ => rfl) (Below.refl _ _) (.inl rfl) (gt := gt) (by rw [Sl.blk, hg]; rfl) (fun g hne => Below.heap_setCell _ _ _ _ hne) ((Below.refl 0 w).setCell (p := ⟨gt, i * 2 + 1, none⟩) (Nat.zero_le _) _) (fun ho => by
    rw [hg] at ho ⊢
    rw [fm_set lc_len L i 1 x (x.1, { x.2 with ho := y }) (.int .i64 y) hi (by omega) rfl]
    exact own_set ho _)
/-- A thread has ended. -/
theorem BX.enT (h : BX w b pt pl pg T L G) {i gt : Nat} {x : Sl × Th} (wd er : Int) (hi : T[i]? = some x) (hg : pt.ra = some ⟨gt, 0, none⟩) :
    BX (((w.setCell ⟨gt, i * 4 + 1, none⟩ (.bool true)).setCell ⟨gt, i * 4 + 2, none⟩ (.int .u64 wd)).setCell ⟨gt, i * 4 + 3, none⟩ (.int .i64 er)) b pt pl pg (T.set i (x.1, ⟨x.2.row, true, wd, er⟩)) L G ∧ Chg (Ft b pt pl pg T L) (Ft b pt pl pg (T.set i (x.1, ⟨x.2.row, true, wd, er⟩)) L) w (((w.setCell ⟨gt, i * 4 + 1, none⟩ (.bool true)).setCell ⟨gt, i * 4 + 2, none⟩ (.int .u64 wd)).setCell ⟨gt, i * 4 + 3, none⟩ (.int .i64 er)) := by
  have hlt := (List.getElem?_eq_some_iff.1 hi).1
  refine h.upT (w1 := w) (x' := (x.1, ⟨x.2.row, true, wd, er⟩)) hi (h.r.r _ _ (rws_t L hi)) (fun _ _ _ => rfl) (Below.refl _ _) (.inl rfl) (gt := gt) (by rw [Sl.blk, hg]; rfl) (fun g hne => by rw [Below.heap_setCell _ _ _ _ hne, Below.heap_setCell _ _ _ _ hne, Below.heap_setCell _ _ _ _ hne]) ((((Below.refl 0 w).setCell (p := ⟨gt, i * 4 + 1, none⟩) (Nat.zero_le _) _).setCell (p := ⟨gt, i * 4 + 2, none⟩) (Nat.zero_le _) _).setCell (p := ⟨gt, i * 4 + 3, none⟩) (Nat.zero_le _) _) (fun ho => ?_)
  rw [hg] at ho ⊢
  have e1 := fm_set tc_len T i 1 x (x.1, { x.2 with en := true }) (.bool true) hi (by omega) rfl
  have g1 : (T.set i (x.1, { x.2 with en := true }))[i]? = some (x.1, { x.2 with en := true }) := List.getElem?_set_self hlt
  have e2 := fm_set tc_len _ i 2 _ (x.1, (⟨x.2.row, true, wd, x.2.er⟩ : Th)) (.int .u64 wd) g1 (by omega) rfl
  rw [List.set_set] at e2
  have g2 : (T.set i (x.1, (⟨x.2.row, true, wd, x.2.er⟩ : Th)))[i]? = some (x.1, ⟨x.2.row, true, wd, x.2.er⟩) := List.getElem?_set_self hlt
  have e3 := fm_set tc_len _ i 3 _ (x.1, (⟨x.2.row, true, wd, er⟩ : Th)) (.int .i64 er) g2 (by omega) rfl
  rw [List.set_set] at e3
  rw [e3, e2, e1]
  exact own_set (own_set (own_set ho _) _) _
/-- A global is another word. -/
theorem BX.glG (h : BX w b pt pl pg T L G) {i gg : Nat} (y : Int) (hg : pg.ra = some ⟨gg, 0, none⟩) :
    BX (w.setCell ⟨gg, i, none⟩ (.int .u64 y)) b pt pl pg T L (G.set i y) ∧ Chg (Ft b pt pl pg T L) (Ft b pt pl pg T L) w (w.setCell ⟨gg, i, none⟩ (.int .u64 y)) := by
  have hbk : pg.blk = some gg := by rw [Sl.blk, hg]; rfl
  obtain ⟨ct, htb⟩ := h.gb hbk
  have hk : ∀ g, g ≠ gg → (w.setCell ⟨gg, i, none⟩ (.int .u64 y)).heap[g]? = w.heap[g]? := fun g hne => Below.heap_setCell _ _ _ _ hne
  refine ⟨⟨?_, ?_, ?_, ?_, ?_, h.tn, h.ln, by rw [List.length_set]; exact h.gn⟩, fun g h1 h2 => hk g (fun e => h2 (.inl (.inr (.inr (.inr (by rw [e]; exact hbk)))))), (Below.refl 0 w).setCell (p := ⟨gg, i, none⟩) (Nat.zero_le _) _, fun g hg => .inl hg⟩
  · rw [List.length_set]
    refine (hk b (fun e => ?_)).trans h.obj
    have := h.obj
    rw [e, htb] at this
    cases this
  · refine own_same h.t (fun g hg' => hk g ?_)
    obtain ⟨c2, h2⟩ := own_blk h.t hg'
    exact ty_ne h2 htb (by decide)
  · refine own_same h.l (fun g hg' => hk g ?_)
    obtain ⟨c2, h2⟩ := own_blk h.l hg'
    exact ty_ne h2 htb (by decide)
  · have := h.g
    rw [hg] at this ⊢
    rw [List.length_set, List.map_set]
    exact own_set this _
  · refine h.r.kept (fun g hr => hk g ?_)
    obtain ⟨c2, h2⟩ := h.rb hr
    exact ty_ne h2 htb (by decide)
end
end Go.Proofs.YtdlnkdcgipaoeaaDoor
