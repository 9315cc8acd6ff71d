/- How a book lies in memory; what is turned in it. -/
import Derived.Test.YtdlnkdcgipaoeaaDoorHLRow
namespace Go.Proofs.YtdlnkdcgipaoeaaDoor
open Go.RowKit

theorem fm_len {α : Type} {f : α → List Value} {n : Nat} (hf : ∀ x, (f x).length = n) : ∀ T : List α, (T.flatMap f).length = T.length * n
  | [] => by simp
  | x :: r => by rw [List.flatMap_cons, List.length_append, fm_len hf r, hf, List.length_cons, Nat.succ_mul]; omega
theorem fm_at {α : Type} {f : α → List Value} {n : Nat} (hf : ∀ x, (f x).length = n) : ∀ (T : List α) (i j : Nat) (x : α), T[i]? = some x → j < n → (T.flatMap f)[i * n + j]? = (f x)[j]?
  | [], i, j, x, h, _ => by simp at h
  | y :: r, 0, j, x, h, hj => by
    simp at h
    subst h
    rw [List.flatMap_cons, Nat.zero_mul, Nat.zero_add, List.getElem?_append_left (by rw [hf]; exact hj)]
  | y :: r, i + 1, j, x, h, hj => by
    rw [List.flatMap_cons, List.getElem?_append_right (by rw [hf, Nat.succ_mul]; omega), hf, Nat.succ_mul]
    rw [show i * n + n + j - n = i * n + j by omega]
    exact fm_at hf r i j x (by simpa using h) hj
theorem fm_set {α : Type} {f : α → List Value} {n : Nat} (hf : ∀ x, (f x).length = n) : ∀ (T : List α) (i j : Nat) (x x' : α) (u : Value), T[i]? = some x → j < n → f x' = (f x).set j u → (T.set i x').flatMap f = (T.flatMap f).set (i * n + j) u
  | [], i, j, x, x', u, h, _, _ => by simp at h
  | y :: r, 0, j, x, x', u, h, hj, he => by
    simp at h
    subst h
    rw [List.set_cons_zero, List.flatMap_cons, List.flatMap_cons, he, Nat.zero_mul, Nat.zero_add, List.set_append_left _ _ (by rw [hf]; exact hj)]
  | y :: r, i + 1, j, x, x', u, h, hj, he => by
    rw [List.set_cons_succ, List.flatMap_cons, List.flatMap_cons, fm_set hf r i j x x' u (by simpa using h) hj he, Nat.succ_mul, List.set_append_right _ _ (by rw [hf]; omega), hf]
    rw [show i * n + n + j - n = i * n + j by omega]
theorem own_set {w : World} {base e size n cap g k : Nat} {xs : List Value} (h : w.ownsRow base e size (.slice (some ⟨g, 0, none⟩) n cap) n xs) (u : Value) : (w.setCell ⟨g, k, none⟩ u).ownsRow base e size (.slice (some ⟨g, 0, none⟩) n cap) n (xs.set k u) := by
  obtain ⟨cs, h1, h2, h3, h4, h5, h6, h7⟩ := own_out h
  refine own_of (set_atC h1 u) (by simp [h2]) h3 h4 h5 (by simp [h6]) (fun i v hi => ?_)
  by_cases e : k = i
  · subst e
    have hlt : k < xs.length := by
      have := (List.getElem?_eq_some_iff.1 hi).1
      simpa using this
    rw [List.getElem?_set_self hlt] at hi
    have hc := (Array.getElem?_eq_some_iff.1 (h7 k xs[k] (List.getElem?_eq_getElem hlt))).1
    simp [hc, Option.some.inj hi]
  · rw [List.getElem?_set_ne e] at hi
    rw [Array.getElem?_setIfInBounds_ne e]
    exact h7 i v hi
def tc (x : Sl × Th) : List Value := [.slice x.1.ra x.2.row.length x.1.cap, .bool x.2.en, .int .u64 x.2.wd, .int .i64 x.2.er]
def lc (x : Sl × Lk) : List Value := [.slice x.1.ra x.2.row.length x.1.cap, .int .i64 x.2.ho]
theorem tc_len (x : Sl × Th) : (tc x).length = 4 := rfl
theorem lc_len (x : Sl × Lk) : (lc x).length = 2 := rfl
/-- All rows: where they lie, who stands there. -/
def rws (T : List (Sl × Th)) (L : List (Sl × Lk)) : List (Sl × List Int) := T.map (fun x => (x.1, x.2.row)) ++ L.map (fun x => (x.1, x.2.row))
theorem rws_t {T : List (Sl × Th)} {i : Nat} {x : Sl × Th} (L : List (Sl × Lk)) (h : T[i]? = some x) : (rws T L)[i]? = some (x.1, x.2.row) := by
  have hlt := (List.getElem?_eq_some_iff.1 h).1
  rw [rws, List.getElem?_append_left (by simpa using hlt), List.getElem?_map, h]
  rfl
theorem rws_l {L : List (Sl × Lk)} {i : Nat} {x : Sl × Lk} (T : List (Sl × Th)) (h : L[i]? = some x) : (rws T L)[T.length + i]? = some (x.1, x.2.row) := by
  rw [rws, List.getElem?_append_right (by simp), List.getElem?_map]
  simp [h]
theorem rws_setT {T : List (Sl × Th)} {i : Nat} (L : List (Sl × Lk)) (hi : i < T.length) (x : Sl × Th) : rws (T.set i x) L = (rws T L).set i (x.1, x.2.row) := by
  rw [rws, rws, List.set_append_left _ _ (by simpa using hi), List.map_set]
theorem rws_setL {L : List (Sl × Lk)} {i : Nat} (T : List (Sl × Th)) (x : Sl × Lk) : rws T (L.set i x) = (rws T L).set (T.length + i) (x.1, x.2.row) := by
  rw [rws, rws, List.set_append_right _ _ (by simp), List.map_set]
  simp
/-- Rows lie as they should, no two in one block. -/
structure RR (w : World) (R : List (Sl × List Int)) : Prop where
  r : ∀ (i : Nat) (p : Sl × List Int), R[i]? = some p → RI w p.1 p.2
  inj : ∀ (i j : Nat) (p q : Sl × List Int) (g : Nat), R[i]? = some p → R[j]? = some q → p.1.blk = some g → q.1.blk = some g → i = j
theorem RR.kept {w w' : World} {R : List (Sl × List Int)} (h : RR w R) (hk : ∀ g, (∃ p ∈ R, p.1.blk = some g) → w'.heap[g]? = w.heap[g]?) : RR w' R :=
  ⟨fun i p hp => (h.r i p hp).kept (fun g hg => hk g ⟨p, List.mem_of_getElem? hp, hg⟩), h.inj⟩
theorem RR.lt {w : World} {R : List (Sl × List Int)} (h : RR w R) {g : Nat} (hg : ∃ p ∈ R, p.1.blk = some g) : g < w.heap.size := by
  obtain ⟨p, hp, hg⟩ := hg
  obtain ⟨i, hi⟩ := List.getElem?_of_mem hp
  exact (h.r i p hi).lt hg
/-- One row is another: in its own block, or in a new one. -/
theorem RR.set {w w' : World} {R : List (Sl × List Int)} (h : RR w R) {i : Nat} {p q : Sl × List Int} (hi : R[i]? = some p) (hq : RI w' q.1 q.2) (hk : ∀ g, g < w.heap.size → p.1.blk ≠ some g → (∃ p ∈ R, p.1.blk = some g) → w'.heap[g]? = w.heap[g]?) (hb : q.1.blk = p.1.blk ∨ ∃ k, q.1.blk = some k ∧ w.heap.size ≤ k) : RR w' (R.set i q) := by
  have hlt := (List.getElem?_eq_some_iff.1 hi).1
  have keep : ∀ j r, R[j]? = some r → j ≠ i → ∀ g, r.1.blk = some g → w'.heap[g]? = w.heap[g]? := fun j r hr hne g hg => hk g ((h.r j r hr).lt hg) (fun e => hne (h.inj j i r p g hr hi hg e)) ⟨r, List.mem_of_getElem? hr, hg⟩
  refine ⟨fun j r hr => ?_, fun a b r r' g ha hb' hga hgb => ?_⟩
  · by_cases e : i = j
    · subst e
      rw [List.getElem?_set_self hlt] at hr
      cases hr
      exact hq
    · rw [List.getElem?_set_ne e] at hr
      exact (h.r j r hr).kept (keep j r hr (fun h' => e h'.symm))
  · have key : ∀ j r, R[j]? = some r → j ≠ i → r.1.blk = some g → q.1.blk ≠ some g := fun j r hr hne hg hqg => by
      rcases hb with hb | ⟨k, hb, hk'⟩
      · exact hne (h.inj j i r p g hr hi hg (by rw [← hb]; exact hqg))
      · rw [hb] at hqg
        have := (h.r j r hr).lt hg
        have := Option.some.inj hqg
        omega
    by_cases ea : i = a
    · subst ea
      rw [List.getElem?_set_self hlt] at ha
      cases ha
      by_cases eb : i = b
      · exact eb
      · rw [List.getElem?_set_ne eb] at hb'
        exact absurd hga (key b r' hb' (fun h' => eb h'.symm) hgb)
    · rw [List.getElem?_set_ne ea] at ha
      by_cases eb : i = b
      · subst eb
        rw [List.getElem?_set_self hlt] at hb'
        cases hb'
        exact absurd hgb (key a r ha (fun h' => ea h'.symm) hga)
      · rw [List.getElem?_set_ne eb] at hb'
        exact h.inj a b r r' g ha hb' hga hgb
structure BX (w : World) (b : Nat) (pt pl pg : Sl) (T : List (Sl × Th)) (L : List (Sl × Lk)) (G : List Int) : Prop where
  obj : w.heap[b]? = some (.cells #[.slice pt.ra T.length pt.cap, .slice pl.ra L.length pl.cap, .slice pg.ra G.length pg.cap] 96 (0, 0))
  t : w.ownsRow 0 124 4 (.slice pt.ra T.length pt.cap) T.length (T.flatMap tc)
  l : w.ownsRow 0 130 2 (.slice pl.ra L.length pl.cap) L.length (L.flatMap lc)
  g : w.ownsRow 0 56 1 (.slice pg.ra G.length pg.cap) G.length (G.map (Value.int .u64))
  r : RR w (rws T L)
  tn : T.length ≤ 8
  ln : L.length ≤ 8
  gn : G.length ≤ 64
/-- The blocks that a book has. -/
def Ft (b : Nat) (pt pl pg : Sl) (T : List (Sl × Th)) (L : List (Sl × Lk)) (g : Nat) : Prop := (g = b ∨ pt.blk = some g ∨ pl.blk = some g ∨ pg.blk = some g) ∨ ∃ p ∈ rws T L, p.1.blk = some g
theorem ob_eq (s : Sl) (n : Nat) : (Value.slice s.ra n s.cap).ownBlock = s.blk := by
  obtain ⟨ra, c⟩ := s
  cases ra <;> rfl
theorem ty_ne {w : World} {g h : Nat} {cs ds : Array Value} {t u : TypeId} (hg : w.heap[g]? = some (.cells cs t (0, 0))) (hh : w.heap[h]? = some (.cells ds u (0, 0))) (hn : t ≠ u) : g ≠ h := fun e => by
  subst e
  rw [hg] at hh
  cases hh
  exact hn rfl
theorem own_blk {w : World} {base e size n g : Nat} {v : Value} {xs : List Value} (h : w.ownsRow base e size v n xs) (hg : v.ownBlock = some g) : ∃ cs, w.heap[g]? = some (.cells cs e (0, 0)) := by
  rcases h.2 with ⟨h', _⟩ | ⟨g', cap, cur, hv, _, hh, _⟩
  · rw [h'] at hg; cases hg
  · rw [hv] at hg
    cases hg
    exact ⟨cur, hh⟩
section
variable {w w' : World} {b : Nat} {pt pl pg : Sl} {T : List (Sl × Th)} {L : List (Sl × Lk)} {G : List Int}
theorem BX.tb (h : BX w b pt pl pg T L G) {g : Nat} (hg : pt.blk = some g) : ∃ cs, w.heap[g]? = some (.cells cs 124 (0, 0)) := own_blk h.t (by rw [ob_eq]; exact hg)
theorem BX.lb (h : BX w b pt pl pg T L G) {g : Nat} (hg : pl.blk = some g) : ∃ cs, w.heap[g]? = some (.cells cs 130 (0, 0)) := own_blk h.l (by rw [ob_eq]; exact hg)
theorem BX.gb (h : BX w b pt pl pg T L G) {g : Nat} (hg : pg.blk = some g) : ∃ cs, w.heap[g]? = some (.cells cs 56 (0, 0)) := own_blk h.g (by rw [ob_eq]; exact hg)
theorem BX.rb (h : BX w b pt pl pg T L G) {g : Nat} (hg : ∃ p ∈ rws T L, p.1.blk = some g) : ∃ cs, w.heap[g]? = some (.cells cs 3 (0, 0)) := by
  obtain ⟨p, hp, hg⟩ := hg
  obtain ⟨i, hi⟩ := List.getElem?_of_mem hp
  exact (h.r.r i p hi).bt hg
theorem BX.lt (h : BX w b pt pl pg T L G) {g : Nat} (hg : Ft b pt pl pg T L g) : g < w.heap.size := by
  rcases hg with (rfl | hg | hg | hg) | hg
  · exact heap_lt h.obj
  · obtain ⟨_, h'⟩ := h.tb hg; exact heap_lt h'
  · obtain ⟨_, h'⟩ := h.lb hg; exact heap_lt h'
  · obtain ⟨_, h'⟩ := h.gb hg; exact heap_lt h'
  · exact h.r.lt hg
theorem BX.kept (h : BX w b pt pl pg T L G) (hk : ∀ g, Ft b pt pl pg T L g → w'.heap[g]? = w.heap[g]?) : BX w' b pt pl pg T L G :=
  ⟨(hk b (.inl (.inl rfl))).trans h.obj, own_same h.t (fun g hg => hk g (.inl (.inr (.inl (by rw [← ob_eq]; exact hg))))), own_same h.l (fun g hg => hk g (.inl (.inr (.inr (.inl (by rw [← ob_eq]; exact hg)))))), own_same h.g (fun g hg => hk g (.inl (.inr (.inr (.inr (by rw [← ob_eq]; exact hg)))))), h.r.kept (fun g hg => hk g (.inr hg)), h.tn, h.ln, h.gn⟩
theorem BX.below (h : BX w b pt pl pg T L G) (hb : Below w.heap.size w w') : BX w' b pt pl pg T L G := h.kept (fun g hg => hb.block g (h.lt hg))
end
/-- What is F turns, and nothing else. -/
def Chg (F F' : Nat → Prop) (w w' : World) : Prop := (∀ g, g < w.heap.size → ¬ F g → w'.heap[g]? = w.heap[g]?) ∧ Below 0 w w' ∧ ∀ g, F' g → F g ∨ w.heap.size ≤ g
theorem Chg.trans {F F' F'' : Nat → Prop} {w w' w'' : World} (h : Chg F F' w w') (k : Chg F' F'' w' w'') : Chg F F'' w w'' := by
  obtain ⟨h1, h2, h3⟩ := h
  obtain ⟨k1, k2, k3⟩ := k
  refine ⟨fun g hg hn => (k1 g (Nat.lt_of_lt_of_le hg h2.size) (fun hf => ?_)).trans (h1 g hg hn), h2.trans k2, fun g hg => ?_⟩
  · rcases h3 g hf with h' | h'
    · exact hn h'
    · omega
  · rcases k3 g hg with h' | h'
    · exact h3 g h'
    · exact .inr (Nat.le_trans h2.size h')
theorem Chg.quiet (F : Nat → Prop) {w w' : World} (h : Below w.heap.size w w') : Chg F F w w' := ⟨fun g hg _ => h.block g hg, h.mono (Nat.zero_le _), fun _ h => .inl h⟩
/-- A book, and the blocks it has. -/
def BB (w : World) (b : Nat) (B : Bk) (F : Nat → Prop) : Prop := ∃ pt pl pg T L, BX w b pt pl pg T L B.g ∧ T.map (·.2) = B.t ∧ L.map (·.2) = B.l ∧ F = Ft b pt pl pg T L
theorem BB.kept {w w' : World} {b : Nat} {B : Bk} {F : Nat → Prop} (h : BB w b B F) (hk : ∀ g, F g → w'.heap[g]? = w.heap[g]?) : BB w' b B F := by
  obtain ⟨pt, pl, pg, T, L, hX, h1, h2, rfl⟩ := h
  exact ⟨pt, pl, pg, T, L, hX.kept hk, h1, h2, rfl⟩
theorem BB.lt {w : World} {b : Nat} {B : Bk} {F : Nat → Prop} (h : BB w b B F) {g : Nat} (hg : F g) : g < w.heap.size := by
  obtain ⟨pt, pl, pg, T, L, hX, h1, h2, rfl⟩ := h
  exact hX.lt hg
theorem BB.below {w w' : World} {b : Nat} {B : Bk} {F : Nat → Prop} (h : BB w b B F) (hb : Below w.heap.size w w') : BB w' b B F := h.kept (fun g hg => hb.block g (h.lt hg))
/-- What a call leaves of a book. -/
def BR (b : Nat) (B' : Bk) (F : Nat → Prop) (w w' : World) : Prop := ∃ F', BB w' b B' F' ∧ Chg F F' w w'
/-- No row is long; nobody is 0. -/
def Sh (B : Bk) : Prop := (∀ x ∈ B.t, x.row.length ≤ 100 ∧ ∀ y ∈ x.row, y ≠ 0) ∧ ∀ x ∈ B.l, x.row.length ≤ 100 ∧ ∀ y ∈ x.row, y ≠ 0
end Go.Proofs.YtdlnkdcgipaoeaaDoor
