/- A book of threads and locks: as mathematics, and how it lies in memory. -/
import Derived.Test.YtdlnkdcgipaoeaaDoorHABase
import Derived.Deep.AppendSrc
namespace Go.Proofs.YtdlnkdcgipaoeaaDoor
open Go.RowKit

/-- A thread: who waits for its end; how it has ended. -/
structure Th where
  row : List Int
  en : Bool
  wd : Int
  er : Int
/-- A lock: who waits for it; who holds it. -/
structure Lk where
  row : List Int
  ho : Int
structure Bk where
  t : List Th
  l : List Lk
  g : List Int
/-- Where a row lies. -/
structure Sl where
  ra : Option Addr
  cap : Nat
def Sl.blk (s : Sl) : Option Nat := s.ra.map (·.block)
/-- A row of numbers that is cut ahead and grows behind. -/
def RI (w : World) (s : Sl) (l : List Int) : Prop := (l = [] ∧ s = ⟨none, 0⟩) ∨ ∃ g off cs, s.ra = some ⟨g, off, none⟩ ∧ w.heap[g]? = some (.cells cs 3 (0, 0)) ∧ l.length ≤ s.cap ∧ off + s.cap ≤ cs.size ∧ ∀ (k : Nat) (x : Int), l[k]? = some x → cs[off + k]? = some (.int .i64 x)
theorem RI.bt {w : World} {s : Sl} {l : List Int} (h : RI w s l) {g : Nat} (hg : s.blk = some g) : ∃ cs, w.heap[g]? = some (.cells cs 3 (0, 0)) := by
  rcases h with ⟨_, rfl⟩ | ⟨g', off, cs, h0, h1, _⟩
  · cases hg
  · rw [Sl.blk, h0] at hg
    cases hg
    exact ⟨cs, h1⟩
theorem RI.lt {w : World} {s : Sl} {l : List Int} (h : RI w s l) {g : Nat} (hg : s.blk = some g) : g < w.heap.size := by
  obtain ⟨cs, h⟩ := h.bt hg
  exact heap_lt h
theorem RI.kept {w w' : World} {s : Sl} {l : List Int} (h : RI w s l) (hk : ∀ g, s.blk = some g → w'.heap[g]? = w.heap[g]?) : RI w' s l := by
  rcases h with h | ⟨g, off, cs, h0, h1, h2⟩
  · exact .inl h
  · exact .inr ⟨g, off, cs, h0, (hk g (by rw [Sl.blk, h0]; rfl)).trans h1, h2⟩
/-- The first is cut off: where the rest lies. -/
def Sl.next (s : Sl) (n : Nat) : Sl := match n, s.ra with
  | 0, r => ⟨r, 0⟩
  | n + 1, some a => ⟨some ⟨a.block, a.off + 1, none⟩, n + 1⟩
  | n + 1, none => ⟨none, n + 1⟩
theorem RI.cons {w : World} {s : Sl} {x : Int} {l : List Int} (h : RI w s (x :: l)) : ∃ g off, s.ra = some ⟨g, off, none⟩ ∧ l.length + 1 ≤ s.cap ∧ g < w.heap.size ∧ w.cell? ⟨g, off, none⟩ = some (.int .i64 x) ∧ RI w (s.next l.length) l ∧ (s.next l.length).blk = s.blk := by
  rcases h with ⟨h, _⟩ | ⟨g, off, cs, h0, h1, h2, h3, h4⟩
  · cases h
  · simp only [List.length_cons] at h2
    refine ⟨g, off, h0, h2, heap_lt h1, heap_cell h1 (h4 0 x rfl), ?_, ?_⟩
    · cases l with
      | nil => exact .inr ⟨g, off, cs, h0, h1, Nat.zero_le _, by show off + 0 ≤ _; omega, fun k y hy => by simp at hy⟩
      | cons y r =>
        have hc : (s.next (y :: r).length).cap = r.length + 1 := by simp [Sl.next, h0]
        refine .inr ⟨g, off + 1, cs, by simp [Sl.next, h0], h1, by rw [hc]; exact Nat.le_refl _, ?_, fun k z hz => ?_⟩
        · simp only [List.length_cons] at h2
          rw [hc]
          omega
        · have := h4 (k + 1) z (by simpa using hz)
          rw [show off + 1 + k = off + (k + 1) by omega]
          exact this
    · cases l with
      | nil => rfl
      | cons y r => simp [Sl.next, h0, Sl.blk]
/-- It has its block for itself, from the first cell to the last. -/
def ExS (w : World) (s : Sl) : Prop := s = ⟨none, 0⟩ ∨ ∃ g cs, s.ra = some ⟨g, 0, none⟩ ∧ w.heap[g]? = some (.cells cs 3 (0, 0)) ∧ cs.size = s.cap ∧ s.cap ≤ maxLen
/-- A row of numbers with a block of its own. -/
structure RO (w : World) (s : Sl) (l : List Int) : Prop where
  ri : RI w s l
  ex : ExS w s
theorem RO.bt {w : World} {s : Sl} {l : List Int} (h : RO w s l) {g : Nat} (hg : s.blk = some g) : ∃ cs, w.heap[g]? = some (.cells cs 3 (0, 0)) := h.ri.bt hg
theorem RO.lt {w : World} {s : Sl} {l : List Int} (h : RO w s l) {g : Nat} (hg : s.blk = some g) : g < w.heap.size := h.ri.lt hg
theorem RO.kept {w w' : World} {s : Sl} {l : List Int} (h : RO w s l) (hk : ∀ g, s.blk = some g → w'.heap[g]? = w.heap[g]?) : RO w' s l := by
  refine ⟨h.ri.kept hk, ?_⟩
  rcases h.ex with e | ⟨g, cs, h0, h1, h2⟩
  · exact .inl e
  · exact .inr ⟨g, cs, h0, (hk g (by rw [Sl.blk, h0]; rfl)).trans h1, h2⟩
theorem RO.nil (w : World) : RO w ⟨none, 0⟩ [] := ⟨.inl ⟨rfl, rfl⟩, .inl rfl⟩
theorem RO.own {w : World} {s : Sl} {l : List Int} (h : RO w s l) : w.ownsRow 0 3 1 (.slice s.ra l.length s.cap) l.length (l.map (Value.int .i64)) := by
  rcases h.ex with e | ⟨g, cs, h0, h1, h2, h3⟩
  · rcases h.ri with ⟨rfl, rfl⟩ | ⟨g, off, cs, h0, _⟩
    · exact ⟨rfl, .inl ⟨rfl, rfl⟩⟩
    · rw [e] at h0
      cases h0
  · rcases h.ri with ⟨rfl, rfl⟩ | ⟨g', off, cs', k0, k1, k2, k3, k4⟩
    · cases h0
    · rw [h0] at k0
      cases k0
      rw [h1] at k1
      cases k1
      rw [h0]
      refine own_of h1 (by omega) k2 h3 (Nat.zero_le _) (by simp) (fun k u hk => ?_)
      rw [List.getElem?_map] at hk
      cases hx : l[k]? with
      | none => rw [hx] at hk; cases hk
      | some y =>
        rw [hx] at hk
        cases hk
        have := k4 k y hx
        rw [Nat.zero_add] at this
        exact this
set_option maxRecDepth 100000 in
/-- One is laid behind. -/
theorem RI.snocX {w : World} {s : Sl} {l : List Int} (h : RI w s l) (hl : l.length ≤ 1000) (x : Int) (vb : Nat) (hv : w.heap[vb]? = some (.cells #[.int .i64 x] 3 (0, 0))) :
    ∃ s' w', (∀ ty, (Builtin.append_ #[62, 62] ty #[.slice s.ra l.length s.cap, .slice (some ⟨vb, 0, none⟩) 1 1]).run Tryd.prog w = .ok (.slice s'.ra (l.length + 1) s'.cap) w') ∧ RI w' s' (l ++ [x]) ∧ (∀ g, g < w.heap.size → s.blk ≠ some g → w'.heap[g]? = w.heap[g]?) ∧ Below 0 w w' ∧ (s'.blk = s.blk ∨ s'.blk = some w.heap.size) ∧ (ExS w s → ExS w' s') := by
  obtain ⟨i0, hi0, hz0, hz1, hz2⟩ := info_parts infoI
  have hn : ∀ (j : Nat) (u : Value), [Value.int .i64 x][j]? = some u → w.cell? ((⟨vb, 0, none⟩ : Addr).add j) = some u := fun j u hj => by
    rw [ad_add, Nat.zero_add]
    exact heap_cell hv (by simpa using hj)
  have hnew : ∀ (W : World) (olds : List Value) (cap : Nat), W.heap = w.heap → olds = l.map (Value.int .i64) → l.length + 1 ≤ cap → RI (W.alloc (.cells (olds.toArray ++ #[Value.int .i64 x] ++ Builtin.zeroCells (Value.int .i64 0).cells (cap - (l.length + 1))) 3)) ⟨some ⟨w.heap.size, 0, none⟩, cap⟩ (l ++ [x]) := fun W olds cap hW ho hc => by
    refine .inr ⟨w.heap.size, 0, olds.toArray ++ #[Value.int .i64 x] ++ Builtin.zeroCells (Value.int .i64 0).cells (cap - (l.length + 1)), rfl, ?_, by simpa using hc, ?_, fun k u hk => ?_⟩
    · have := heap_alloc_new W (.cells (olds.toArray ++ #[Value.int .i64 x] ++ Builtin.zeroCells (Value.int .i64 0).cells (cap - (l.length + 1))) 3)
      rw [show W.heap.size = w.heap.size by rw [hW]] at this
      exact this
    · have h2 : (Value.int .i64 0).cells.size = 1 := by kernel_rfl
      simp only [Array.size_append, List.size_toArray, size_zeroCells, h2, ho, List.length_map]
      simp
      omega
    · have hlk := (List.getElem?_eq_some_iff.1 hk).1
      simp at hlk
      rw [Nat.zero_add, Array.getElem?_append_left (by simp [ho]; omega), ho]
      have : ((l.map (Value.int .i64)).toArray ++ #[Value.int .i64 x])[k]? = ((l ++ [x]).map (Value.int .i64))[k]? := by simp
      rw [this, List.getElem?_map, hk]
      rfl
  have hnex : ∀ (W : World) (olds : List Value) (cap : Nat), W.heap = w.heap → olds = l.map (Value.int .i64) → l.length + 1 ≤ cap → cap ≤ maxLen → ExS (W.alloc (.cells (olds.toArray ++ #[Value.int .i64 x] ++ Builtin.zeroCells (Value.int .i64 0).cells (cap - (l.length + 1))) 3)) ⟨some ⟨w.heap.size, 0, none⟩, cap⟩ := fun W olds cap hW ho hc hm => by
    refine .inr ⟨w.heap.size, olds.toArray ++ #[Value.int .i64 x] ++ Builtin.zeroCells (Value.int .i64 0).cells (cap - (l.length + 1)), rfl, ?_, ?_, hm⟩
    · have := heap_alloc_new W (.cells (olds.toArray ++ #[Value.int .i64 x] ++ Builtin.zeroCells (Value.int .i64 0).cells (cap - (l.length + 1))) 3)
      rw [show W.heap.size = w.heap.size by rw [hW]] at this
      exact this
    · have h2 : (Value.int .i64 0).cells.size = 1 := by kernel_rfl
      simp only [Array.size_append, List.size_toArray, size_zeroCells, h2, ho, List.length_map]
      simp
      omega
  rcases h with ⟨rfl, rfl⟩ | ⟨g, off, cs, h0, h1, h2, h3, h4⟩
  · have hr := fun ty => run_append_nil (P := Tryd.prog) w 62 ty 3 i0 _ Tryd.underlying62 hi0 hz0 ⟨vb, 0, none⟩ 1 1 _ (by rw [hz1]; rfl) hn (by omega) (by omega) (by rw [hz2]; omega)
    have hge := grownCap_ge w 1 0 3
    have e := hnew w.drew [] (grownCap w 1 0 3) rfl rfl hge
    have ee := hnex w.drew [] (grownCap w 1 0 3) rfl rfl hge (grownCap_le_maxLen _ _ _ _ (by unfold maxLen; omega))
    refine ⟨⟨some ⟨w.heap.size, 0, none⟩, grownCap w 1 0 3⟩, _, hr, ?_, fun k hk _ => Below.heap_alloc _ _ _ hk, (Below.refl 0 w).drew.alloc (Nat.zero_le _) _, .inr rfl, fun _ => ?_⟩
    · simpa using e
    · simpa using ee
  · obtain ⟨ra, cap⟩ := s
    simp only at h0 h2 h3
    subst h0
    by_cases hroom : l.length + 1 ≤ cap
    · have hc : ∀ j, j < [Value.int .i64 x].length → (w.cell? ⟨g, off + l.length * i0.size + j, none⟩).isSome = true := fun j hj => by
        rw [heap_cell h1 (Array.getElem?_eq_getElem (by simp at hj; rw [hz1]; omega))]; rfl
      have hf : ∀ j, j < [Value.int .i64 x].length → w.frozen? ⟨g, off + l.length * i0.size + j, none⟩ = false := fun j _ => by simp [World.frozen?, h1]
      have hr := fun ty => run_append_room_src (P := Tryd.prog) w 62 62 ty 3 i0 Tryd.underlying62 hi0 g off l.length cap (.slice (some ⟨vb, 0, none⟩) 1 1) 1 _ (Src.ofSlice w Tryd.underlying62 ⟨vb, 0, none⟩ 1 1 _ (by rw [hz1]; rfl) hn (by intro u hu; simp at hu; rw [hu]; rfl)) hroom hc hf
      rw [hz1] at hr
      obtain ⟨c2, f1, f2, f3⟩ := setCells_at [Value.int .i64 x] (off + l.length * 1) w cs h1
      refine ⟨⟨some ⟨g, off, none⟩, cap⟩, _, hr, .inr ⟨g, off, c2, rfl, f1, by simpa using hroom, by show off + cap ≤ _; omega, fun k u hk => ?_⟩, fun k _ hn => setCells_far _ _ _ _ (fun e => hn (by rw [e]; rfl)), setCells_below _ _ _ _ (Below.refl _ _), .inl rfl, fun hx => ?_⟩
      rotate_left
      · rcases hx with hx | ⟨g', cs', k0, k1, k2, k3⟩
        · cases hx
        · cases k0
          rw [h1] at k1
          cases k1
          exact .inr ⟨g, c2, rfl, f1, by dsimp only at k2 ⊢; omega, k3⟩
      have hlk := (List.getElem?_eq_some_iff.1 hk).1
      simp at hlk
      rw [f3 (off + k) (by omega)]
      by_cases e : k < l.length
      · rw [if_neg (by omega)]
        rw [List.getElem?_append_left (by omega)] at hk
        exact h4 k u hk
      · have : k = l.length := by omega
        subst this
        rw [if_pos (by simp)]
        simp at hk ⊢
        exact hk
    · have hcap : cap = l.length := by omega
      have hold : ∀ (j : Nat) (u : Value), (l.map (Value.int .i64))[j]? = some u → w.cell? ((⟨g, off, none⟩ : Addr).add j) = some u := fun j u hj => by
        rw [ad_add]
        rw [List.getElem?_map] at hj
        cases hx : l[j]? with
        | none => rw [hx] at hj; cases hj
        | some y =>
          rw [hx] at hj
          cases hj
          exact heap_cell h1 (h4 j y hx)
      have hfit : Builtin.nextslicecap (l.length + 1) cap * i0.bytes ≤ 281474976710656 := by
        exact growslice_fits (by omega) (by rw [hz2]; omega)
      have hr := fun ty => run_append_grow (P := Tryd.prog) w 62 ty 3 i0 _ Tryd.underlying62 hi0 hz0 ⟨g, off, none⟩ l.length cap (l.map (Value.int .i64)) (by rw [hz1]; simp) hold ⟨vb, 0, none⟩ 1 1 _ (by rw [hz1]; rfl) hn (by omega) (by omega) hfit
      have hge := grownCap_ge w (l.length + 1) cap 3
      have e := hnew w.drew (l.map (Value.int .i64)) (grownCap w (l.length + 1) cap 3) rfl rfl hge
      have ee := hnex w.drew (l.map (Value.int .i64)) (grownCap w (l.length + 1) cap 3) rfl rfl hge (grownCap_le_maxLen _ _ _ _ (by unfold maxLen; omega))
      refine ⟨⟨some ⟨w.heap.size, 0, none⟩, grownCap w (l.length + 1) cap 3⟩, _, hr, ?_, fun k hk _ => Below.heap_alloc _ _ _ hk, (Below.refl 0 w).drew.alloc (Nat.zero_le _) _, .inr rfl, fun _ => ?_⟩
      · simpa using e
      · simpa using ee
theorem RI.snoc {w : World} {s : Sl} {l : List Int} (h : RI w s l) (hl : l.length ≤ 1000) (x : Int) (vb : Nat) (hv : w.heap[vb]? = some (.cells #[.int .i64 x] 3 (0, 0))) :
    ∃ s' w', (∀ ty, (Builtin.append_ #[62, 62] ty #[.slice s.ra l.length s.cap, .slice (some ⟨vb, 0, none⟩) 1 1]).run Tryd.prog w = .ok (.slice s'.ra (l.length + 1) s'.cap) w') ∧ RI w' s' (l ++ [x]) ∧ (∀ g, g < w.heap.size → s.blk ≠ some g → w'.heap[g]? = w.heap[g]?) ∧ Below 0 w w' ∧ (s'.blk = s.blk ∨ s'.blk = some w.heap.size) := by
  obtain ⟨s', w', h1, h2, h3, h4, h5, -⟩ := h.snocX hl x vb hv
  exact ⟨s', w', h1, h2, h3, h4, h5⟩
theorem RO.snoc {w : World} {s : Sl} {l : List Int} (h : RO w s l) (hl : l.length ≤ 1000) (x : Int) (vb : Nat) (hv : w.heap[vb]? = some (.cells #[.int .i64 x] 3 (0, 0))) :
    ∃ s' w', (∀ ty, (Builtin.append_ #[62, 62] ty #[.slice s.ra l.length s.cap, .slice (some ⟨vb, 0, none⟩) 1 1]).run Tryd.prog w = .ok (.slice s'.ra (l.length + 1) s'.cap) w') ∧ RO w' s' (l ++ [x]) ∧ (∀ g, g < w.heap.size → s.blk ≠ some g → w'.heap[g]? = w.heap[g]?) ∧ Below 0 w w' ∧ (s'.blk = s.blk ∨ s'.blk = some w.heap.size) := by
  obtain ⟨s', w', h1, h2, h3, h4, h5, h6⟩ := h.ri.snocX hl x vb hv
  exact ⟨s', w', h1, ⟨h2, h6 h.ex⟩, h3, h4, h5⟩
end Go.Proofs.YtdlnkdcgipaoeaaDoor
