/- A row of waiters that is cut ahead and grows behind. -/
import Derived.Test.YtaenoenchbfeiaaHAFin
import Derived.Deep.AppendSrc
namespace Go.Proofs.Ytaenoenchbfeiaa
open Go.RowKit

def RWt (w : World) (v : Value) (l : List (Int × Int)) : Prop := (l = [] ∧ v = .slice none 0 0) ∨ ∃ g off cap cs, v = .slice (some ⟨g, off, none⟩) l.length cap ∧ w.heap[g]? = some (.cells cs 103 (0, 0)) ∧ l.length ≤ cap ∧ off + cap * 2 ≤ cs.size ∧ ∀ (k : Nat) (u : Value), (rowCells l)[k]? = some u → cs[off + k]? = some u
theorem RWt.sl {w : World} {v : Value} {l : List (Int × Int)} (h : RWt w v l) : ∃ ra c, v = .slice ra l.length c := by
  rcases h with ⟨rfl, rfl⟩ | ⟨g, off, cap, cs, rfl, _⟩
  · exact ⟨none, 0, rfl⟩
  · exact ⟨_, _, rfl⟩
theorem RWt.blk {w : World} {v : Value} {l : List (Int × Int)} (h : RWt w v l) {g : Nat} (hg : v.ownBlock = some g) : ∃ cs, w.heap[g]? = some (.cells cs 103 (0, 0)) := by
  rcases h with ⟨_, rfl⟩ | ⟨g', off, cap, cs, rfl, h1, _⟩
  · cases hg
  · cases hg
    exact ⟨cs, h1⟩
theorem RWt.kept {w w' : World} {v : Value} {l : List (Int × Int)} (h : RWt w v l) (hk : ∀ g, v.ownBlock = some g → w'.heap[g]? = w.heap[g]?) : RWt w' v l := by
  rcases h with h | ⟨g, off, cap, cs, rfl, h1, h2⟩
  · exact .inl h
  · exact .inr ⟨g, off, cap, cs, rfl, (hk g rfl).trans h1, h2⟩
theorem RWt.of {w : World} {base : Nat} {v : Value} {l : List (Int × Int)} (h : w.ownsRow base 103 2 v l.length (rowCells l)) : RWt w v l := by
  rcases h.2 with ⟨h1, h0⟩ | ⟨g, cap, cur, hv, _⟩
  · exact .inl ⟨List.eq_nil_of_length_eq_zero h0, h1⟩
  · subst hv
    obtain ⟨cs, q1, q2, q3, _, _, _, q4⟩ := own_out h
    exact .inr ⟨g, 0, cap, cs, rfl, q1, q3, by omega, fun k u hk => by rw [Nat.zero_add]; exact q4 k u hk⟩
theorem RWt.wx {w : World} {ra : Option Addr} {c : Nat} {l : List (Int × Int)} (h : RWt w (.slice ra l.length c) l) : WX w ra l := by
  rcases h with ⟨rfl, _⟩ | ⟨g, off, cap, cs, hv, h1, _, _, h2⟩
  · exact ⟨0, 0, .inl rfl, fun j x hx => by simp at hx⟩
  · cases hv
    exact ⟨g, off, .inr rfl, fun j x hx => by
      have := rowCells_at hx
      exact ⟨heap_lt h1, heap_cell h1 (h2 _ _ this.1), heap_cell h1 (by rw [Nat.add_assoc]; exact h2 _ _ this.2)⟩⟩
/-- The first is cut off. -/
theorem RWt.tail {w : World} {ra : Option Addr} {c : Nat} {p : Int × Int} {l : List (Int × Int)} (h : RWt w (.slice ra (l.length + 1) c) (p :: l)) : ∃ g off, ra = some ⟨g, off, none⟩ ∧ l.length + 1 ≤ c ∧ g < w.heap.size ∧ w.cell? ⟨g, off, none⟩ = some (.int .i64 p.1) ∧ (c ≠ 1 → RWt w (.slice (some ⟨g, off + 2, none⟩) l.length (c - 1)) l) ∧ (c = 1 → RWt w (.slice (some ⟨g, off, none⟩) 0 0) []) := by
  rcases h with ⟨h, _⟩ | ⟨g, off, cap, cs, hv, h1, h2, h3, h4⟩
  · cases h
  · cases hv
    simp only [List.length_cons] at h2
    refine ⟨g, off, rfl, h2, heap_lt h1, heap_cell h1 (h4 0 _ rfl), fun _ => .inr ⟨g, off + 2, c - 1, cs, rfl, h1, by omega, by omega, fun k u hk => ?_⟩, fun _ => .inr ⟨g, off, 0, cs, rfl, h1, Nat.le_refl _, by omega, fun k u hk => by simp [rowCells] at hk⟩⟩
    have := h4 (k + 2) u (by simpa [rowCells] using hk)
    rw [show off + 2 + k = off + (k + 2) by omega]
    exact this
set_option maxRecDepth 100000 in
/-- One is laid behind. -/
theorem RWt.snoc {w : World} {v : Value} {l : List (Int × Int)} (h : RWt w v l) (hl : l.length ≤ 1000) (x : Int × Int) (vb : Nat) (hv : w.heap[vb]? = some (.cells #[.int .i64 x.1, .int .i64 x.2] 103 (0, 0))) :
    ∃ v' w', (∀ ty, (Builtin.append_ #[60, 60] ty #[v, .slice (some ⟨vb, 0, none⟩) 1 1]).run Try.prog w = .ok v' w') ∧ RWt w' v' (l ++ [x]) ∧ (∀ g, g < w.heap.size → v.ownBlock ≠ some g → w'.heap[g]? = w.heap[g]?) ∧ Below 0 w w' ∧ (v'.ownBlock = v.ownBlock ∨ v'.ownBlock = some w.heap.size) := by
  obtain ⟨i0, hi0, hz0, hz1, hz2⟩ := info_parts infoW
  have hn : ∀ (j : Nat) (u : Value), [Value.int .i64 x.1, Value.int .i64 x.2][j]? = some u → w.cell? ((⟨vb, 0, none⟩ : Addr).add j) = some u := fun j u hj => by
    rw [ad_add, Nat.zero_add]
    exact heap_cell hv (by simpa using hj)
  have hrc : rowCells (l ++ [x]) = rowCells l ++ [.int .i64 x.1, .int .i64 x.2] := by rw [rowCells_app]; rfl
  have hnew : ∀ (W : World) (olds : List Value) (cap : Nat), W.heap = w.heap → olds = rowCells l → l.length + 1 ≤ cap → RWt (W.alloc (.cells (olds.toArray ++ #[Value.int .i64 x.1, Value.int .i64 x.2] ++ Builtin.zeroCells (Value.agg #[.int .i64 0, .int .i64 0]).cells (cap - (l.length + 1))) 103)) (.slice (some ⟨w.heap.size, 0, none⟩) (l.length + 1) cap) (l ++ [x]) := fun W olds cap hW ho hc => by
    refine .inr ⟨w.heap.size, 0, cap, olds.toArray ++ #[Value.int .i64 x.1, Value.int .i64 x.2] ++ Builtin.zeroCells (Value.agg #[.int .i64 0, .int .i64 0]).cells (cap - (l.length + 1)), by rw [List.length_append]; rfl, ?_, by simpa using hc, ?_, fun k u hk => ?_⟩
    · have := heap_alloc_new W (.cells (olds.toArray ++ #[Value.int .i64 x.1, Value.int .i64 x.2] ++ Builtin.zeroCells (Value.agg #[.int .i64 0, .int .i64 0]).cells (cap - (l.length + 1))) 103)
      rw [show W.heap.size = w.heap.size by rw [hW]] at this
      exact this
    · have h2 : (Value.agg #[.int .i64 0, .int .i64 0]).cells.size = 2 := by kernel_rfl
      have := rowCells_len l
      simp only [Array.size_append, List.size_toArray, size_zeroCells, h2, ho, this]
      simp
      omega
    · have hlk := (List.getElem?_eq_some_iff.1 hk).1
      rw [hrc] at hk hlk
      rw [Nat.zero_add, Array.getElem?_append_left (by simp [ho] at hlk ⊢; omega), ho, ← hk]
      simp
  rcases h with ⟨rfl, rfl⟩ | ⟨g, off, cap, cs, rfl, h1, h2, h3, h4⟩
  · have hr := fun ty => run_append_nil (P := Try.prog) w 60 ty 103 i0 _ Try.underlying60 hi0 hz0 ⟨vb, 0, none⟩ 1 1 _ (by rw [hz1]; rfl) hn (by omega) (by omega) (by rw [hz2]; omega)
    have hge := grownCap_ge w 1 0 103
    have e := hnew w.drew [] (grownCap w 1 0 103) rfl rfl hge
    refine ⟨_, _, hr, ?_, fun k hk _ => Below.heap_alloc _ _ _ hk, (Below.refl 0 w).drew.alloc (Nat.zero_le _) _, .inr rfl⟩
    simpa using e
  · by_cases hroom : l.length + 1 ≤ cap
    · have hc : ∀ j, j < [Value.int .i64 x.1, Value.int .i64 x.2].length → (w.cell? ⟨g, off + l.length * i0.size + j, none⟩).isSome = true := fun j hj => by
        rw [heap_cell h1 (Array.getElem?_eq_getElem (by simp at hj; rw [hz1]; omega))]; rfl
      have hf : ∀ j, j < [Value.int .i64 x.1, Value.int .i64 x.2].length → w.frozen? ⟨g, off + l.length * i0.size + j, none⟩ = false := fun j _ => by simp [World.frozen?, h1]
      have hr := fun ty => run_append_room_src (P := Try.prog) w 60 60 ty 103 i0 Try.underlying60 hi0 g off l.length cap (.slice (some ⟨vb, 0, none⟩) 1 1) 1 _ (Src.ofSlice w Try.underlying60 ⟨vb, 0, none⟩ 1 1 _ (by rw [hz1]; rfl) hn (by intro u hu; simp at hu; rcases hu with rfl | rfl <;> rfl)) hroom hc hf
      rw [hz1] at hr
      obtain ⟨c2, f1, f2, f3⟩ := setCells_at [Value.int .i64 x.1, Value.int .i64 x.2] (off + l.length * 2) w cs h1
      refine ⟨_, _, hr, .inr ⟨g, off, cap, c2, by rw [List.length_append]; rfl, f1, by simpa using hroom, by omega, fun k u hk => ?_⟩, fun k _ hn => setCells_far _ _ _ _ (fun e => hn (by rw [e]; rfl)), setCells_below _ _ _ _ (Below.refl _ _), .inl rfl⟩
      have hlk := (List.getElem?_eq_some_iff.1 hk).1
      rw [hrc] at hk hlk
      have hrl := rowCells_len l
      simp at hlk
      rw [f3 (off + k) (by omega)]
      by_cases e : k < l.length * 2
      · rw [if_neg (by omega)]
        rw [List.getElem?_append_left (by omega)] at hk
        exact h4 k u hk
      · rw [if_pos (by simp; omega)]
        rw [List.getElem?_append_right (by omega), hrl] at hk
        rw [← hk]
        congr 1
        omega
    · have hcap : cap = l.length := by omega
      have hold : ∀ (j : Nat) (u : Value), (rowCells l)[j]? = some u → w.cell? ((⟨g, off, none⟩ : Addr).add j) = some u := fun j u hj => by rw [ad_add]; exact heap_cell h1 (h4 j u hj)
      have hfit : Builtin.nextslicecap (l.length + 1) cap * i0.bytes ≤ 281474976710656 := by
        exact growslice_fits (by omega) (by rw [hz2]; omega)
      have hr := fun ty => run_append_grow (P := Try.prog) w 60 ty 103 i0 _ Try.underlying60 hi0 hz0 ⟨g, off, none⟩ l.length cap (rowCells l) (by rw [hz1]; exact rowCells_len l) hold ⟨vb, 0, none⟩ 1 1 _ (by rw [hz1]; rfl) hn (by omega) (by omega) hfit
      have hge := grownCap_ge w (l.length + 1) cap 103
      refine ⟨_, _, hr, ?_, fun k hk _ => Below.heap_alloc _ _ _ hk, (Below.refl 0 w).drew.alloc (Nat.zero_le _) _, .inr rfl⟩
      have e := hnew w.drew (rowCells l) (grownCap w (l.length + 1) cap 103) rfl rfl hge
      simpa using e
end Go.Proofs.Ytaenoenchbfeiaa
