/- The book's lists that lie apart, of whatever kind. -/
import Derived.Test.YtphpkedfcmghmaaDoorHTold
import Derived.Laws.OwnMore
import Derived.OneCell
namespace Go.Proofs.YtphpkedfcmghmaaDoor
open Go.RowKit

/-- A kind of lists: what lies in them, its cells, the lists' type, the marks. -/
structure Knd where
  e : Nat
  sz : Nat
  lt : Nat
  mark : Int → Int → List Value
  len : ∀ i k, (mark i k).length = sz
  pos : 0 < sz
  ne : lt ≠ e
theorem own_below {w w' : World} {b e n c : Nat} {v : Value} {xs : List Value} (h : w.ownsRow b e c v n xs) (hb : Below w.heap.size w w') : w'.ownsRow b e c v n xs := own_same h (fun g hg => hb.block g (h.lt g hg).2)
/-- Lists of a book: the values in the cells of block B, each the owner of its row, no two of one block. -/
structure Held (K : Knd) (Q : Nat → Prop) (N B : Nat) (V : Nat → Value) (n : Nat → Nat) (W : World) (X : Nat → List Value) : Prop where
  cell : ∀ j, j < N → W.cell? ⟨B, j, none⟩ = some (V j)
  own : ∀ j, j < N → W.ownsRow 0 K.e K.sz (V j) (n j) (X j)
  apart : ∀ j j', j < N → j' < N → j ≠ j' → ∀ g, (V j).ownBlock = some g → (V j').ownBlock ≠ some g
  off : ∀ j, j < N → (V j).ownBlock ≠ some B
  lt : B < W.heap.size
  nq : ∀ j, j < N → ∀ g, (V j).ownBlock = some g → ¬ Q g

def marks (K : Knd) (i : Int) : Nat → List Value
  | 0 => []
  | m + 1 => marks K i m ++ K.mark i m
theorem marks_len (K : Knd) (i : Int) (m : Nat) : (marks K i m).length = m * K.sz := by
  induction m with
  | zero => simp [marks]
  | succ m ih => rw [marks, List.length_append, ih, K.len]; rw [Nat.succ_mul]

/-- A store into one list's row. -/
theorem Held.stored {K : Knd} {Q : Nat → Prop} {N B : Nat} {V : Nat → Value} {n : Nat → Nat} {W : World} {X : Nat → List Value} (h : Held K Q N B V n W X) {j g cap : Nat} (hj : j < N) (hv : V j = .slice (some ⟨g, 0, none⟩) (n j) cap) (o : Nat) (u : Value) :
    Held K Q N B V n (W.setCell ⟨g, o, none⟩ u) (fun i => if i = j then (X j).set o u else X i) := by
  have hg : (V j).ownBlock = some g := by rw [hv]; rfl
  have hne : g ≠ B := fun e => h.off j hj (e ▸ hg)
  refine ⟨fun i hi => ?_, fun i hi => ?_, h.apart, h.off, ?_, h.nq⟩
  · have e := Below.heap_setCell W ⟨g, o, none⟩ u B (fun e => hne e.symm)
    have := h.cell i hi
    simp only [World.cell?] at this ⊢
    rw [e]; exact this
  · by_cases e : i = j
    · subst e
      rw [if_pos rfl, hv]
      have := h.own i hi
      rw [hv] at this
      exact (this.stored o u).1
    · rw [if_neg e]
      exact ownsRow_setCell_other (h.own i hi) (h.apart j i hj hi (fun e' => e e'.symm) g hg) u
  · rw [World.size_setCell]; exact h.lt

theorem Held.at {K : Knd} {Q : Nat → Prop} {N B : Nat} {V : Nat → Value} {n : Nat → Nat} {W : World} {X : Nat → List Value} (h : Held K Q N B V n W X) {j g cap : Nat} (hj : j < N) (hv : V j = .slice (some ⟨g, 0, none⟩) (n j) cap) (o : Nat) (ho : o < n j * K.sz) :
    (∃ u, W.cell? ⟨g, o, none⟩ = some u) ∧ W.frozen? ⟨g, o, none⟩ = false := by
  have := h.own j hj
  rw [hv] at this
  refine ⟨?_, this.frozenAt o⟩
  rw [this.cellAt o ho]
  have hl := this.1
  exact ⟨_, List.getElem?_eq_getElem (by omega)⟩

theorem Held.congr {K : Knd} {Q : Nat → Prop} {N B : Nat} {V : Nat → Value} {n : Nat → Nat} {W : World} {X Y : Nat → List Value} (h : Held K Q N B V n W X) (e : ∀ j, j < N → X j = Y j) : Held K Q N B V n W Y :=
  ⟨h.cell, fun j hj => e j hj ▸ h.own j hj, h.apart, h.off, h.lt, h.nq⟩
/-- Where one block turns: it is none of the lists', or the one list's in it still reads its row. -/
theorem Held.kept {K : Knd} {Q : Nat → Prop} {N B : Nat} {V : Nat → Value} {n : Nat → Nat} {W W' : World} {X : Nat → List Value} {row : Option Nat} (h : Held K Q N B V n W X) (hg : W.grownBy W' row) (hB : row ≠ some B)
    (hr : ∀ j, j < N → W'.ownsRow 0 K.e K.sz (V j) (n j) (X j) ∨ ∀ g, (V j).ownBlock = some g → row ≠ some g) : Held K Q N B V n W' X := by
  refine ⟨fun j hj => ?_, fun j hj => ?_, h.apart, h.off, Nat.lt_of_lt_of_le h.lt hg.size, h.nq⟩
  · have e := hg.block B h.lt (fun e => hB e.symm)
    have := h.cell j hj
    simp only [World.cell?] at this ⊢
    rw [e]; exact this
  · rcases hr j hj with h' | h'
    · exact h'
    · refine (h.own j hj).kept hg ?_
      cases hv : (V j).ownBlock with
      | none => exact .inl rfl
      | some g => exact .inr (fun e => h' g hv e.symm)
theorem Held.alloc {K : Knd} {Q : Nat → Prop} {N B : Nat} {V : Nat → Value} {n : Nat → Nat} {W : World} {X : Nat → List Value} (h : Held K Q N B V n W X) (o : Obj) : Held K Q N B V n (W.alloc o) X :=
  h.kept (World.grownBy_alloc W o none) (by simp) (fun j _ => .inr (fun g _ => by simp))

/-- Rows of two kinds lie in two blocks. -/
theorem own_types {W : World} {b b' e e' c c' n n' : Nat} {v v' : Value} {xs xs' : List Value} (h : W.ownsRow b e c v n xs) (h' : W.ownsRow b' e' c' v' n' xs') (hne : e ≠ e') : ∀ g, v.ownBlock = some g → v'.ownBlock ≠ some g := by
  intro g hg hg'
  rcases h.2 with ⟨rfl, _⟩ | ⟨g1, _, _, rfl, _, hh, _⟩
  · simp [Value.ownBlock] at hg
  rcases h'.2 with ⟨rfl, _⟩ | ⟨g2, _, _, rfl, _, hh', _⟩
  · simp [Value.ownBlock] at hg'
  simp only [Value.ownBlock, Option.some.injEq] at hg hg'
  subst hg hg'
  rw [hh] at hh'
  cases hh'
  exact hne rfl

/-- The lists, and those of them that have been made longer, in a list of their own. -/
structure Longs (K : Knd) (Q : Nat → Prop) (N B : Nat) (V : Nat → Value) (n : Nat → Nat) (k : Nat) (v : Value) (L : Nat → Value) (W : World) : Prop where
  held : Held K Q N B V n W (fun j => marks K j (n j))
  own : ∀ j, j < k → W.ownsRow 0 K.e K.sz (L j) (n j + 16) (marks K j (n j) ++ marks K (-1 - (j : Int)) 16)
  apart : ∀ j j', j < k → j' < N → j' ≠ j → ∀ g, (V j').ownBlock = some g → (L j).ownBlock ≠ some g
  row : W.ownsRow 0 K.lt 1 v k ((List.range k).map L)
  off : v.ownBlock ≠ some B
  nq : ∀ g, v.ownBlock = some g → ¬ Q g

/-- .. and one that is being made longer. -/
structure Grow (K : Knd) (Q : Nat → Prop) (N B : Nat) (V : Nat → Value) (n : Nat → Nat) (k : Nat) (v : Value) (L : Nat → Value) (q : Nat) (x : Value) (W : World) : Prop where
  longs : Longs K Q N B V n k v L W
  own : W.ownsRow 0 K.e K.sz x (n k + q) (marks K k (n k) ++ marks K (-1 - (k : Int)) q)
  ap1 : ∀ j', j' < N → j' ≠ k → ∀ g, (V j').ownBlock = some g → x.ownBlock ≠ some g
  ap2 : ∀ j, j < k → ∀ g, (L j).ownBlock = some g → x.ownBlock ≠ some g
  ap3 : x.ownBlock ≠ some B
  nq : ∀ g, x.ownBlock = some g → ¬ Q g

theorem Longs.alloc {K : Knd} {Q : Nat → Prop} {N B : Nat} {V : Nat → Value} {n : Nat → Nat} {k : Nat} {v : Value} {L : Nat → Value} {W : World} (h : Longs K Q N B V n k v L W) (o : Obj) : Longs K Q N B V n k v L (W.alloc o) :=
  ⟨h.held.alloc o, fun j hj => (h.own j hj).alloc o, h.apart, h.row.alloc o, h.off, h.nq⟩
theorem Grow.alloc {K : Knd} {Q : Nat → Prop} {N B : Nat} {V : Nat → Value} {n : Nat → Nat} {k : Nat} {v : Value} {L : Nat → Value} {q : Nat} {x : Value} {W : World} (h : Grow K Q N B V n k v L q x W) (o : Obj) : Grow K Q N B V n k v L q x (W.alloc o) :=
  ⟨h.longs.alloc o, h.own.alloc o, h.ap1, h.ap2, h.ap3, h.nq⟩

theorem Grow.start {K : Knd} {Q : Nat → Prop} {N B : Nat} {V : Nat → Value} {n : Nat → Nat} {k : Nat} {v : Value} {L : Nat → Value} {W : World} (h : Longs K Q N B V n k v L W) (hk : k < N) : Grow K Q N B V n k v L 0 (V k) W :=
  ⟨h, by simpa [marks] using h.held.own k hk, fun j' hj' hne g hg hg' => h.held.apart j' k hj' hk hne g hg hg',
    fun j hj g hg hg' => h.apart j k hj hk (by omega) g hg' hg, h.held.off k hk, h.held.nq k hk⟩

theorem Grow.step {K : Knd} {Q : Nat → Prop} {N B : Nat} {V : Nat → Value} {n : Nat → Nat} {k : Nat} {v : Value} {L : Nat → Value} {q : Nat} {x x' : Value} {W W' : World} (h : Grow K Q N B V n k v L q x W) (hk : k < N)
    (hown : W'.ownsRow 0 K.e K.sz x' (n k + q + 1) (marks K k (n k) ++ marks K (-1 - (k : Int)) q ++ K.mark (-1 - (k : Int)) q)) (hg : W.grownBy W' x.ownBlock)
    (hold : W'.ownsRow 0 K.e K.sz x (n k + q) (marks K k (n k) ++ marks K (-1 - (k : Int)) q)) (hw : x'.ownBlock = x.ownBlock ∨ x'.ownBlock = some W.heap.size) (hQ : ∀ g, Q g → g < W.heap.size) : Grow K Q N B V n k v L (q + 1) x' W' := by
  have hvx : ∀ g, v.ownBlock = some g → x.ownBlock ≠ some g := own_types h.longs.row h.own K.ne
  have fresh : ∀ {u : Value} {e c m : Nat} {xs : List Value}, W.ownsRow 0 e c u m xs → ∀ g, u.ownBlock = some g → x.ownBlock ≠ some g → x'.ownBlock ≠ some g := by
    intro u e c m xs hu g hgu hne
    rcases hw with e' | e'
    · rw [e']; exact hne
    · rw [e']
      have := (hu.lt g hgu).2
      simp; omega
  have keep : ∀ {u : Value} {e c m : Nat} {xs : List Value}, W.ownsRow 0 e c u m xs → (∀ g, u.ownBlock = some g → x.ownBlock ≠ some g) → W'.ownsRow 0 e c u m xs := by
    intro u e c m xs hu hne
    refine hu.kept hg ?_
    cases hv : u.ownBlock with
    | none => exact .inl rfl
    | some g => exact .inr (fun e => hne g hv e.symm)
  refine ⟨⟨h.longs.held.kept hg h.ap3 (fun j hj => ?_), fun j hj => keep (h.longs.own j hj) (h.ap2 j hj), h.longs.apart, keep h.longs.row hvx, h.longs.off, h.longs.nq⟩, ?_, ?_, ?_, ?_, ?_⟩
  · by_cases e : j = k
    · subst e
      exact .inl (own_told (h.longs.held.own j hj) h.own hold hg)
    · exact .inr (h.ap1 j hj e)
  · rw [marks, ← List.append_assoc]; exact hown
  · intro j' hj' hne g hgv
    exact fresh (h.longs.held.own j' hj') g hgv (h.ap1 j' hj' hne g hgv)
  · intro j hj g hgl
    exact fresh (h.longs.own j hj) g hgl (h.ap2 j hj g hgl)
  · rcases hw with e' | e'
    · rw [e']; exact h.ap3
    · rw [e']; have := h.longs.held.lt; simp; omega
  · intro g hg' hq
    rcases hw with e' | e'
    · rw [e'] at hg'; exact h.nq g hg' hq
    · rw [e'] at hg'
      have := hQ g hq
      have := Option.some.inj hg'
      omega

theorem Grow.put {K : Knd} {Q : Nat → Prop} {N B : Nat} {V : Nat → Value} {n : Nat → Nat} {k : Nat} {v v' : Value} {L : Nat → Value} {x : Value} {W W' : World} (h : Grow K Q N B V n k v L 16 x W) (hk : k < N)
    (hown : W'.ownsRow 0 K.lt 1 v' (k + 1) ((List.range k).map L ++ [x])) (hg : W.grownBy W' v.ownBlock) (hw : v'.ownBlock = v.ownBlock ∨ v'.ownBlock = some W.heap.size) (hQ : ∀ g, Q g → g < W.heap.size) :
    Longs K Q N B V n (k + 1) v' (fun j => if j = k then x else L j) W' := by
  have keep : ∀ {u : Value} {m : Nat} {xs : List Value}, W.ownsRow 0 K.e K.sz u m xs → W'.ownsRow 0 K.e K.sz u m xs := by
    intro u m xs hu
    refine hu.kept hg ?_
    cases hv : u.ownBlock with
    | none => exact .inl rfl
    | some g => exact .inr (fun e => own_types hu h.longs.row (Ne.symm K.ne) g hv e.symm)
  refine ⟨h.longs.held.kept hg h.longs.off (fun j hj => .inl (keep (h.longs.held.own j hj))), ?_, ?_, ?_, ?_, ?_⟩
  · intro j hj
    by_cases e : j = k
    · subst e; simp only [if_true]; exact keep h.own
    · simp only [if_neg e]; exact keep (h.longs.own j (by omega))
  · intro j j' hj hj' hne g hgv
    by_cases e : j = k
    · subst e; simp only [if_true]; exact h.ap1 j' hj' hne g hgv
    · simp only [if_neg e]; exact h.longs.apart j j' (by omega) hj' hne g hgv
  · rw [List.range_succ, List.map_append]
    have e1 : (List.range k).map (fun j => if j = k then x else L j) = (List.range k).map L := by
      apply List.map_congr_left
      intro j hj
      have := List.mem_range.1 hj
      rw [if_neg (by omega)]
    rw [e1]; simpa using hown
  · rcases hw with e' | e'
    · rw [e']; exact h.longs.off
    · rw [e']; have := h.longs.held.lt; simp; omega
  · intro g hg' hq
    rcases hw with e' | e'
    · rw [e'] at hg'; exact h.longs.nq g hg' hq
    · rw [e'] at hg'
      have := hQ g hq
      have := Option.some.inj hg'
      omega

theorem marks_get (K : Knd) (i : Int) (n m j : Nat) (hm : m < n) (hj : j < K.sz) : (marks K i n)[m * K.sz + j]? = (K.mark i m)[j]? := by
  induction n with
  | zero => omega
  | succ n ih =>
    rw [marks]
    have hl := marks_len K i n
    by_cases e : m = n
    · subst e
      rw [List.getElem?_append_right (by omega), hl, show m * K.sz + j - m * K.sz = j by omega]
    · have : m * K.sz + K.sz ≤ n * K.sz := by rw [← Nat.succ_mul]; exact Nat.mul_le_mul_right _ (by omega)
      rw [List.getElem?_append_left (by omega)]
      exact ih (by omega)

/-- The cells of one of a list. -/
def Elm (K : Knd) (W : World) (g m : Nat) (i k : Int) : Prop := ∀ j, j < K.sz → W.cell? ⟨g, m * K.sz + j, none⟩ = (K.mark i k)[j]?
theorem elm_of {K : Knd} {W : World} {g n cap m : Nat} {xs : List Value} {i k : Int} (h : W.ownsRow 0 K.e K.sz (.slice (some ⟨g, 0, none⟩) n cap) n xs) (hm : m < n) (hx : ∀ j, j < K.sz → xs[m * K.sz + j]? = (K.mark i k)[j]?) : Elm K W g m i k := fun j hj => by
  have : m * K.sz + K.sz ≤ n * K.sz := by rw [← Nat.succ_mul]; exact Nat.mul_le_mul_right _ (by omega)
  rw [h.cellAt _ (by omega)]
  exact hx j hj

theorem Longs.below {K : Knd} {Q : Nat → Prop} {N B : Nat} {V : Nat → Value} {n : Nat → Nat} {k : Nat} {v : Value} {L : Nat → Value} {W W' : World} (h : Longs K Q N B V n k v L W) (hb : Below W.heap.size W W') : Longs K Q N B V n k v L W' :=
  ⟨⟨fun j hj => (hb.cell (p := ⟨B, j, none⟩) h.held.lt).trans (h.held.cell j hj), fun j hj => own_below (h.held.own j hj) hb, h.held.apart, h.held.off, Nat.lt_of_lt_of_le h.held.lt hb.size, h.held.nq⟩,
    fun j hj => own_below (h.own j hj) hb, h.apart, own_below h.row hb, h.off, h.nq⟩

/-- What is read of the list k and of the longer one. -/
theorem Longs.reads {K : Knd} {Q : Nat → Prop} {N B : Nat} {V : Nat → Value} {n : Nat → Nat} {v : Value} {L : Nat → Value} {W : World} (h : Longs K Q N B V n N v L W) {k : Nat} (hk : k < N) :
    ∃ h5 c5 gl cl, v = .slice (some ⟨h5, 0, none⟩) N c5 ∧ W.cell? ⟨h5, k, none⟩ = some (.slice (some ⟨gl, 0, none⟩) (n k + 16) cl) ∧ W.cell? ⟨B, k, none⟩ = some (V k) ∧
      (∀ m, m < n k → Elm K W gl m k m) ∧ (∀ q, q < 16 → Elm K W gl (n k + q) (-1 - (k : Int)) q) ∧ (∀ m, m < n k → ∃ g cap, V k = .slice (some ⟨g, 0, none⟩) (n k) cap ∧ Elm K W g m k m) ∧ (∃ ra cap, V k = .slice ra (n k) cap) := by
  have hrow := h.row
  rcases hrow.2 with ⟨_, h0⟩ | ⟨h5, c5, cur5, hv5, _⟩
  · omega
  have hl := h.own k hk
  rcases hl.2 with ⟨_, h0⟩ | ⟨gl, cl, curl, hvl, _⟩
  · omega
  subst hv5
  have hc := hrow.cellAt k (by omega)
  rw [List.getElem?_map, List.getElem?_range hk] at hc
  rw [hvl] at hl
  have hml := marks_len K k (n k)
  refine ⟨h5, c5, gl, cl, rfl, by rw [hc]; simp [hvl], h.held.cell k hk, fun m hm => elm_of hl (by omega) fun j hj => ?_, fun q hq => elm_of hl (by omega) fun j hj => ?_, fun m hm => ?_, ?_⟩
  · have : m * K.sz + K.sz ≤ n k * K.sz := by rw [← Nat.succ_mul]; exact Nat.mul_le_mul_right _ (by omega)
    rw [List.getElem?_append_left (by omega)]; exact marks_get _ _ _ _ _ hm hj
  · have e : (n k + q) * K.sz = n k * K.sz + q * K.sz := Nat.add_mul _ _ _
    rw [List.getElem?_append_right (by omega), hml, show (n k + q) * K.sz + j - n k * K.sz = q * K.sz + j by omega]; exact marks_get _ _ _ _ _ hq hj
  · have ho := h.held.own k hk
    rcases ho.2 with ⟨_, h0⟩ | ⟨g, cap, cur, hv, _⟩
    · omega
    · rw [hv] at ho
      exact ⟨g, cap, hv, elm_of ho hm fun j hj => marks_get _ _ _ _ _ hm hj⟩
  · rcases (h.held.own k hk).2 with ⟨h, h0⟩ | ⟨g, cap, cur, hv, _⟩
    · exact ⟨none, 0, by rw [h, h0]⟩
    · exact ⟨_, cap, hv⟩

theorem Fr.alloc {Q : Nat → Prop} {w w' : World} (h : Fr Q w w') (o : Obj) : Fr Q w (w'.alloc o) := ⟨h.1.alloc (Nat.zero_le _) o, fun g hg hl => (Below.heap_alloc _ _ _ (Nat.lt_of_lt_of_le hl h.1.size)).trans (h.2 g hg hl)⟩
theorem Fr.setCell {Q : Nat → Prop} {w w' : World} (h : Fr Q w w') {g o : Nat} (hg : ¬ Q g) (u : Value) : Fr Q w (w'.setCell ⟨g, o, none⟩ u) := ⟨h.1.setCell (p := ⟨g, o, none⟩) (Nat.zero_le _) u, fun k hk hl => (Below.heap_setCell _ _ _ _ (fun e => hg (by rw [← show k = g from e]; exact hk))).trans (h.2 k hk hl)⟩
theorem Fr.grown {Q : Nat → Prop} {w w' w'' : World} {v : Value} (h : Fr Q w w') (hg : w'.grownBy w'' v.ownBlock) (hn : ∀ g, v.ownBlock = some g → ¬ Q g) : Fr Q w w'' := ⟨h.1.grown hg (Nat.zero_le _) (fun _ _ => Nat.zero_le _), fun g hq hl => (hg.block g (Nat.lt_of_lt_of_le hl h.1.size) (fun e => hn g e.symm hq)).trans (h.2 g hq hl)⟩
theorem cell_one_new (W : World) (a0 : Value) (t : TypeId) (j : Nat) (u : Value) (h : [a0][j]? = some u) : (W.alloc (.cells #[a0] t)).cell? ((⟨W.heap.size, 0, none⟩ : Addr).add j) = some u := by
  rw [ad_add, Nat.zero_add]
  exact new_cell _ #[a0] _ j u h
theorem cell_two_new (W : World) (a0 a1 : Value) (t : TypeId) (j : Nat) (u : Value) (h : [a0, a1][j]? = some u) : (W.alloc (.cells #[a0, a1] t)).cell? ((⟨W.heap.size, 0, none⟩ : Addr).add j) = some u := by
  rw [ad_add, Nat.zero_add]
  exact new_cell _ #[a0, a1] _ j u h
theorem own_slice_one {W : World} {b e c n : Nat} {v : Value} {xs : List Value} (h : W.ownsRow b e c v n xs) : ∀ u ∈ [v], u.oneCell' = true := by
  intro u hu
  obtain rfl : u = v := by simpa using hu
  rcases h.2 with ⟨rfl, _⟩ | ⟨g, cap, cur, rfl, _⟩ <;> rfl
theorem Held.below {K : Knd} {Q : Nat → Prop} {N B : Nat} {V : Nat → Value} {n : Nat → Nat} {W W' : World} {X : Nat → List Value} (h : Held K Q N B V n W X) (hb : Below W.heap.size W W') : Held K Q N B V n W' X :=
  ⟨fun j hj => (hb.cell (p := ⟨B, j, none⟩) h.lt).trans (h.cell j hj), fun j hj => own_below (h.own j hj) hb, h.apart, h.off, Nat.lt_of_lt_of_le h.lt hb.size, h.nq⟩
end Go.Proofs.YtphpkedfcmghmaaDoor
