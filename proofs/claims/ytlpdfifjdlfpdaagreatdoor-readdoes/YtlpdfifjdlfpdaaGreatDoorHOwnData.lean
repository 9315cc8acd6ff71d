/- The book's ownData: over lists that lie apart. -/
import Derived.Test.YtlpdfifjdlfpdaaGreatDoorHFieldN
import Derived.Test.YtlpdfifjdlfpdaaGreatDoorHRefSome
import Derived.Laws.OwnMore
import Derived.Test.YtlpdfifjdlfpdaaGreatDoorGD
import Derived.OneCell
namespace Go.Proofs.YtlpdfifjdlfpdaaGreatDoor
open Go.RowKit

/-- Lists of a book: the values in the cells of block B, each the owner of its row, no two of one block. -/
structure Held (base N B : Nat) (V : Nat → Value) (n : Nat → Nat) (W : World) (X : Nat → List Value) : Prop where
  cell : ∀ j, j < N → W.cell? ⟨B, j, none⟩ = some (V j)
  own : ∀ j, j < N → W.ownsRow base 58 5 (V j) (n j) (X j)
  apart : ∀ j j', j < N → j' < N → j ≠ j' → ∀ g, (V j).ownBlock = some g → (V j').ownBlock ≠ some g
  off : ∀ j, j < N → (V j).ownBlock ≠ some B
  lt : B < W.heap.size

def mk5 (i k : Int) : List Value := [.int .u8 0, .int .i64 (i * 1000 + k), .string ⟨#[]⟩, .slice none 0 0, .bool false]
def marks (i : Int) : Nat → List Value
  | 0 => []
  | m + 1 => marks i m ++ mk5 i m
theorem marks_len (i : Int) (m : Nat) : (marks i m).length = m * 5 := by
  induction m with
  | zero => rfl
  | succ m ih => rw [marks, List.length_append, ih]; simp [mk5]; omega

theorem set5 (a r : List Value) (i k : Int) (h : 5 ≤ r.length) :
    (((((a ++ r).set a.length (.int .u8 0)).set (a.length + 1) (.int .i64 (i * 1000 + k))).set (a.length + 2) (.string ⟨#[]⟩)).set (a.length + 3) (.slice none 0 0)).set (a.length + 4) (.bool false) = (a ++ mk5 i k) ++ r.drop 5 := by
  match r, h with
  | x0 :: x1 :: x2 :: x3 :: x4 :: r, _ => simp [mk5]

/-- A store into one list's row. -/
theorem Held.stored {base N B : Nat} {V : Nat → Value} {n : Nat → Nat} {W : World} {X : Nat → List Value} (h : Held base N B V n W X) {j g cap : Nat} (hj : j < N) (hv : V j = .slice (some ⟨g, 0, none⟩) (n j) cap) (o : Nat) (u : Value) :
    Held base N B V n (W.setCell ⟨g, o, none⟩ u) (fun i => if i = j then (X j).set o u else X i) := by
  have hg : (V j).ownBlock = some g := by rw [hv]; rfl
  have hne : g ≠ B := fun e => h.off j hj (e ▸ hg)
  refine ⟨fun i hi => ?_, fun i hi => ?_, h.apart, h.off, ?_⟩
  · have e := Below.heap_setCell W ⟨g, o, none⟩ u B (fun e => hne e.symm)
    have := h.cell i hi
    simp only [World.cell?] at this ⊢
    rw [e]; exact this
  · by_cases e : i = j
    · subst e
      rw [if_pos rfl, hv]
      have := h.own i hi
      rw [hv] at this
      exact (this.stored o u).1
    · rw [if_neg e]
      exact ownsRow_setCell_other (h.own i hi) (h.apart j i hj hi (fun e' => e e'.symm) g hg) u
  · rw [World.size_setCell]; exact h.lt

theorem Held.at {base N B : Nat} {V : Nat → Value} {n : Nat → Nat} {W : World} {X : Nat → List Value} (h : Held base N B V n W X) {j g cap : Nat} (hj : j < N) (hv : V j = .slice (some ⟨g, 0, none⟩) (n j) cap) (o : Nat) (ho : o < n j * 5) :
    (∃ u, W.cell? ⟨g, o, none⟩ = some u) ∧ W.frozen? ⟨g, o, none⟩ = false := by
  have := h.own j hj
  rw [hv] at this
  refine ⟨?_, this.frozenAt o⟩
  rw [this.cellAt o ho]
  have hl := this.1
  exact ⟨_, List.getElem?_eq_getElem (by omega)⟩

/-- A whole datum stored. -/
theorem Held.stored5 {base N B : Nat} {V : Nat → Value} {n : Nat → Nat} {W : World} {X : Nat → List Value} (h : Held base N B V n W X) {j g cap m : Nat} (hj : j < N) (hv : V j = .slice (some ⟨g, 0, none⟩) (n j) cap) (hm : m < n j)
    (i : Int) (r : List Value) (hx : X j = marks i m ++ r) :
    ∃ Z, Held base N B V n (((((W.setCell ⟨g, m * 5, none⟩ (.int .u8 0)).setCell ⟨g, m * 5 + 1, none⟩ (.int .i64 (i * 1000 + m))).setCell ⟨g, m * 5 + 2, none⟩ (.string ⟨#[]⟩)).setCell ⟨g, m * 5 + 3, none⟩ (.slice none 0 0)).setCell ⟨g, m * 5 + 4, none⟩ (.bool false)) Z ∧
      (∀ j', j' ≠ j → Z j' = X j') ∧ Z j = marks i (m + 1) ++ r.drop 5 := by
  have hl : (X j).length = n j * 5 := (h.own j hj).1
  have hml := marks_len i m
  have hr : 5 ≤ r.length := by rw [hx, List.length_append, hml] at hl; omega
  have h5 := ((((h.stored hj hv (m * 5) (.int .u8 0)).stored hj hv (m * 5 + 1) (.int .i64 (i * 1000 + m))).stored hj hv (m * 5 + 2) (.string ⟨#[]⟩)).stored hj hv (m * 5 + 3) (.slice none 0 0)).stored hj hv (m * 5 + 4) (.bool false)
  refine ⟨_, h5, fun j' hj' => by simp [hj'], ?_⟩
  simp only [if_true]
  rw [hx, ← hml]
  exact set5 _ _ _ _ hr

theorem Held.congr {base N B : Nat} {V : Nat → Value} {n : Nat → Nat} {W : World} {X Y : Nat → List Value} (h : Held base N B V n W X) (e : ∀ j, j < N → X j = Y j) : Held base N B V n W Y :=
  ⟨h.cell, fun j hj => e j hj ▸ h.own j hj, h.apart, h.off, h.lt⟩
/-- Where one block turns: it is none of the lists', or the one list's in it still reads its row. -/
theorem Held.kept {base N B : Nat} {V : Nat → Value} {n : Nat → Nat} {W W' : World} {X : Nat → List Value} {row : Option Nat} (h : Held base N B V n W X) (hg : W.grownBy W' row) (hB : row ≠ some B)
    (hr : ∀ j, j < N → W'.ownsRow base 58 5 (V j) (n j) (X j) ∨ ∀ g, (V j).ownBlock = some g → row ≠ some g) : Held base N B V n W' X := by
  refine ⟨fun j hj => ?_, fun j hj => ?_, h.apart, h.off, Nat.lt_of_lt_of_le h.lt hg.size⟩
  · have e := hg.block B h.lt (fun e => hB e.symm)
    have := h.cell j hj
    simp only [World.cell?] at this ⊢
    rw [e]; exact this
  · rcases hr j hj with h' | h'
    · exact h'
    · refine (h.own j hj).kept hg ?_
      cases hv : (V j).ownBlock with
      | none => exact .inl rfl
      | some g => exact .inr (fun e => h' g hv e.symm)
theorem Held.alloc {base N B : Nat} {V : Nat → Value} {n : Nat → Nat} {W : World} {X : Nat → List Value} (h : Held base N B V n W X) (o : Obj) : Held base N B V n (W.alloc o) X :=
  h.kept (World.grownBy_alloc W o none) (by simp) (fun j _ => .inr (fun g _ => by simp))

/-- Rows of two kinds lie in two blocks. -/
theorem own_types {W : World} {b b' e e' c c' n n' : Nat} {v v' : Value} {xs xs' : List Value} (h : W.ownsRow b e c v n xs) (h' : W.ownsRow b' e' c' v' n' xs') (hne : e ≠ e') : ∀ g, v.ownBlock = some g → v'.ownBlock ≠ some g := by
  intro g hg hg'
  rcases h.2 with ⟨rfl, _⟩ | ⟨g1, _, _, rfl, _, hh, _⟩
  · simp [Value.ownBlock] at hg
  rcases h'.2 with ⟨rfl, _⟩ | ⟨g2, _, _, rfl, _, hh', _⟩
  · simp [Value.ownBlock] at hg'
  simp only [Value.ownBlock, Option.some.injEq] at hg hg'
  subst hg hg'
  rw [hh] at hh'
  cases hh'
  exact hne rfl

/-- The lists, and those of them that have been made longer, in a list of their own. -/
structure Longs (base N B : Nat) (V : Nat → Value) (n : Nat → Nat) (k : Nat) (v : Value) (L : Nat → Value) (W : World) : Prop where
  held : Held base N B V n W (fun j => marks j (n j))
  own : ∀ j, j < k → W.ownsRow base 58 5 (L j) (n j + 16) (marks j (n j) ++ marks (-1 - (j : Int)) 16)
  apart : ∀ j j', j < k → j' < N → j' ≠ j → ∀ g, (V j').ownBlock = some g → (L j).ownBlock ≠ some g
  row : W.ownsRow base 23 1 v k ((List.range k).map L)
  off : v.ownBlock ≠ some B

/-- .. and one that is being made longer. -/
structure Grow (base N B : Nat) (V : Nat → Value) (n : Nat → Nat) (k : Nat) (v : Value) (L : Nat → Value) (q : Nat) (x : Value) (W : World) : Prop where
  longs : Longs base N B V n k v L W
  own : W.ownsRow base 58 5 x (n k + q) (marks k (n k) ++ marks (-1 - (k : Int)) q)
  ap1 : ∀ j', j' < N → j' ≠ k → ∀ g, (V j').ownBlock = some g → x.ownBlock ≠ some g
  ap2 : ∀ j, j < k → ∀ g, (L j).ownBlock = some g → x.ownBlock ≠ some g
  ap3 : x.ownBlock ≠ some B

theorem Longs.alloc {base N B : Nat} {V : Nat → Value} {n : Nat → Nat} {k : Nat} {v : Value} {L : Nat → Value} {W : World} (h : Longs base N B V n k v L W) (o : Obj) : Longs base N B V n k v L (W.alloc o) :=
  ⟨h.held.alloc o, fun j hj => (h.own j hj).alloc o, h.apart, h.row.alloc o, h.off⟩
theorem Grow.alloc {base N B : Nat} {V : Nat → Value} {n : Nat → Nat} {k : Nat} {v : Value} {L : Nat → Value} {q : Nat} {x : Value} {W : World} (h : Grow base N B V n k v L q x W) (o : Obj) : Grow base N B V n k v L q x (W.alloc o) :=
  ⟨h.longs.alloc o, h.own.alloc o, h.ap1, h.ap2, h.ap3⟩

theorem Grow.start {base N B : Nat} {V : Nat → Value} {n : Nat → Nat} {k : Nat} {v : Value} {L : Nat → Value} {W : World} (h : Longs base N B V n k v L W) (hk : k < N) : Grow base N B V n k v L 0 (V k) W :=
  ⟨h, by simpa [marks] using h.held.own k hk, fun j' hj' hne g hg hg' => h.held.apart j' k hj' hk hne g hg hg',
    fun j hj g hg hg' => h.apart j k hj hk (by omega) g hg' hg, h.held.off k hk⟩

theorem Grow.step {base N B : Nat} {V : Nat → Value} {n : Nat → Nat} {k : Nat} {v : Value} {L : Nat → Value} {q : Nat} {x x' : Value} {W W' : World} (h : Grow base N B V n k v L q x W) (hk : k < N)
    (hown : W'.ownsRow base 58 5 x' (n k + q + 1) (marks k (n k) ++ marks (-1 - (k : Int)) q ++ mk5 (-1 - (k : Int)) q)) (hg : W.grownBy W' x.ownBlock)
    (hold : W'.ownsRow base 58 5 x (n k + q) (marks k (n k) ++ marks (-1 - (k : Int)) q)) (hw : x'.ownBlock = x.ownBlock ∨ x'.ownBlock = some W.heap.size) : Grow base N B V n k v L (q + 1) x' W' := by
  have hvx : ∀ g, v.ownBlock = some g → x.ownBlock ≠ some g := own_types h.longs.row h.own (by decide)
  have fresh : ∀ {u : Value} {e c m : Nat} {xs : List Value}, W.ownsRow base e c u m xs → ∀ g, u.ownBlock = some g → x.ownBlock ≠ some g → x'.ownBlock ≠ some g := by
    intro u e c m xs hu g hgu hne
    rcases hw with e' | e'
    · rw [e']; exact hne
    · rw [e']
      have := (hu.lt g hgu).2
      simp; omega
  have keep : ∀ {u : Value} {e c m : Nat} {xs : List Value}, W.ownsRow base e c u m xs → (∀ g, u.ownBlock = some g → x.ownBlock ≠ some g) → W'.ownsRow base e c u m xs := by
    intro u e c m xs hu hne
    refine hu.kept hg ?_
    cases hv : u.ownBlock with
    | none => exact .inl rfl
    | some g => exact .inr (fun e => hne g hv e.symm)
  refine ⟨⟨h.longs.held.kept hg h.ap3 (fun j hj => ?_), fun j hj => keep (h.longs.own j hj) (h.ap2 j hj), h.longs.apart, keep h.longs.row hvx, h.longs.off⟩, ?_, ?_, ?_, ?_⟩
  · by_cases e : j = k
    · subst e
      exact .inl (own_told (h.longs.held.own j hj) h.own hold hg)
    · exact .inr (h.ap1 j hj e)
  · rw [marks, ← List.append_assoc]; exact hown
  · intro j' hj' hne g hgv
    exact fresh (h.longs.held.own j' hj') g hgv (h.ap1 j' hj' hne g hgv)
  · intro j hj g hgl
    exact fresh (h.longs.own j hj) g hgl (h.ap2 j hj g hgl)
  · rcases hw with e' | e'
    · rw [e']; exact h.ap3
    · rw [e']; have := h.longs.held.lt; simp; omega

theorem Grow.put {base N B : Nat} {V : Nat → Value} {n : Nat → Nat} {k : Nat} {v v' : Value} {L : Nat → Value} {x : Value} {W W' : World} (h : Grow base N B V n k v L 16 x W) (hk : k < N)
    (hown : W'.ownsRow base 23 1 v' (k + 1) ((List.range k).map L ++ [x])) (hg : W.grownBy W' v.ownBlock) (hw : v'.ownBlock = v.ownBlock ∨ v'.ownBlock = some W.heap.size) :
    Longs base N B V n (k + 1) v' (fun j => if j = k then x else L j) W' := by
  have keep : ∀ {u : Value} {m : Nat} {xs : List Value}, W.ownsRow base 58 5 u m xs → W'.ownsRow base 58 5 u m xs := by
    intro u m xs hu
    refine hu.kept hg ?_
    cases hv : u.ownBlock with
    | none => exact .inl rfl
    | some g => exact .inr (fun e => own_types hu h.longs.row (by decide) g hv e.symm)
  refine ⟨h.longs.held.kept hg h.longs.off (fun j hj => .inl (keep (h.longs.held.own j hj))), ?_, ?_, ?_, ?_⟩
  · intro j hj
    by_cases e : j = k
    · subst e; simp only [if_true]; exact keep h.own
    · simp only [if_neg e]; exact keep (h.longs.own j (by omega))
  · intro j j' hj hj' hne g hgv
    by_cases e : j = k
    · subst e; simp only [if_true]; exact h.ap1 j' hj' hne g hgv
    · simp only [if_neg e]; exact h.longs.apart j j' (by omega) hj' hne g hgv
  · rw [List.range_succ, List.map_append]
    have e1 : (List.range k).map (fun j => if j = k then x else L j) = (List.range k).map L := by
      apply List.map_congr_left
      intro j hj
      have := List.mem_range.1 hj
      rw [if_neg (by omega)]
    rw [e1]; simpa using hown
  · rcases hw with e' | e'
    · rw [e']; exact h.longs.off
    · rw [e']; have := h.longs.held.lt; simp; omega

theorem marks_get (i : Int) (n m j : Nat) (hm : m < n) (hj : j < 5) : (marks i n)[m * 5 + j]? = (mk5 i m)[j]? := by
  induction n with
  | zero => omega
  | succ n ih =>
    rw [marks]
    have hl := marks_len i n
    by_cases e : m = n
    · subst e
      rw [List.getElem?_append_right (by omega), hl, show m * 5 + j - m * 5 = j by omega]
    · rw [List.getElem?_append_left (by omega)]
      exact ih (by omega)

/-- The number of a datum. -/
def Nu (W : World) (g m : Nat) (i k : Int) : Prop := W.cell? ⟨g, m * 5 + 1, none⟩ = some (.int .i64 (i * 1000 + k))
theorem nu_of {W : World} {base g n cap m : Nat} {xs : List Value} {i k : Int} (h : W.ownsRow base 58 5 (.slice (some ⟨g, 0, none⟩) n cap) n xs) (hm : m < n) (hx : ∀ j, j < 5 → xs[m * 5 + j]? = (mk5 i k)[j]?) : Nu W g m i k := by
  show W.cell? _ = _
  rw [h.cellAt _ (by omega)]; exact hx 1 (by decide)

theorem Longs.below {base N B : Nat} {V : Nat → Value} {n : Nat → Nat} {k : Nat} {v : Value} {L : Nat → Value} {W W' : World} (h : Longs base N B V n k v L W) (hb : Below W.heap.size W W') : Longs base N B V n k v L W' :=
  ⟨⟨fun j hj => (hb.cell (p := ⟨B, j, none⟩) h.held.lt).trans (h.held.cell j hj), fun j hj => own_below (h.held.own j hj) hb, h.held.apart, h.held.off, Nat.lt_of_lt_of_le h.held.lt hb.size⟩,
    fun j hj => own_below (h.own j hj) hb, h.apart, own_below h.row hb, h.off⟩

/-- What is read of the list k and of the longer one. -/
theorem Longs.reads {base N B : Nat} {V : Nat → Value} {n : Nat → Nat} {v : Value} {L : Nat → Value} {W : World} (h : Longs base N B V n N v L W) {k : Nat} (hk : k < N) :
    ∃ h5 c5 gl cl, v = .slice (some ⟨h5, 0, none⟩) N c5 ∧ W.cell? ⟨h5, k, none⟩ = some (.slice (some ⟨gl, 0, none⟩) (n k + 16) cl) ∧ W.cell? ⟨B, k, none⟩ = some (V k) ∧
      (∀ m, m < n k → Nu W gl m k m) ∧ (∀ q, q < 16 → Nu W gl (n k + q) (-1 - (k : Int)) q) ∧ (∀ m, m < n k → ∃ g cap, V k = .slice (some ⟨g, 0, none⟩) (n k) cap ∧ Nu W g m k m) ∧ (∃ ra cap, V k = .slice ra (n k) cap) := by
  have hrow := h.row
  rcases hrow.2 with ⟨_, h0⟩ | ⟨h5, c5, cur5, hv5, _⟩
  · omega
  have hl := h.own k hk
  rcases hl.2 with ⟨_, h0⟩ | ⟨gl, cl, curl, hvl, _⟩
  · omega
  subst hv5
  have hc := hrow.cellAt k (by omega)
  rw [List.getElem?_map, List.getElem?_range hk] at hc
  rw [hvl] at hl
  have hml := marks_len k (n k)
  refine ⟨h5, c5, gl, cl, rfl, by rw [hc]; simp [hvl], h.held.cell k hk, fun m hm => nu_of hl (by omega) fun j hj => ?_, fun q hq => nu_of hl (by omega) fun j hj => ?_, fun m hm => ?_, ?_⟩
  · rw [List.getElem?_append_left (by omega)]; exact marks_get _ _ _ _ hm hj
  · rw [List.getElem?_append_right (by omega), hml, show (n k + q) * 5 + j - n k * 5 = q * 5 + j by omega]; exact marks_get _ _ _ _ hq hj
  · have ho := h.held.own k hk
    rcases ho.2 with ⟨_, h0⟩ | ⟨g, cap, cur, hv, _⟩
    · omega
    · rw [hv] at ho
      exact ⟨g, cap, hv, nu_of ho hm fun j hj => marks_get _ _ _ _ hm hj⟩
  · rcases (h.held.own k hk).2 with ⟨h, h0⟩ | ⟨g, cap, cur, hv, _⟩
    · exact ⟨none, 0, by rw [h, h0]⟩
    · exact ⟨_, cap, hv⟩

theorem mk5_one (i k : Int) : ∀ u ∈ mk5 i k, u.oneCell' = true := by
  intro u hu
  simp only [mk5, List.mem_cons, List.not_mem_nil, or_false] at hu
  rcases hu with rfl | rfl | rfl | rfl | rfl <;> rfl
theorem infoDats : (Tryz.prog.info? 23).map (fun i => (i.zero, i.size, i.bytes)) = some (some (.slice none 0 0), 1, 24) := by kernel_rfl
theorem cell_one_new (W : World) (a0 : Value) (t : TypeId) (j : Nat) (u : Value) (h : [a0][j]? = some u) : (W.alloc (.cells #[a0] t)).cell? ((⟨W.heap.size, 0, none⟩ : Addr).add j) = some u := by
  have hn := World.alloc_heap_new W (.cells #[a0] t)
  have e : ((⟨W.heap.size, 0, none⟩ : Addr).add j) = ⟨W.heap.size, j, none⟩ := by simp [Addr.add]; exact fun h => h.symm
  rw [e]
  simp only [World.cell?, hn]
  simpa using h
theorem own_slice_one {W : World} {b e c n : Nat} {v : Value} {xs : List Value} (h : W.ownsRow b e c v n xs) : ∀ u ∈ [v], u.oneCell' = true := by
  intro u hu
  obtain rfl : u = v := by simpa using hu
  rcases h.2 with ⟨rfl, _⟩ | ⟨g, cap, cur, rfl, _⟩ <;> rfl

/-- Nothing below base turns, and nothing that is no cells. -/
structure BK (base : Nat) (w w' : World) : Prop where
  below : Below base w w'
  others : KeepsOthers w w'
theorem BK.refl (base : Nat) (w : World) : BK base w w := ⟨Below.refl _ _, KeepsOthers.refl _⟩
theorem BK.alloc {base : Nat} {w w' : World} (h : BK base w w') (hB : base ≤ w'.heap.size) (o : Obj) : BK base w (w'.alloc o) := ⟨h.below.alloc hB o, h.others.trans (KeepsOthers.alloc _ _)⟩
theorem BK.setCell {base : Nat} {w w' : World} (h : BK base w w') {p : Addr} (hp : base ≤ p.block) (u : Value) : BK base w (w'.setCell p u) := ⟨h.below.setCell hp u, h.others.trans (KeepsOthers.setCell _ _ _)⟩
theorem own_isCells {W : World} {b e c n : Nat} {v : Value} {xs : List Value} (h : W.ownsRow b e c v n xs) (g : Nat) (o : Obj) (hg : v.ownBlock = some g) (ho : W.heap[g]? = some o) : o.isCells = true := by
  rcases h.2 with ⟨rfl, _⟩ | ⟨g', cap, cur, rfl, _, hh, _⟩
  · simp [Value.ownBlock] at hg
  · obtain rfl : g' = g := by simpa [Value.ownBlock] using hg
    rw [hh] at ho; cases ho; rfl
theorem BK.grown {base : Nat} {w w' w'' : World} {v : Value} {e c n : Nat} {xs : List Value} (h : BK base w w') (ho : w'.ownsRow base e c v n xs) (hg : w'.grownBy w'' v.ownBlock) (hB : base ≤ w'.heap.size) : BK base w w'' :=
  ⟨h.below.grown hg hB (fun g hv => (ho.lt g hv).1), h.others.trans (KeepsOthers.of_grownBy hg (own_isCells ho))⟩
theorem KeepsOthers.of_below {w w' : World} (h : Below w.heap.size w w') : KeepsOthers w w' := ⟨h.size, fun k _ hk _ => (h.block k (Array.getElem?_eq_some_iff.1 hk).1).trans hk⟩

set_option maxRecDepth 100000 in
set_option maxHeartbeats 4000000 in
theorem ownData_any (base N B capB : Nat) (V : Nat → Value) (n : Nat → Nat) (X : Nat → List Value) (w : World) (hN : N ≤ 1000000) (hB : base ≤ B) (hn : ∀ j, j < N → n j ≤ 1000000) (H0 : Held base N B V n w X) :
    Calls Tryz.prog 42 #[.slice (some ⟨B, 0, none⟩) N capB] w fun e w' => e = .returned (.bool true) ∧ BK base w w' := by
  have HH : Hid (Held base N B V n w X) := H0
  clear H0
  have Hn : Hid (∀ j, j < N → n j ≤ 1000000) := hn
  clear hn
  obtain ⟨i0, hi, hz0, hz1, hz2⟩ := info_parts infoDat
  obtain ⟨i3, hi3, hy0, hy1, hy2⟩ := info_parts infoDats
  go_enter Tryz.func42, Tryz.ntmps42
  go_wp2
  go_loopw [3] (fun i wr => ∃ (k : Nat) (Y : Nat → List Value), k ≤ N ∧ i = .int .i64 k ∧ Hid (Held base N B V n wr Y) ∧ Hid (∀ j, j < k → Y j = marks j (n j)) ∧ Hid (BK base w wr)) (fun i _ => N - (intOf i).toNat)
  case atStart => exact ⟨0, X, Nat.zero_le _, rfl, HH, fun j h => absurd h (Nat.not_lt_zero _), BK.refl _ _⟩
  case round =>
    obtain ⟨k, Y, hk, rfl, HY, HM, HB⟩ := hrel
    by_cases hlt : k < N
    · have i1 : (k : Int) < (N : Int) := by omega
      have hnk : n k ≤ 1000000 := Hn.out k hlt
      go_wp2
      go_loopw [4] (fun i wr => ∃ (m : Nat) (Z : Nat → List Value), m ≤ n k ∧ i = .int .i64 m ∧ Hid (Held base N B V n wr Z) ∧ Hid (∀ j, j < k → Z j = marks j (n j)) ∧ Hid (Z k = marks k m ++ (Y k).drop (m * 5)) ∧ Hid (BK base w wr)) (fun i _ => n k - (intOf i).toNat)
      case atStart => exact ⟨0, Y, Nat.zero_le _, rfl, HY, HM, by show _ = _; simp [marks], HB⟩
      case round =>
        obtain ⟨m, Z, hm, rfl, HZ, HZM, HZk, HZB⟩ := hrel
        have hc := HZ.out.cell k hlt
        by_cases hml : m < n k
        · obtain ⟨g, cap, hv⟩ : ∃ g cap, V k = .slice (some ⟨g, 0, none⟩) (n k) cap := by
            rcases (HZ.out.own k hlt).2 with ⟨_, h0⟩ | ⟨g, cap, cur, hv, _⟩
            · omega
            · exact ⟨g, cap, hv⟩
          rw [hv] at hc
          have hv' : Hid _ := hv
          clear hv
          have i2 : (m : Int) < (n k : Int) := by omega
          have h0 := HZ.out
          have h1 := h0.stored hlt hv'.out (m * 5) (.int .u8 0)
          have h2 := h1.stored hlt hv'.out (m * 5 + 1) (.int .i64 ((k : Int) * 1000 + m))
          have h3 := h2.stored hlt hv'.out (m * 5 + 2) (.string ⟨#[]⟩)
          have h4 := h3.stored hlt hv'.out (m * 5 + 3) (.slice none 0 0)
          obtain ⟨⟨c0, hc0⟩, hf0⟩ := h0.at hlt hv'.out (m * 5) (by omega)
          obtain ⟨⟨c1, hc1⟩, hf1⟩ := h1.at hlt hv'.out (m * 5 + 1) (by omega)
          obtain ⟨⟨c2, hc2⟩, hf2⟩ := h2.at hlt hv'.out (m * 5 + 2) (by omega)
          obtain ⟨⟨c3, hc3⟩, hf3⟩ := h3.at hlt hv'.out (m * 5 + 3) (by omega)
          obtain ⟨⟨c4, hc4⟩, hf4⟩ := h4.at hlt hv'.out (m * 5 + 4) (by omega)
          obtain ⟨Z', hZ', hZo, hZk'⟩ := h0.stored5 hlt hv'.out hml k _ HZk.out
          have HZ' : Hid _ := hZ'
          have HZo : Hid _ := hZo
          have HZk' : Hid _ := hZk'
          have hgb : Hid (base ≤ g) := ((h0.own k hlt).lt g (by rw [hv'.out]; rfl)).1
          clear h0 h1 h2 h3 h4 hZ' hZo hZk'
          go_wp2_with fail
          case roundEnd =>
          refine ⟨⟨m + 1, Z', by omega, by go_num, HZ', ?_, ?_, ?_⟩, ?_⟩
          · intro j hj; rw [HZo.out j (by omega)]; exact HZM.out j hj
          · show _ = _; rw [HZk'.out, List.drop_drop]; congr 2; omega
          · exact ((((HZB.out.setCell (p := ⟨g, m * 5, none⟩) hgb.out _).setCell (p := ⟨g, m * 5 + 1, none⟩) hgb.out _).setCell (p := ⟨g, m * 5 + 2, none⟩) hgb.out _).setCell (p := ⟨g, m * 5 + 3, none⟩) hgb.out _).setCell (p := ⟨g, m * 5 + 4, none⟩) hgb.out _
          · simp [intOf]; omega
        · obtain ⟨ra, cap, hv⟩ : ∃ ra cap, V k = .slice ra (n k) cap := by
            rcases (HZ.out.own k hlt).2 with ⟨h, h0⟩ | ⟨g, cap, cur, hv, _⟩
            · exact ⟨none, 0, by rw [h, h0]⟩
            · exact ⟨_, cap, hv⟩
          rw [hv] at hc
          have hmn : m = n k := by omega
          go_wp2_with fail
          go_roundw
          case rel =>
            refine ⟨k + 1, Z, by omega, by go_num, HZ, ?_, HZB⟩
            intro j hj
            by_cases e : j = k
            · subst e
              have hl : (Y j).length = n j * 5 := (HY.out.own j hlt).1
              rw [HZk.out, hmn, List.drop_of_length_le (by omega), List.append_nil]
            · exact HZM.out j (by omega)
          case measure => simp [intOf]; omega
    · have HL0 : Hid (Longs base N B V n 0 (.slice none 0 0) V wr) := ⟨HY.out.congr (fun j hj => HM.out j (by omega)), fun j hj => absurd hj (Nat.not_lt_zero _), fun j _ hj => absurd hj (Nat.not_lt_zero _), World.ownsRow_nil _ _ _ _, by simp [Value.ownBlock]⟩
      clear HY HM
      go_wp2
      go_loopw [5, 6] (fun v i wr => ∃ (k : Nat) (L : Nat → Value), k ≤ N ∧ i = .int .i64 k ∧ Hid (Longs base N B V n k v L wr) ∧ Hid (BK base w wr)) (fun _ i _ => N - (intOf i).toNat)
      case atStart => exact ⟨0, V, Nat.zero_le _, rfl, HL0, HB⟩
      case round =>
        obtain ⟨k, L, hk, rfl, HL, HLB⟩ := hrel
        by_cases hlt2 : k < N
        · have i1 : (k : Int) < (N : Int) := by omega
          have hc := HL.out.held.cell k hlt2
          have hnk : n k ≤ 1000000 := Hn.out k hlt2
          go_wp2
          go_loopw [7, 8] (fun x i wr => ∃ q : Nat, q ≤ 16 ∧ i = .int .i64 q ∧ Hid (Grow base N B V n k u5 L q x wr) ∧ Hid (BK base w wr)) (fun _ i _ => 16 - (intOf i).toNat)
          case atStart => exact ⟨0, Nat.zero_le _, rfl, Grow.start HL.out hlt2, HLB⟩
          case round =>
            obtain ⟨q, hq, rfl, HG, HGB⟩ := hrel
            have hbs : Hid (base ≤ wr.heap.size) := by show base ≤ _; have := HG.out.longs.held.lt; omega
            by_cases hlq : q < 16
            · have i3 : (q : Int) < 16 := by omega
              go_wp2_with (at_builtin; refine wpList_append_told _ rfl _ _ 23 rfl base 58 i0 (.agg #[.int .u8 0, .int .i64 0, .string ⟨#[]⟩, .slice none 0 0, .bool false]) 5 64 Tryz.underlying23 hi hz0 hz1 hz2 rfl (by decide) u7 (n k + q) (marks k (n k) ++ marks (-1 - (k : Int)) q) rfl (HG.out.own.alloc _) _ 1 1 (mk5 (-1 - (k : Int)) q) rfl rfl (cell_five_new _ _ _ _ _ _ _) (mk5_one _ _) (by unfold maxLen; omega) (by omega) (by have := hbs.out; simp; omega) (by decide) ?_; intro v1 w1 hown1 hgrow1 hold1 hw1)
              have hG1 := (HG.out.alloc _).step hlt2 hown1 hgrow1 hold1 hw1
              have hB1 : BK base w w1 := (HGB.out.alloc hbs.out _).grown (HG.out.own.alloc _) hgrow1 (by have := hbs.out; simp; omega)
              go_roundw
              case rel => exact ⟨q + 1, by omega, by go_num, hG1, hB1⟩
              case measure => simp [intOf]; omega
            · obtain rfl : q = 16 := by omega
              obtain ⟨g7, c7, rfl⟩ : ∃ g7 c7, u7 = .slice (some ⟨g7, 0, none⟩) (n k + 16) c7 := by
                rcases HG.out.own.2 with ⟨_, h0⟩ | ⟨g, cap, cur, hv, _⟩
                · omega
                · exact ⟨g, cap, hv⟩
              go_wp2_with (at_builtin; refine wpList_append_told _ rfl _ _ 40 rfl base 23 i3 (.slice none 0 0) 1 24 Tryz.underlying40 hi3 hy0 hy1 hy2 rfl (by decide) u5 k ((List.range k).map L) rfl (HG.out.longs.row.alloc _) _ 1 1 [.slice (some ⟨g7, 0, none⟩) (n k + 16) c7] rfl rfl (cell_one_new _ _ _) (own_slice_one HG.out.own) (by unfold maxLen; omega) (by omega) (by have := hbs.out; simp; omega) (by decide) ?_; intro v1 w1 hown1 hgrow1 hold1 hw1)
              have hG1 := (HG.out.alloc _).put hlt2 hown1 hgrow1 hw1
              go_roundw
              case rel =>
                refine ⟨k + 1, _, by omega, by go_num, hG1, ?_⟩
                exact (HGB.out.alloc hbs.out _).grown (HG.out.longs.row.alloc _) hgrow1 (by have := hbs.out; simp; omega)
              case measure => simp [intOf]; omega
        · obtain rfl : k = N := by omega
          clear hlt2
          go_wp2
          go_loopw [9] (fun i wr => ∃ c : Nat, c ≤ k ∧ i = .int .i64 c ∧ Hid (Longs base k B V n k u5 L wr) ∧ Hid (BK base w wr)) (fun i _ => k - (intOf i).toNat)
          case atStart => exact ⟨0, Nat.zero_le _, rfl, HL, HLB⟩
          case round =>
            obtain ⟨c, hcN, rfl, HC, HCB⟩ := hrel
            by_cases hlc : c < k
            · have i1 : (c : Int) < (k : Int) := by omega
              have hnc : n c ≤ 1000000 := Hn.out c hlc
              obtain ⟨h5, c5, gl, cl, hv5, _, hcV, _, _, _, ra, cap, hVc⟩ := HC.out.reads hlc
              subst hv5
              rw [hVc] at hcV
              go_wp2
              go_loopw [11] (fun i wr => ∃ m : Nat, m ≤ n c ∧ i = .int .i64 m ∧ Hid (Longs base k B V n k (.slice (some ⟨h5, 0, none⟩) k c5) L wr) ∧ Hid (BK base w wr)) (fun i _ => n c - (intOf i).toNat)
              case atStart => exact ⟨0, Nat.zero_le _, rfl, HC, HCB⟩
              case round =>
                obtain ⟨m, hm, rfl, HM, HMB⟩ := hrel
                by_cases hlm : m < n c
                · have i2 : (m : Int) < (n c : Int) := by omega
                  obtain ⟨h5', c5', gl', cl', hv5', hcl, hcV', f1, _, f3, _⟩ := HM.out.reads hlc
                  cases hv5'
                  obtain ⟨g, cap', hVc', a1⟩ := f3 m hlm
                  have b1 := f1 m hlm
                  unfold Nu at a1 b1
                  have hq := fun wx => field_n 0 ((c : Int) * 1000 + m) (.string ⟨#[]⟩) (.slice none 0 0) (.bool false) wx
                  rw [hVc'] at hcV'
                  clear f1 f3 hcV hVc
                  have i4 : (m : Int) < (n c : Int) + 16 := by omega
                  go_wp2_with fail
                  case roundEnd => exact ⟨⟨m + 1, by omega, by go_num, HM, HMB⟩, by simp [intOf]; omega⟩
                · go_wp2
                  go_loopw [12] (fun i wr => ∃ q : Nat, q ≤ 16 ∧ i = .int .i64 q ∧ Hid (Longs base k B V n k (.slice (some ⟨h5, 0, none⟩) k c5) L wr) ∧ Hid (BK base w wr)) (fun i _ => 16 - (intOf i).toNat)
                  case atStart => exact ⟨0, Nat.zero_le _, rfl, HM, HMB⟩
                  case round =>
                    obtain ⟨q, hq16, rfl, HQ, HQB⟩ := hrel
                    by_cases hlq : q < 16
                    · have i3 : (q : Int) < 16 := by omega
                      obtain ⟨h5', c5', gl', cl', hv5', hcl, _, _, f2, _, _⟩ := HQ.out.reads hlc
                      cases hv5'
                      have b1 := f2 q hlq
                      unfold Nu at b1
                      have hq := fun wx => field_n 0 ((-1 - (c : Int)) * 1000 + q) (.string ⟨#[]⟩) (.slice none 0 0) (.bool false) wx
                      clear f2 hcV hVc
                      have i4 : (n c : Int) + (q : Int) < (n c : Int) + 16 := by omega
                      go_wp2_with fail
                      case roundEnd => exact ⟨⟨q + 1, by omega, by go_num, HQ, HQB⟩, by simp [intOf]; omega⟩
                    · go_wp2
                      go_roundw
                      case rel => exact ⟨c + 1, by omega, by go_num, HQ, HQB⟩
                      case measure => simp [intOf]; omega
            · go_wp2
              go_ret
              exact ⟨rfl, HCB.out⟩
end Go.Proofs.YtlpdfifjdlfpdaaGreatDoor
