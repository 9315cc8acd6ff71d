/- For the book: what else stays.; An append that tells where its answer lies, and that the elder value still reads its row.; The book's lists that lie apart, of whatever kind.; Numbers as words; a new cell of four. -/
import Derived.Test.YtpkohocjgnodnaaGreatDoorGAN
import Derived.Test.YtpkohocjgnodnaaGreatDoorGAQ
import Derived.Test.YtpkohocjgnodnaaGreatDoorGAV
import Derived.Laws.AppendOwn
import Derived.Laws.OwnMore
import Derived.OneCell
/- For the book: what else stays. -/
namespace Go.Proofs.YtpkohocjgnodnaaGreatDoor
open Go.RowKit

/-- Blocks of A that were there stay. -/
def FrQ (A : Nat → Prop) (w w' : World) : Prop := Below 0 w w' ∧ ∀ g, A g → g < w.heap.size → w'.heap[g]? = w.heap[g]?
theorem FrQ.trans {A : Nat → Prop} {w w' w'' : World} (h : FrQ A w w') (k : FrQ A w' w'') : FrQ A w w'' := ⟨h.1.trans k.1, fun g hg hl => (k.2 g hg (Nat.lt_of_lt_of_le hl h.1.size)).trans (h.2 g hg hl)⟩
theorem FrQ.refl (A : Nat → Prop) (w : World) : FrQ A w w := ⟨Below.refl _ _, fun _ _ _ => rfl⟩
theorem FrQ.of {A : Nat → Prop} {B : Nat} {w w' : World} (h : Below B w w') (hA : ∀ g, A g → g < w.heap.size → g < B) : FrQ A w w' := ⟨h.mono (Nat.zero_le _), fun g hg hl => h.block g (hA g hg hl)⟩
theorem own_sl {w : World} {base e size n : Nat} {v : Value} {xs : List Value} (h : w.ownsRow base e size v n xs) : ∃ ra cap, v = .slice ra n cap := own_slice' h
end Go.Proofs.YtpkohocjgnodnaaGreatDoor

/- An append that tells where its answer lies, and that the elder value still reads its row. -/
namespace Go.Proofs.YtpkohocjgnodnaaGreatDoor
open Go.RowKit

theorem append_full {P : Program} (w : World) (t ty e : TypeId) (i : TypeInfo) (z : Value) (ht : P.underlying t = some (.slice e)) (hi : P.info? e = some i) (hz : i.zero = some z)
    (base g n cap : Nat) (xs : List Value) (hown : w.ownsRow base e i.size (.slice (some ⟨g, 0, none⟩) n cap) n xs) (a : Addr) (m c : Nat) (news : List Value) (hl : news.length = m * i.size)
    (hnews : ∀ j u, news[j]? = some u → w.cell? (a.add j) = some u) (h63 : n + m ≤ maxLen) (hb : (n + m) * i.bytes ≤ 140737488355328) (hfull : cap < n + m) {v' : Value} {w' : World}
    (hrun : (Builtin.append_ #[t, t] ty #[.slice (some ⟨g, 0, none⟩) n cap, .slice (some a) m c]).run P w = .ok v' w') : Below w.heap.size w w' := by
  have holds : ∀ j u, xs[j]? = some u → w.cell? ((⟨g, 0, none⟩ : Addr).add j) = some u := hown.cells (g := g) rfl
  have hr := run_append_grow (P := P) w t ty e i z ht hi hz ⟨g, 0, none⟩ n cap xs hown.1 holds a m c news hl hnews (by omega) (by simp only [maxLen] at h63; omega) (growslice_fits (by omega) hb)
  rw [hrun] at hr
  cases hr
  exact ((Below.refl _ w).drew).alloc (Nat.le_refl _) _

theorem own_prefix {w w' : World} {base e size g n n' cap cap' : Nat} {xs r : List Value} (h : w.ownsRow base e size (.slice (some ⟨g, 0, none⟩) n cap) n xs) (h1 : w.ownsRow base e size (.slice (some ⟨g, 0, none⟩) n' cap') n' (xs ++ r))
    (h2 : w'.ownsRow base e size (.slice (some ⟨g, 0, none⟩) n' cap') n' (xs ++ r)) : w'.ownsRow base e size (.slice (some ⟨g, 0, none⟩) n cap) n xs := by
  obtain ⟨hl, hc⟩ := h
  rcases hc with ⟨h', _⟩ | ⟨a, b, cur, hv, hb, hh, hn, hm, hz, ht⟩
  · simp at h'
  rcases h1.2 with ⟨h', _⟩ | ⟨a1, b1, cur1, hv1, _, hh1, _, _, hz1, _⟩
  · simp at h'
  obtain ⟨hl2, hc2⟩ := h2
  rcases hc2 with ⟨h', _⟩ | ⟨a2, b2, cur2, hv2, _, hh2, _, _, hz2, ht2⟩
  · simp at h'
  simp only [Value.slice.injEq, Option.some.injEq, Addr.mk.injEq, and_true, true_and] at hv hv1 hv2
  obtain ⟨rfl, rfl⟩ := hv
  obtain ⟨rfl, rfl⟩ := hv1
  obtain ⟨rfl, rfl⟩ := hv2
  rw [hh] at hh1
  cases hh1
  refine ⟨hl, .inr ⟨g, cap, cur2, rfl, hb, hh2, hn, hm, by rw [hz2, ← hz1, hz], ?_⟩⟩
  have : n * size ≤ n' * size := by rw [← hl, ← hl2, List.length_append]; omega
  have h3 : (cur2.toList.take (n' * size)).take (n * size) = cur2.toList.take (n * size) := by rw [List.take_take, Nat.min_eq_left this]
  rw [← h3, ht2, ← hl, List.take_left]

theorem own_told {w w' : World} {base e size n n' : Nat} {v u : Value} {xs r : List Value} (h : w.ownsRow base e size v n xs) (h1 : w.ownsRow base e size u n' (xs ++ r))
    (h2 : w'.ownsRow base e size u n' (xs ++ r)) (hg : w.grownBy w' u.ownBlock) : w'.ownsRow base e size v n xs := by
  by_cases e : v.ownBlock = none ∨ v.ownBlock ≠ u.ownBlock
  · exact h.kept hg e
  · rcases h.2 with ⟨rfl, _⟩ | ⟨g, cap, cur, rfl, _⟩
    · exact absurd (.inl rfl) e
    · rcases h1.2 with ⟨rfl, _⟩ | ⟨g1, cap1, cur1, rfl, _⟩
      · exact absurd (.inr (by simp [Value.ownBlock])) e
      · have : g = g1 := by
          by_cases e' : g = g1
          · exact e'
          · exact absurd (.inr (by simp [Value.ownBlock, e'])) e
        subst this
        exact own_prefix h h1 h2

theorem append_told {P : Program} {w w' : World} {base : Nat} {t ty e : TypeId} {i : TypeInfo} {z : Value} {size bytes : Nat} (ht : P.underlying t = some (.slice e)) (hi : P.info? e = some i) (hz : i.zero = some z)
    (hsize : i.size = size) (hby : i.bytes = bytes) (hsz : 0 < size) {v v' : Value} {n : Nat} {xs : List Value} (hown : w.ownsRow base e size v n xs)
    {a : Addr} {m c : Nat} {news : List Value} (hl : news.length = m * size) (hnews : ∀ j u, news[j]? = some u → w.cell? (a.add j) = some u) (h1 : ∀ u ∈ news, u.oneCell' = true)
    (h63 : n + m ≤ maxLen) (hbytes : (n + m) * bytes ≤ 140737488355328) (hm : 0 < m)
    (hrun : (Builtin.append_ #[t, t] ty #[v, .slice (some a) m c]).run P w = .ok v' w') (hown' : w'.ownsRow base e size v' (n + m) (xs ++ news)) (hg : w.grownBy w' v.ownBlock) :
    w'.ownsRow base e size v n xs ∧ (v'.ownBlock = v.ownBlock ∨ v'.ownBlock = some w.heap.size) := by
  subst hsize
  subst hby
  have hsmall : n + m ≤ 9223372036854775807 := by simp only [maxLen] at h63; omega
  rcases hown.2 with ⟨rfl, rfl⟩ | ⟨g, cap, cur, rfl, hbg, hgg, hnc, hcm, hcs, htake⟩
  · have hx : xs = [] := List.eq_nil_of_length_eq_zero (by simpa using hown.1)
    subst hx
    have hr := run_append_nil (P := P) w t ty e i z ht hi hz a m c news hl hnews hm (by omega) (by have hb := hbytes; simp only [Nat.zero_add] at hb; omega)
    rw [hrun] at hr
    cases hr
    exact ⟨World.ownsRow_nil _ _ _ _, .inr rfl⟩
  · by_cases hroom : n + m ≤ cap
    · have hfit : n * i.size + news.length ≤ cur.size := by rw [hl, hcs, ← Nat.add_mul]; exact Nat.mul_le_mul_right _ hroom
      have hr := run_append_room (P := P) w t ty e i ht hi g n cap cur hgg a m c news hl hnews h1 hroom hfit
      rw [hrun] at hr
      cases hr
      refine ⟨?_, .inl rfl⟩
      obtain ⟨hl2, hc2⟩ := hown'
      rcases hc2 with ⟨h', _⟩ | ⟨a2, b2, cur2, hv2, _, hh2, _, _, hz2, ht2⟩
      · simp at h'
      simp only [Value.slice.injEq, Option.some.injEq, Addr.mk.injEq, and_true, true_and] at hv2
      obtain ⟨rfl, rfl⟩ := hv2
      refine ⟨hown.1, .inr ⟨g, cap, cur2, rfl, hbg, hh2, hnc, hcm, hz2, ?_⟩⟩
      have : n * i.size ≤ (n + m) * i.size := Nat.mul_le_mul_right _ (by omega)
      have h3 : (cur2.toList.take ((n + m) * i.size)).take (n * i.size) = cur2.toList.take (n * i.size) := by rw [List.take_take, Nat.min_eq_left this]
      rw [← h3, ht2, ← hown.1, List.take_left]
    · have hb := append_full w t ty e i z ht hi hz base g n cap xs hown a m c news hl hnews h63 hbytes (by omega) hrun
      have holds : ∀ j u, xs[j]? = some u → w.cell? ((⟨g, 0, none⟩ : Addr).add j) = some u := hown.cells (g := g) rfl
      have hr := run_append_grow (P := P) w t ty e i z ht hi hz ⟨g, 0, none⟩ n cap xs hown.1 holds a m c news hl hnews (by omega) (by omega) (growslice_fits (by omega) hbytes)
      rw [hrun] at hr
      cases hr
      refine ⟨⟨hown.1, .inr ⟨g, cap, cur, rfl, hbg, ?_, hnc, hcm, hcs, htake⟩⟩, .inr rfl⟩
      rw [hb.block g (Array.getElem?_eq_some_iff.1 hgg).1]; exact hgg

theorem wpList_append_told {P : Program} (w : World) {ops : Array Oper} {rest : List Oper} {o : Oper} {a : Act} {Q : Exit → Act → World → Prop} (hgd : o.guard = none) (s x : Operand) (t : TypeId)
    (ho : o.op = .call { callee := .builtin .append, args := #[s, x], argTypes := #[t, t] })
    (base : Nat) (e : TypeId) (i : TypeInfo) (z : Value) (size bytes : Nat) (ht : P.underlying t = some (.slice e)) (hi : P.info? e = some i) (hz : i.zero = some z)
    (hsize : i.size = size) (hby : i.bytes = bytes) (hzs : z.cells.size = size) (hsz : 0 < size)
    (v : Value) (n : Nat) (xs : List Value) (hs : a.eval s = v) (hown : w.ownsRow base e size v n xs)
    (ad : Addr) (m c : Nat) (news : List Value) (hx : a.eval x = .slice (some ad) m c) (hl : news.length = m * size) (hnews : ∀ j u, news[j]? = some u → w.cell? (ad.add j) = some u) (h1 : ∀ u ∈ news, u.oneCell' = true)
    (h63 : n + m ≤ maxLen) (hbytes : (n + m) * bytes ≤ 140737488355328) (hbase : base ≤ w.heap.size) (hm : 0 < m)
    (h : ∀ v' w', w'.ownsRow base e size v' (n + m) (xs ++ news) → w.grownBy w' v.ownBlock → w'.ownsRow base e size v n xs → (v'.ownBlock = v.ownBlock ∨ v'.ownBlock = some w.heap.size) → wpList P ops Q rest (a.put o.dst v') w') : wpList P ops Q (o :: rest) a w :=
  wpList_plain hgd fun _ hK => by
    obtain ⟨v', w', hr, h2, h3, _⟩ := run_append_own (P := P) w base t o.type e i z size bytes ht hi hz hsize hby hzs hsz v n xs hown ad m c news hl hnews h1 h63 hbytes hbase
    obtain ⟨h4, h5⟩ := append_told ht hi hz hsize hby hsz hown hl hnews h1 h63 hbytes hm hr h2 h3
    unfold Oper.wp execOp
    simp only [ho, resolve, invoke, builtin, Sem.run_bind, Sem.run_pure, Result.andThen_ok, List.map_toArray, List.map_cons, List.map_nil, hs, hx, hr]
    exact hK _ _ (h v' w' h2 h3 h4 h5)
end Go.Proofs.YtpkohocjgnodnaaGreatDoor

/- The book's lists that lie apart, of whatever kind. -/
namespace Go.Proofs.YtpkohocjgnodnaaGreatDoor
open Go.RowKit

/-- A kind of lists: what lies in them, its cells, the lists' type, the marks. -/
structure Knd where
  e : Nat
  sz : Nat
  lt : Nat
  mark : Int → Int → List Value
  len : ∀ i k, (mark i k).length = sz
  pos : 0 < sz
  ne : lt ≠ e
theorem own_below {w w' : World} {b e n c : Nat} {v : Value} {xs : List Value} (h : w.ownsRow b e c v n xs) (hb : Below w.heap.size w w') : w'.ownsRow b e c v n xs := own_same h (fun g hg => hb.block g (h.lt g hg).2)
/-- Lists of a book: the values in the cells of block B, each the owner of its row, no two of one block. -/
structure Held (K : Knd) (Q : Nat → Prop) (N B : Nat) (V : Nat → Value) (n : Nat → Nat) (W : World) (X : Nat → List Value) : Prop where
  cell : ∀ j, j < N → W.cell? ⟨B, j, none⟩ = some (V j)
  own : ∀ j, j < N → W.ownsRow 0 K.e K.sz (V j) (n j) (X j)
  apart : ∀ j j', j < N → j' < N → j ≠ j' → ∀ g, (V j).ownBlock = some g → (V j').ownBlock ≠ some g
  off : ∀ j, j < N → (V j).ownBlock ≠ some B
  lt : B < W.heap.size
  nq : ∀ j, j < N → ∀ g, (V j).ownBlock = some g → ¬ Q g

def marks (K : Knd) (i : Int) : Nat → List Value
  | 0 => []
  | m + 1 => marks K i m ++ K.mark i m
theorem marks_len (K : Knd) (i : Int) (m : Nat) : (marks K i m).length = m * K.sz := by
  induction m with
  | zero => simp [marks]
  | succ m ih => rw [marks, List.length_append, ih, K.len]; rw [Nat.succ_mul]

/-- A store into one list's row. -/
theorem Held.stored {K : Knd} {Q : Nat → Prop} {N B : Nat} {V : Nat → Value} {n : Nat → Nat} {W : World} {X : Nat → List Value} (h : Held K Q N B V n W X) {j g cap : Nat} (hj : j < N) (hv : V j = .slice (some ⟨g, 0, none⟩) (n j) cap) (o : Nat) (u : Value) :
    Held K Q N B V n (W.setCell ⟨g, o, none⟩ u) (fun i => if i = j then (X j).set o u else X i) := by
  have hg : (V j).ownBlock = some g := by rw [hv]; rfl
  have hne : g ≠ B := fun e => h.off j hj (e ▸ hg)
  refine ⟨fun i hi => ?_, fun i hi => ?_, h.apart, h.off, ?_, h.nq⟩
  · have e := Below.heap_setCell W ⟨g, o, none⟩ u B (fun e => hne e.symm)
    have := h.cell i hi
    simp only [World.cell?] at this ⊢
    rw [e]; exact this
  · by_cases e : i = j
    · subst e
      rw [if_pos rfl, hv]
      have := h.own i hi
      rw [hv] at this
      exact (this.stored o u).1
    · rw [if_neg e]
      exact ownsRow_setCell_other (h.own i hi) (h.apart j i hj hi (fun e' => e e'.symm) g hg) u
  · rw [World.size_setCell]; exact h.lt

theorem Held.at {K : Knd} {Q : Nat → Prop} {N B : Nat} {V : Nat → Value} {n : Nat → Nat} {W : World} {X : Nat → List Value} (h : Held K Q N B V n W X) {j g cap : Nat} (hj : j < N) (hv : V j = .slice (some ⟨g, 0, none⟩) (n j) cap) (o : Nat) (ho : o < n j * K.sz) :
    (∃ u, W.cell? ⟨g, o, none⟩ = some u) ∧ W.frozen? ⟨g, o, none⟩ = false := by
  have := h.own j hj
  rw [hv] at this
  refine ⟨?_, this.frozenAt o⟩
  rw [this.cellAt o ho]
  have hl := this.1
  exact ⟨_, List.getElem?_eq_getElem (by omega)⟩

theorem Held.congr {K : Knd} {Q : Nat → Prop} {N B : Nat} {V : Nat → Value} {n : Nat → Nat} {W : World} {X Y : Nat → List Value} (h : Held K Q N B V n W X) (e : ∀ j, j < N → X j = Y j) : Held K Q N B V n W Y :=
  ⟨h.cell, fun j hj => e j hj ▸ h.own j hj, h.apart, h.off, h.lt, h.nq⟩
/-- Where one block turns: it is none of the lists', or the one list's in it still reads its row. -/
theorem Held.kept {K : Knd} {Q : Nat → Prop} {N B : Nat} {V : Nat → Value} {n : Nat → Nat} {W W' : World} {X : Nat → List Value} {row : Option Nat} (h : Held K Q N B V n W X) (hg : W.grownBy W' row) (hB : row ≠ some B)
    (hr : ∀ j, j < N → W'.ownsRow 0 K.e K.sz (V j) (n j) (X j) ∨ ∀ g, (V j).ownBlock = some g → row ≠ some g) : Held K Q N B V n W' X := by
  refine ⟨fun j hj => ?_, fun j hj => ?_, h.apart, h.off, Nat.lt_of_lt_of_le h.lt hg.size, h.nq⟩
  · have e := hg.block B h.lt (fun e => hB e.symm)
    have := h.cell j hj
    simp only [World.cell?] at this ⊢
    rw [e]; exact this
  · rcases hr j hj with h' | h'
    · exact h'
    · refine (h.own j hj).kept hg ?_
      cases hv : (V j).ownBlock with
      | none => exact .inl rfl
      | some g => exact .inr (fun e => h' g hv e.symm)
theorem Held.alloc {K : Knd} {Q : Nat → Prop} {N B : Nat} {V : Nat → Value} {n : Nat → Nat} {W : World} {X : Nat → List Value} (h : Held K Q N B V n W X) (o : Obj) : Held K Q N B V n (W.alloc o) X :=
  h.kept (World.grownBy_alloc W o none) (by simp) (fun j _ => .inr (fun g _ => by simp))

/-- Rows of two kinds lie in two blocks. -/
theorem own_types {W : World} {b b' e e' c c' n n' : Nat} {v v' : Value} {xs xs' : List Value} (h : W.ownsRow b e c v n xs) (h' : W.ownsRow b' e' c' v' n' xs') (hne : e ≠ e') : ∀ g, v.ownBlock = some g → v'.ownBlock ≠ some g := by
  intro g hg hg'
  rcases h.2 with ⟨rfl, _⟩ | ⟨g1, _, _, rfl, _, hh, _⟩
  · simp [Value.ownBlock] at hg
  rcases h'.2 with ⟨rfl, _⟩ | ⟨g2, _, _, rfl, _, hh', _⟩
  · simp [Value.ownBlock] at hg'
  simp only [Value.ownBlock, Option.some.injEq] at hg hg'
  subst hg hg'
  rw [hh] at hh'
  cases hh'
  exact hne rfl

/-- The lists, and those of them that have been made longer, in a list of their own. -/
structure Longs (K : Knd) (Q : Nat → Prop) (N B : Nat) (V : Nat → Value) (n : Nat → Nat) (k : Nat) (v : Value) (L : Nat → Value) (W : World) : Prop where
  held : Held K Q N B V n W (fun j => marks K j (n j))
  own : ∀ j, j < k → W.ownsRow 0 K.e K.sz (L j) (n j + 16) (marks K j (n j) ++ marks K (-1 - (j : Int)) 16)
  apart : ∀ j j', j < k → j' < N → j' ≠ j → ∀ g, (V j').ownBlock = some g → (L j).ownBlock ≠ some g
  row : W.ownsRow 0 K.lt 1 v k ((List.range k).map L)
  off : v.ownBlock ≠ some B
  nq : ∀ g, v.ownBlock = some g → ¬ Q g

/-- .. and one that is being made longer. -/
structure Grow (K : Knd) (Q : Nat → Prop) (N B : Nat) (V : Nat → Value) (n : Nat → Nat) (k : Nat) (v : Value) (L : Nat → Value) (q : Nat) (x : Value) (W : World) : Prop where
  longs : Longs K Q N B V n k v L W
  own : W.ownsRow 0 K.e K.sz x (n k + q) (marks K k (n k) ++ marks K (-1 - (k : Int)) q)
  ap1 : ∀ j', j' < N → j' ≠ k → ∀ g, (V j').ownBlock = some g → x.ownBlock ≠ some g
  ap2 : ∀ j, j < k → ∀ g, (L j).ownBlock = some g → x.ownBlock ≠ some g
  ap3 : x.ownBlock ≠ some B
  nq : ∀ g, x.ownBlock = some g → ¬ Q g

theorem Longs.alloc {K : Knd} {Q : Nat → Prop} {N B : Nat} {V : Nat → Value} {n : Nat → Nat} {k : Nat} {v : Value} {L : Nat → Value} {W : World} (h : Longs K Q N B V n k v L W) (o : Obj) : Longs K Q N B V n k v L (W.alloc o) :=
  ⟨h.held.alloc o, fun j hj => (h.own j hj).alloc o, h.apart, h.row.alloc o, h.off, h.nq⟩
theorem Grow.alloc {K : Knd} {Q : Nat → Prop} {N B : Nat} {V : Nat → Value} {n : Nat → Nat} {k : Nat} {v : Value} {L : Nat → Value} {q : Nat} {x : Value} {W : World} (h : Grow K Q N B V n k v L q x W) (o : Obj) : Grow K Q N B V n k v L q x (W.alloc o) :=
  ⟨h.longs.alloc o, h.own.alloc o, h.ap1, h.ap2, h.ap3, h.nq⟩

theorem Grow.start {K : Knd} {Q : Nat → Prop} {N B : Nat} {V : Nat → Value} {n : Nat → Nat} {k : Nat} {v : Value} {L : Nat → Value} {W : World} (h : Longs K Q N B V n k v L W) (hk : k < N) : Grow K Q N B V n k v L 0 (V k) W :=
  ⟨h, by simpa [marks] using h.held.own k hk, fun j' hj' hne g hg hg' => h.held.apart j' k hj' hk hne g hg hg',
    fun j hj g hg hg' => h.apart j k hj hk (by omega) g hg' hg, h.held.off k hk, h.held.nq k hk⟩

theorem Grow.step {K : Knd} {Q : Nat → Prop} {N B : Nat} {V : Nat → Value} {n : Nat → Nat} {k : Nat} {v : Value} {L : Nat → Value} {q : Nat} {x x' : Value} {W W' : World} (h : Grow K Q N B V n k v L q x W) (hk : k < N)
    (hown : W'.ownsRow 0 K.e K.sz x' (n k + q + 1) (marks K k (n k) ++ marks K (-1 - (k : Int)) q ++ K.mark (-1 - (k : Int)) q)) (hg : W.grownBy W' x.ownBlock)
    (hold : W'.ownsRow 0 K.e K.sz x (n k + q) (marks K k (n k) ++ marks K (-1 - (k : Int)) q)) (hw : x'.ownBlock = x.ownBlock ∨ x'.ownBlock = some W.heap.size) (hQ : ∀ g, Q g → g < W.heap.size) : Grow K Q N B V n k v L (q + 1) x' W' := by
  have hvx : ∀ g, v.ownBlock = some g → x.ownBlock ≠ some g := own_types h.longs.row h.own K.ne
  have fresh : ∀ {u : Value} {e c m : Nat} {xs : List Value}, W.ownsRow 0 e c u m xs → ∀ g, u.ownBlock = some g → x.ownBlock ≠ some g → x'.ownBlock ≠ some g := by
    intro u e c m xs hu g hgu hne
    rcases hw with e' | e'
    · rw [e']; exact hne
    · rw [e']
      have := (hu.lt g hgu).2
      simp; omega
  have keep : ∀ {u : Value} {e c m : Nat} {xs : List Value}, W.ownsRow 0 e c u m xs → (∀ g, u.ownBlock = some g → x.ownBlock ≠ some g) → W'.ownsRow 0 e c u m xs := by
    intro u e c m xs hu hne
    refine hu.kept hg ?_
    cases hv : u.ownBlock with
    | none => exact .inl rfl
    | some g => exact .inr (fun e => hne g hv e.symm)
  refine ⟨⟨h.longs.held.kept hg h.ap3 (fun j hj => ?_), fun j hj => keep (h.longs.own j hj) (h.ap2 j hj), h.longs.apart, keep h.longs.row hvx, h.longs.off, h.longs.nq⟩, ?_, ?_, ?_, ?_, ?_⟩
  · by_cases e : j = k
    · subst e
      exact .inl (own_told (h.longs.held.own j hj) h.own hold hg)
    · exact .inr (h.ap1 j hj e)
  · rw [marks, ← List.append_assoc]; exact hown
  · intro j' hj' hne g hgv
    exact fresh (h.longs.held.own j' hj') g hgv (h.ap1 j' hj' hne g hgv)
  · intro j hj g hgl
    exact fresh (h.longs.own j hj) g hgl (h.ap2 j hj g hgl)
  · rcases hw with e' | e'
    · rw [e']; exact h.ap3
    · rw [e']; have := h.longs.held.lt; simp; omega
  · intro g hg' hq
    rcases hw with e' | e'
    · rw [e'] at hg'; exact h.nq g hg' hq
    · rw [e'] at hg'
      have := hQ g hq
      have := Option.some.inj hg'
      omega

theorem Grow.put {K : Knd} {Q : Nat → Prop} {N B : Nat} {V : Nat → Value} {n : Nat → Nat} {k : Nat} {v v' : Value} {L : Nat → Value} {x : Value} {W W' : World} (h : Grow K Q N B V n k v L 16 x W) (hk : k < N)
    (hown : W'.ownsRow 0 K.lt 1 v' (k + 1) ((List.range k).map L ++ [x])) (hg : W.grownBy W' v.ownBlock) (hw : v'.ownBlock = v.ownBlock ∨ v'.ownBlock = some W.heap.size) (hQ : ∀ g, Q g → g < W.heap.size) :
    Longs K Q N B V n (k + 1) v' (fun j => if j = k then x else L j) W' := by
  have keep : ∀ {u : Value} {m : Nat} {xs : List Value}, W.ownsRow 0 K.e K.sz u m xs → W'.ownsRow 0 K.e K.sz u m xs := by
    intro u m xs hu
    refine hu.kept hg ?_
    cases hv : u.ownBlock with
    | none => exact .inl rfl
    | some g => exact .inr (fun e => own_types hu h.longs.row (Ne.symm K.ne) g hv e.symm)
  refine ⟨h.longs.held.kept hg h.longs.off (fun j hj => .inl (keep (h.longs.held.own j hj))), ?_, ?_, ?_, ?_, ?_⟩
  · intro j hj
    by_cases e : j = k
    · subst e; simp only [if_true]; exact keep h.own
    · simp only [if_neg e]; exact keep (h.longs.own j (by omega))
  · intro j j' hj hj' hne g hgv
    by_cases e : j = k
    · subst e; simp only [if_true]; exact h.ap1 j' hj' hne g hgv
    · simp only [if_neg e]; exact h.longs.apart j j' (by omega) hj' hne g hgv
  · rw [List.range_succ, List.map_append]
    have e1 : (List.range k).map (fun j => if j = k then x else L j) = (List.range k).map L := by
      apply List.map_congr_left
      intro j hj
      have := List.mem_range.1 hj
      rw [if_neg (by omega)]
    rw [e1]; simpa using hown
  · rcases hw with e' | e'
    · rw [e']; exact h.longs.off
    · rw [e']; have := h.longs.held.lt; simp; omega
  · intro g hg' hq
    rcases hw with e' | e'
    · rw [e'] at hg'; exact h.longs.nq g hg' hq
    · rw [e'] at hg'
      have := hQ g hq
      have := Option.some.inj hg'
      omega

theorem marks_get (K : Knd) (i : Int) (n m j : Nat) (hm : m < n) (hj : j < K.sz) : (marks K i n)[m * K.sz + j]? = (K.mark i m)[j]? := by
  induction n with
  | zero => omega
  | succ n ih =>
    rw [marks]
    have hl := marks_len K i n
    by_cases e : m = n
    · subst e
      rw [List.getElem?_append_right (by omega), hl, show m * K.sz + j - m * K.sz = j by omega]
    · have : m * K.sz + K.sz ≤ n * K.sz := by rw [← Nat.succ_mul]; exact Nat.mul_le_mul_right _ (by omega)
      rw [List.getElem?_append_left (by omega)]
      exact ih (by omega)

/-- The cells of one of a list. -/
def Elm (K : Knd) (W : World) (g m : Nat) (i k : Int) : Prop := ∀ j, j < K.sz → W.cell? ⟨g, m * K.sz + j, none⟩ = (K.mark i k)[j]?
theorem elm_of {K : Knd} {W : World} {g n cap m : Nat} {xs : List Value} {i k : Int} (h : W.ownsRow 0 K.e K.sz (.slice (some ⟨g, 0, none⟩) n cap) n xs) (hm : m < n) (hx : ∀ j, j < K.sz → xs[m * K.sz + j]? = (K.mark i k)[j]?) : Elm K W g m i k := fun j hj => by
  have : m * K.sz + K.sz ≤ n * K.sz := by rw [← Nat.succ_mul]; exact Nat.mul_le_mul_right _ (by omega)
  rw [h.cellAt _ (by omega)]
  exact hx j hj

theorem Longs.below {K : Knd} {Q : Nat → Prop} {N B : Nat} {V : Nat → Value} {n : Nat → Nat} {k : Nat} {v : Value} {L : Nat → Value} {W W' : World} (h : Longs K Q N B V n k v L W) (hb : Below W.heap.size W W') : Longs K Q N B V n k v L W' :=
  ⟨⟨fun j hj => (hb.cell (p := ⟨B, j, none⟩) h.held.lt).trans (h.held.cell j hj), fun j hj => own_below (h.held.own j hj) hb, h.held.apart, h.held.off, Nat.lt_of_lt_of_le h.held.lt hb.size, h.held.nq⟩,
    fun j hj => own_below (h.own j hj) hb, h.apart, own_below h.row hb, h.off, h.nq⟩

/-- What is read of the list k and of the longer one. -/
theorem Longs.reads {K : Knd} {Q : Nat → Prop} {N B : Nat} {V : Nat → Value} {n : Nat → Nat} {v : Value} {L : Nat → Value} {W : World} (h : Longs K Q N B V n N v L W) {k : Nat} (hk : k < N) :
    ∃ h5 c5 gl cl, v = .slice (some ⟨h5, 0, none⟩) N c5 ∧ W.cell? ⟨h5, k, none⟩ = some (.slice (some ⟨gl, 0, none⟩) (n k + 16) cl) ∧ W.cell? ⟨B, k, none⟩ = some (V k) ∧
      (∀ m, m < n k → Elm K W gl m k m) ∧ (∀ q, q < 16 → Elm K W gl (n k + q) (-1 - (k : Int)) q) ∧ (∀ m, m < n k → ∃ g cap, V k = .slice (some ⟨g, 0, none⟩) (n k) cap ∧ Elm K W g m k m) ∧ (∃ ra cap, V k = .slice ra (n k) cap) := by
  have hrow := h.row
  rcases hrow.2 with ⟨_, h0⟩ | ⟨h5, c5, cur5, hv5, _⟩
  · omega
  have hl := h.own k hk
  rcases hl.2 with ⟨_, h0⟩ | ⟨gl, cl, curl, hvl, _⟩
  · omega
  subst hv5
  have hc := hrow.cellAt k (by omega)
  rw [List.getElem?_map, List.getElem?_range hk] at hc
  rw [hvl] at hl
  have hml := marks_len K k (n k)
  refine ⟨h5, c5, gl, cl, rfl, by rw [hc]; simp [hvl], h.held.cell k hk, fun m hm => elm_of hl (by omega) fun j hj => ?_, fun q hq => elm_of hl (by omega) fun j hj => ?_, fun m hm => ?_, ?_⟩
  · have : m * K.sz + K.sz ≤ n k * K.sz := by rw [← Nat.succ_mul]; exact Nat.mul_le_mul_right _ (by omega)
    rw [List.getElem?_append_left (by omega)]; exact marks_get _ _ _ _ _ hm hj
  · have e : (n k + q) * K.sz = n k * K.sz + q * K.sz := Nat.add_mul _ _ _
    rw [List.getElem?_append_right (by omega), hml, show (n k + q) * K.sz + j - n k * K.sz = q * K.sz + j by omega]; exact marks_get _ _ _ _ _ hq hj
  · have ho := h.held.own k hk
    rcases ho.2 with ⟨_, h0⟩ | ⟨g, cap, cur, hv, _⟩
    · omega
    · rw [hv] at ho
      exact ⟨g, cap, hv, elm_of ho hm fun j hj => marks_get _ _ _ _ _ hm hj⟩
  · rcases (h.held.own k hk).2 with ⟨h, h0⟩ | ⟨g, cap, cur, hv, _⟩
    · exact ⟨none, 0, by rw [h, h0]⟩
    · exact ⟨_, cap, hv⟩

theorem FrQ.alloc {Q : Nat → Prop} {w w' : World} (h : FrQ Q w w') (o : Obj) : FrQ Q w (w'.alloc o) := ⟨h.1.alloc (Nat.zero_le _) o, fun g hg hl => (Below.heap_alloc _ _ _ (Nat.lt_of_lt_of_le hl h.1.size)).trans (h.2 g hg hl)⟩
theorem FrQ.setCell {Q : Nat → Prop} {w w' : World} (h : FrQ Q w w') {g o : Nat} (hg : ¬ Q g) (u : Value) : FrQ Q w (w'.setCell ⟨g, o, none⟩ u) := ⟨h.1.setCell (p := ⟨g, o, none⟩) (Nat.zero_le _) u, fun k hk hl => (Below.heap_setCell _ _ _ _ (fun e => hg (by rw [← show k = g from e]; exact hk))).trans (h.2 k hk hl)⟩
theorem FrQ.grown {Q : Nat → Prop} {w w' w'' : World} {v : Value} (h : FrQ Q w w') (hg : w'.grownBy w'' v.ownBlock) (hn : ∀ g, v.ownBlock = some g → ¬ Q g) : FrQ Q w w'' := ⟨h.1.grown hg (Nat.zero_le _) (fun _ _ => Nat.zero_le _), fun g hq hl => (hg.block g (Nat.lt_of_lt_of_le hl h.1.size) (fun e => hn g e.symm hq)).trans (h.2 g hq hl)⟩
theorem cellQ_one (W : World) (a0 : Value) (t : TypeId) (j : Nat) (u : Value) (h : [a0][j]? = some u) : (W.alloc (.cells #[a0] t)).cell? ((⟨W.heap.size, 0, none⟩ : Addr).add j) = some u := by
  rw [ad_add, Nat.zero_add]
  exact new_cell _ #[a0] _ j u h
theorem own_slice_one {W : World} {b e c n : Nat} {v : Value} {xs : List Value} (h : W.ownsRow b e c v n xs) : ∀ u ∈ [v], u.oneCell' = true := by
  intro u hu
  obtain rfl : u = v := by simpa using hu
  rcases h.2 with ⟨rfl, _⟩ | ⟨g, cap, cur, rfl, _⟩ <;> rfl
theorem Held.below {K : Knd} {Q : Nat → Prop} {N B : Nat} {V : Nat → Value} {n : Nat → Nat} {W W' : World} {X : Nat → List Value} (h : Held K Q N B V n W X) (hb : Below W.heap.size W W') : Held K Q N B V n W' X :=
  ⟨fun j hj => (hb.cell (p := ⟨B, j, none⟩) h.lt).trans (h.cell j hj), fun j hj => own_below (h.own j hj) hb, h.apart, h.off, Nat.lt_of_lt_of_le h.lt hb.size, h.nq⟩
end Go.Proofs.YtpkohocjgnodnaaGreatDoor

/- Numbers as words; a new cell of four. -/
namespace Go.Proofs.YtpkohocjgnodnaaGreatDoor
open Go.RowKit

theorem conv_w (x : Int) (h0 : 0 ≤ x) (h1 : x < 18446744073709551616) (W : World) : (convert 3 69 (.int .i64 x)).run Tryz.prog W = .ok (.int .u64 x) W := by
  have h : IntKind.u64.wrap x = x := by
    simp [IntKind.wrap, IntKind.bits, IntKind.signed]
    omega
  go_simp
theorem cell_four_new (W : World) (a0 a1 a2 a3 : Value) (t : TypeId) (j : Nat) (u : Value) (h : [a0, a1, a2, a3][j]? = some u) : (W.alloc (.cells #[a0, a1, a2, a3] t)).cell? ((⟨W.heap.size, 0, none⟩ : Addr).add j) = some u := by
  rw [ad_add, Nat.zero_add]
  exact new_cell W #[a0, a1, a2, a3] t j u (by simpa using h)
theorem cellQ_two (W : World) (a0 a1 : Value) (t : TypeId) (j : Nat) (u : Value) (h : [a0, a1][j]? = some u) : (W.alloc (.cells #[a0, a1] t)).cell? ((⟨W.heap.size, 0, none⟩ : Addr).add j) = some u := cell_two_new W a0 a1 t W.heap.size rfl j u h
theorem field_pr (x : Int) (w : World) : (Instr.field 64 (.agg #[.int .i64 x, .slice none 0 0]) 0).run Tryz.prog w = .ok (.int .i64 x) w := by
  have u1 := Tryz.underlying64
  unfold Instr.field
  go_simp
  simp [asAgg, Sem.run_pure]
end Go.Proofs.YtpkohocjgnodnaaGreatDoor
