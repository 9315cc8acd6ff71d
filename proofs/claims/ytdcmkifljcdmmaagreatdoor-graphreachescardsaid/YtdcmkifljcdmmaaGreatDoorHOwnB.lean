/- The book's lists of truths: those that are made longer lie in a row that was made ahead. -/
import Derived.Test.YtdcmkifljcdmmaaGreatDoorGE
namespace Go.Proofs.YtdcmkifljcdmmaaGreatDoor
open Go.RowKit

/-- The lists, and those of them that have been made longer, in a list of their own. -/
structure LongM (K : Knd) (Q : Nat → Prop) (N B : Nat) (V : Nat → Value) (n : Nat → Nat) (k : Nat) (v : Value) (L : Nat → Value) (W : World) : Prop where
  held : Held K Q N B V n W (fun j => marks K j (n j))
  own : ∀ j, j < k → W.ownsRow 0 K.e K.sz (L j) (n j + 16) (marks K j (n j) ++ marks K (-1 - (j : Int)) 16)
  apart : ∀ j j', j < k → j' < N → j' ≠ j → ∀ g, (V j').ownBlock = some g → (L j).ownBlock ≠ some g
  row : W.ownsRow 0 K.lt 1 v N ((List.range N).map L)
  off : v.ownBlock ≠ some B
  nq : ∀ g, v.ownBlock = some g → ¬ Q g

/-- .. and one that is being made longer. -/
structure GrowM (K : Knd) (Q : Nat → Prop) (N B : Nat) (V : Nat → Value) (n : Nat → Nat) (k : Nat) (v : Value) (L : Nat → Value) (q : Nat) (x : Value) (W : World) : Prop where
  longs : LongM K Q N B V n k v L W
  own : W.ownsRow 0 K.e K.sz x (n k + q) (marks K k (n k) ++ marks K (-1 - (k : Int)) q)
  ap1 : ∀ j', j' < N → j' ≠ k → ∀ g, (V j').ownBlock = some g → x.ownBlock ≠ some g
  ap2 : ∀ j, j < k → ∀ g, (L j).ownBlock = some g → x.ownBlock ≠ some g
  ap3 : x.ownBlock ≠ some B
  nq : ∀ g, x.ownBlock = some g → ¬ Q g

theorem LongM.alloc {K : Knd} {Q : Nat → Prop} {N B : Nat} {V : Nat → Value} {n : Nat → Nat} {k : Nat} {v : Value} {L : Nat → Value} {W : World} (h : LongM K Q N B V n k v L W) (o : Obj) : LongM K Q N B V n k v L (W.alloc o) :=
  ⟨h.held.alloc o, fun j hj => (h.own j hj).alloc o, h.apart, h.row.alloc o, h.off, h.nq⟩
theorem GrowM.alloc {K : Knd} {Q : Nat → Prop} {N B : Nat} {V : Nat → Value} {n : Nat → Nat} {k : Nat} {v : Value} {L : Nat → Value} {q : Nat} {x : Value} {W : World} (h : GrowM K Q N B V n k v L q x W) (o : Obj) : GrowM K Q N B V n k v L q x (W.alloc o) :=
  ⟨h.longs.alloc o, h.own.alloc o, h.ap1, h.ap2, h.ap3, h.nq⟩

theorem GrowM.start {K : Knd} {Q : Nat → Prop} {N B : Nat} {V : Nat → Value} {n : Nat → Nat} {k : Nat} {v : Value} {L : Nat → Value} {W : World} (h : LongM K Q N B V n k v L W) (hk : k < N) : GrowM K Q N B V n k v L 0 (V k) W :=
  ⟨h, by simpa [marks] using h.held.own k hk, fun j' hj' hne g hg hg' => h.held.apart j' k hj' hk hne g hg hg',
    fun j hj g hg hg' => h.apart j k hj hk (by omega) g hg' hg, h.held.off k hk, h.held.nq k hk⟩

theorem GrowM.step {K : Knd} {Q : Nat → Prop} {N B : Nat} {V : Nat → Value} {n : Nat → Nat} {k : Nat} {v : Value} {L : Nat → Value} {q : Nat} {x x' : Value} {W W' : World} (h : GrowM K Q N B V n k v L q x W) (hk : k < N)
    (hown : W'.ownsRow 0 K.e K.sz x' (n k + q + 1) (marks K k (n k) ++ marks K (-1 - (k : Int)) q ++ K.mark (-1 - (k : Int)) q)) (hg : W.grownBy W' x.ownBlock)
    (hold : W'.ownsRow 0 K.e K.sz x (n k + q) (marks K k (n k) ++ marks K (-1 - (k : Int)) q)) (hw : x'.ownBlock = x.ownBlock ∨ x'.ownBlock = some W.heap.size) (hQ : ∀ g, Q g → g < W.heap.size) : GrowM K Q N B V n k v L (q + 1) x' W' := by
  have hvx : ∀ g, v.ownBlock = some g → x.ownBlock ≠ some g := own_types h.longs.row h.own K.ne
  have fresh : ∀ {u : Value} {e c m : Nat} {xs : List Value}, W.ownsRow 0 e c u m xs → ∀ g, u.ownBlock = some g → x.ownBlock ≠ some g → x'.ownBlock ≠ some g := by
    intro u e c m xs hu g hgu hne
    rcases hw with e' | e'
    · rw [e']; exact hne
    · rw [e']
      have := (hu.lt g hgu).2
      simp; omega
  have keep : ∀ {u : Value} {e c m : Nat} {xs : List Value}, W.ownsRow 0 e c u m xs → (∀ g, u.ownBlock = some g → x.ownBlock ≠ some g) → W'.ownsRow 0 e c u m xs := by
    intro u e c m xs hu hne
    refine hu.kept hg ?_
    cases hv : u.ownBlock with
    | none => exact .inl rfl
    | some g => exact .inr (fun e => hne g hv e.symm)
  refine ⟨⟨h.longs.held.kept hg h.ap3 (fun j hj => ?_), fun j hj => keep (h.longs.own j hj) (h.ap2 j hj), h.longs.apart, keep h.longs.row hvx, h.longs.off, h.longs.nq⟩, ?_, ?_, ?_, ?_, ?_⟩
  · by_cases e : j = k
    · subst e
      exact .inl (own_told (h.longs.held.own j hj) h.own hold hg)
    · exact .inr (h.ap1 j hj e)
  · rw [marks, ← List.append_assoc]; exact hown
  · intro j' hj' hne g hgv
    exact fresh (h.longs.held.own j' hj') g hgv (h.ap1 j' hj' hne g hgv)
  · intro j hj g hgl
    exact fresh (h.longs.own j hj) g hgl (h.ap2 j hj g hgl)
  · rcases hw with e' | e'
    · rw [e']; exact h.ap3
    · rw [e']; have := h.longs.held.lt; simp; omega
  · intro g hg' hq
    rcases hw with e' | e'
    · rw [e'] at hg'; exact h.nq g hg' hq
    · rw [e'] at hg'
      have := hQ g hq
      have := Option.some.inj hg'
      omega

theorem Held.other {K : Knd} {Q : Nat → Prop} {N B : Nat} {V : Nat → Value} {n : Nat → Nat} {W : World} {X : Nat → List Value} (h : Held K Q N B V n W X) {g o : Nat} (hB : g ≠ B) (hne : ∀ j, j < N → (V j).ownBlock ≠ some g) (u : Value) : Held K Q N B V n (W.setCell ⟨g, o, none⟩ u) X := by
  refine ⟨fun i hi => ?_, fun i hi => ownsRow_setCell_other (h.own i hi) (hne i hi) u, h.apart, h.off, by rw [World.size_setCell]; exact h.lt, h.nq⟩
  have e := Below.heap_setCell W ⟨g, o, none⟩ u B (fun e => hB e.symm)
  have := h.cell i hi
  simp only [World.cell?] at this ⊢
  rw [e]; exact this
theorem map_set {N k : Nat} {L : Nat → Value} {x : Value} : ((List.range N).map L).set k x = (List.range N).map (fun j => if j = k then x else L j) := by
  refine List.ext_getElem? (fun j => ?_)
  rw [List.getElem?_set]
  by_cases hj : j < N
  · rw [List.getElem?_map (f := fun j => if j = k then x else L j), List.getElem?_range hj]
    by_cases e : k = j
    · subst e
      simp [hj]
    · rw [if_neg e, List.getElem?_map, List.getElem?_range hj]
      have : j ≠ k := fun e' => e e'.symm
      simp [this]
  · have e1 : ((List.range N).map (fun j => if j = k then x else L j))[j]? = none := List.getElem?_eq_none (by simp; omega)
    rw [e1]
    split
    · rw [if_neg (by simp; omega)]
    · exact List.getElem?_eq_none (by simp; omega)
theorem GrowM.put {K : Knd} {Q : Nat → Prop} {N B : Nat} {V : Nat → Value} {n : Nat → Nat} {k g5 c5 : Nat} {L : Nat → Value} {x : Value} {W : World} (h : GrowM K Q N B V n k (.slice (some ⟨g5, 0, none⟩) N c5) L 16 x W) :
    LongM K Q N B V n (k + 1) (.slice (some ⟨g5, 0, none⟩) N c5) (fun j => if j = k then x else L j) (W.setCell ⟨g5, k, none⟩ x) := by
  have keep : ∀ {u : Value} {m : Nat} {xs : List Value}, W.ownsRow 0 K.e K.sz u m xs → u.ownBlock ≠ some g5 := fun hu hg => own_types hu h.longs.row (Ne.symm K.ne) g5 hg rfl
  have hB : g5 ≠ B := fun e => h.longs.off (by rw [e]; rfl)
  refine ⟨h.longs.held.other hB (fun j hj => keep (h.longs.held.own j hj)) x, ?_, ?_, ?_, h.longs.off, h.longs.nq⟩
  · intro j hj
    by_cases e : j = k
    · subst e; simp only [if_true]; exact ownsRow_setCell_other h.own (keep h.own) x
    · simp only [if_neg e]; exact ownsRow_setCell_other (h.longs.own j (by omega)) (keep (h.longs.own j (by omega))) x
  · intro j j' hj hj' hne g hgv
    by_cases e : j = k
    · subst e; simp only [if_true]; exact h.ap1 j' hj' hne g hgv
    · simp only [if_neg e]; exact h.longs.apart j j' (by omega) hj' hne g hgv
  · rw [← map_set]
    exact (h.longs.row.stored k x).1
theorem LongM.below {K : Knd} {Q : Nat → Prop} {N B : Nat} {V : Nat → Value} {n : Nat → Nat} {k : Nat} {v : Value} {L : Nat → Value} {W W' : World} (h : LongM K Q N B V n k v L W) (hb : Below W.heap.size W W') : LongM K Q N B V n k v L W' :=
  ⟨⟨fun j hj => (hb.cell (p := ⟨B, j, none⟩) h.held.lt).trans (h.held.cell j hj), fun j hj => own_below (h.held.own j hj) hb, h.held.apart, h.held.off, Nat.lt_of_lt_of_le h.held.lt hb.size, h.held.nq⟩,
    fun j hj => own_below (h.own j hj) hb, h.apart, own_below h.row hb, h.off, h.nq⟩

/-- What is read of the list k and of the longer one. -/
theorem LongM.reads {K : Knd} {Q : Nat → Prop} {N B : Nat} {V : Nat → Value} {n : Nat → Nat} {v : Value} {L : Nat → Value} {W : World} (h : LongM K Q N B V n N v L W) {k : Nat} (hk : k < N) :
    ∃ h5 c5 gl cl, v = .slice (some ⟨h5, 0, none⟩) N c5 ∧ W.cell? ⟨h5, k, none⟩ = some (.slice (some ⟨gl, 0, none⟩) (n k + 16) cl) ∧ W.cell? ⟨B, k, none⟩ = some (V k) ∧
      (∀ m, m < n k → Elm K W gl m k m) ∧ (∀ q, q < 16 → Elm K W gl (n k + q) (-1 - (k : Int)) q) ∧ (∀ m, m < n k → ∃ g cap, V k = .slice (some ⟨g, 0, none⟩) (n k) cap ∧ Elm K W g m k m) ∧ (∃ ra cap, V k = .slice ra (n k) cap) := by
  have hrow := h.row
  rcases hrow.2 with ⟨_, h0⟩ | ⟨h5, c5, cur5, hv5, _⟩
  · omega
  have hl := h.own k hk
  rcases hl.2 with ⟨_, h0⟩ | ⟨gl, cl, curl, hvl, _⟩
  · omega
  subst hv5
  have hc := hrow.cellAt k (by omega)
  rw [List.getElem?_map, List.getElem?_range hk] at hc
  rw [hvl] at hl
  have hml := marks_len K k (n k)
  refine ⟨h5, c5, gl, cl, rfl, by rw [hc]; simp [hvl], h.held.cell k hk, fun m hm => elm_of hl (by omega) fun j hj => ?_, fun q hq => elm_of hl (by omega) fun j hj => ?_, fun m hm => ?_, ?_⟩
  · have : m * K.sz + K.sz ≤ n k * K.sz := by rw [← Nat.succ_mul]; exact Nat.mul_le_mul_right _ (by omega)
    rw [List.getElem?_append_left (by omega)]; exact marks_get _ _ _ _ _ hm hj
  · have e : (n k + q) * K.sz = n k * K.sz + q * K.sz := Nat.add_mul _ _ _
    rw [List.getElem?_append_right (by omega), hml, show (n k + q) * K.sz + j - n k * K.sz = q * K.sz + j by omega]; exact marks_get _ _ _ _ _ hq hj
  · have ho := h.held.own k hk
    rcases ho.2 with ⟨_, h0⟩ | ⟨g, cap, cur, hv, _⟩
    · omega
    · rw [hv] at ho
      exact ⟨g, cap, hv, elm_of ho hm fun j hj => marks_get _ _ _ _ _ hm hj⟩
  · rcases (h.held.own k hk).2 with ⟨h, h0⟩ | ⟨g, cap, cur, hv, _⟩
    · exact ⟨none, 0, by rw [h, h0]⟩
    · exact ⟨_, cap, hv⟩

/-- Truths: the mark is bit b of the list's number. -/
def KB (b : Nat) : Knd := ⟨4, 1, 70, fun i _ => [.bool (bit b (if i < 0 then -1 - i else i).toNat)], fun _ _ => rfl, by decide, by decide⟩
theorem infoKB : (Tryz.prog.info? 4).map (fun i => (i.zero, i.size, i.bytes)) = some (some (.bool false), 1, 1) := by kernel_rfl
theorem infoLKB : (Tryz.prog.info? 70).map (fun i => (i.zero, i.size, i.bytes)) = some (some (.slice none 0 0), 1, 24) := by kernel_rfl
theorem markB (b i : Nat) (k : Int) : (KB b).mark i k = [.bool (bit b i)] := by
  show [Value.bool (bit b (if (i : Int) < 0 then -1 - (i : Int) else i).toNat)] = _
  rw [if_neg (by omega)]
  simp
theorem markB' (b i : Nat) (k : Int) : (KB b).mark (-1 - (i : Int)) k = [.bool (bit b i)] := by
  show [Value.bool (bit b (if -1 - (i : Int) < 0 then -1 - (-1 - (i : Int)) else -1 - (i : Int)).toNat)] = _
  rw [if_pos (by omega), show -1 - (-1 - (i : Int)) = i by omega]
  simp
theorem Held.turnB {Q : Nat → Prop} {N B b b' : Nat} {V : Nat → Value} {n : Nat → Nat} {W : World} {X : Nat → List Value} (h : Held (KB b) Q N B V n W X) : Held (KB b') Q N B V n W X := ⟨h.cell, h.own, h.apart, h.off, h.lt, h.nq⟩
/-- One whole stored. -/
theorem Held.putKB {Q : Nat → Prop} {N B b : Nat} {V : Nat → Value} {n : Nat → Nat} {W : World} {X : Nat → List Value} (h : Held (KB b) Q N B V n W X) {j g cap m : Nat} (hj : j < N) (hv : V j = .slice (some ⟨g, 0, none⟩) (n j) cap) (hm : m < n j)
    (i : Nat) (r : List Value) (hx : X j = marks (KB b) i m ++ r) :
    ∃ Z, Held (KB b) Q N B V n (W.setCell ⟨g, m, none⟩ (.bool (bit b i))) Z ∧ (∀ j', j' ≠ j → Z j' = X j') ∧ Z j = marks (KB b) i (m + 1) ++ r.drop 1 := by
  have hl : (X j).length = n j * 1 := (h.own j hj).1
  have hml : (marks (KB b) i m).length = m * 1 := marks_len (KB b) i m
  have hr : 1 ≤ r.length := by rw [hx, List.length_append, hml] at hl; omega
  have h4 := h.stored hj hv m (.bool (bit b i))
  refine ⟨_, h4, fun j' hj' => by simp [hj'], ?_⟩
  simp only [if_true]
  rw [hx]
  obtain ⟨x0, r0, rfl⟩ : ∃ x0 r0, r = x0 :: r0 := by
    cases r with
    | nil => simp at hr
    | cons x0 r0 => exact ⟨x0, r0, rfl⟩
  rw [List.set_append_right _ _ (by omega), hml, Nat.mul_one, Nat.sub_self, marks, List.append_assoc, markB]
  rfl
end Go.Proofs.YtdcmkifljcdmmaaGreatDoor
