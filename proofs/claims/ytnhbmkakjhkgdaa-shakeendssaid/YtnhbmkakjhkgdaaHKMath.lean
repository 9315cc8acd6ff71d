/- Who has laid its roots: a shake as mathematics, and how it lies in memory. -/
import Derived.Test.YtnhbmkakjhkgdaaHABase
namespace Go.Proofs.Ytnhbmkakjhkgdaa
open Go.RowKit

/-- How many threads there are, whether it is in a cycle, who is left, who was asked. -/
structure Sk where
  n : Nat
  c : Bool
  l : Nat → Bool
  a : Nat → Bool
def put (f : Nat → Bool) (i : Nat) (v : Bool) (k : Nat) : Bool := if k = i then v else f k
theorem put_same (f : Nat → Bool) (i : Nat) (v : Bool) : put f i v i = v := by unfold put; rw [if_pos rfl]
theorem put_ne {f : Nat → Bool} {i k : Nat} {v : Bool} (h : k ≠ i) : put f i v k = f k := by unfold put; rw [if_neg h]
/-- What there is always. -/
structure Ok (s : Sk) : Prop where
  le : s.n ≤ 8
  nil : s.l 0 = false
  left : ∀ i, s.l i = true → s.c = true
  ask : ∀ i, s.a i = true → s.l i = true
  far : ∀ i, s.n < i → s.l i = false
def sk0 : Sk := ⟨0, false, fun _ => false, fun _ => false⟩
def isT (s : Sk) (t : Int) : Bool := decide (1 ≤ t) && decide (t ≤ s.n)
def isL (s : Sk) (t : Int) : Bool := isT s t && s.l t.toNat
def askedB (s : Sk) (t : Int) : Bool := isT s t && s.a t.toNat
def scanB (s : Sk) (t : Int) : Bool := isT s t && !s.l t.toNat
/-- The least from i on that is left, of k. -/
def least (f : Nat → Bool) (i : Nat) : Nat → Nat
  | 0 => 0
  | k + 1 => if f i then i else least f (i + 1) k
def leftM (s : Sk) : Nat := least s.l 0 (s.n + 1)
def bornM (s : Sk) (p : Int) : (Int × Int) × Sk :=
  if s.n = 8 then ((0, 2), s) else if (p ≠ 0 ∧ isT s p = false) then ((0, 140), s)
  else ((((s.n + 1 : Nat) : Int), 0), ⟨s.n + 1, s.c, put s.l (s.n + 1) (s.l p.toNat), s.a⟩)
def begM (s : Sk) : Int × Sk := if s.c then (140, s) else (0, ⟨s.n, true, fun k => if 1 ≤ k ∧ k ≤ s.n then true else s.l k, fun k => if 1 ≤ k ∧ k ≤ s.n then false else s.a k⟩)
def askM (s : Sk) (t : Int) : Int × Sk := if isL s t = false ∨ s.a t.toNat = true then (140, s) else (0, ⟨s.n, s.c, s.l, put s.a t.toNat true⟩)
def layM (s : Sk) (t : Int) : Int × Sk := if isL s t = false then (140, s) else (0, ⟨s.n, s.c, put s.l t.toNat false, put s.a t.toNat false⟩)
def endM (s : Sk) : Int × Sk := if s.c = false ∨ leftM s ≠ 0 then (140, s) else (0, ⟨s.n, false, s.l, s.a⟩)
/-- A shake in block b. -/
structure SL (w : World) (b : Nat) (s : Sk) : Prop where
  ex : ∃ cs, w.heap[b]? = some (.cells cs 52 (0, 0)) ∧ cs.size = 20 ∧ cs[0]? = some (.int .i64 s.n) ∧ cs[1]? = some (.bool s.c) ∧ ∀ i, i < 9 → cs[2 + i * 2]? = some (.bool (s.l i)) ∧ cs[2 + i * 2 + 1]? = some (.bool (s.a i))
theorem SL.lt {w : World} {b : Nat} {s : Sk} (h : SL w b s) : b < w.heap.size := by
  obtain ⟨cs, h1, _⟩ := h.ex
  exact heap_lt h1
theorem SL.kept {w w' : World} {b : Nat} {s : Sk} (h : SL w b s) (hk : w'.heap[b]? = w.heap[b]?) : SL w' b s := by
  obtain ⟨cs, h1, h2⟩ := h.ex
  exact ⟨cs, hk.trans h1, h2⟩
theorem SL.c0 {w : World} {b : Nat} {s : Sk} (h : SL w b s) : w.cell? ⟨b, 0, none⟩ = some (.int .i64 s.n) := by
  obtain ⟨cs, h1, _, h3, _⟩ := h.ex
  exact heap_cell h1 h3
theorem SL.c1 {w : World} {b : Nat} {s : Sk} (h : SL w b s) : w.cell? ⟨b, 1, none⟩ = some (.bool s.c) := by
  obtain ⟨cs, h1, _, _, h3, _⟩ := h.ex
  exact heap_cell h1 h3
theorem SL.cl {w : World} {b : Nat} {s : Sk} (h : SL w b s) {i : Nat} (hi : i < 9) : w.cell? ⟨b, 2 + i * 2, none⟩ = some (.bool (s.l i)) := by
  obtain ⟨cs, h1, _, _, _, h3⟩ := h.ex
  exact heap_cell h1 (h3 i hi).1
theorem SL.ca {w : World} {b : Nat} {s : Sk} (h : SL w b s) {i : Nat} (hi : i < 9) : w.cell? ⟨b, 2 + i * 2 + 1, none⟩ = some (.bool (s.a i)) := by
  obtain ⟨cs, h1, _, _, _, h3⟩ := h.ex
  exact heap_cell h1 (h3 i hi).2
theorem SL.fz {w : World} {b : Nat} {s : Sk} (h : SL w b s) (j : Nat) : w.frozen? ⟨b, j, none⟩ = false := by
  obtain ⟨cs, h1, _⟩ := h.ex
  simp [World.frozen?, h1]
theorem SL.setN {w : World} {b : Nat} {s : Sk} (h : SL w b s) (n : Nat) : SL (w.setCell ⟨b, 0, none⟩ (.int .i64 n)) b ⟨n, s.c, s.l, s.a⟩ := by
  obtain ⟨cs, h1, h2, h3, h4, h5⟩ := h.ex
  refine ⟨_, set_atC h1 _, by simp [h2], by simp [h2], ?_, fun i hi => ?_⟩
  · rw [Array.getElem?_setIfInBounds_ne (by omega)]; exact h4
  · rw [Array.getElem?_setIfInBounds_ne (by omega), Array.getElem?_setIfInBounds_ne (by omega)]; exact h5 i hi
theorem SL.setC {w : World} {b : Nat} {s : Sk} (h : SL w b s) (c : Bool) : SL (w.setCell ⟨b, 1, none⟩ (.bool c)) b ⟨s.n, c, s.l, s.a⟩ := by
  obtain ⟨cs, h1, h2, h3, h4, h5⟩ := h.ex
  refine ⟨_, set_atC h1 _, by simp [h2], ?_, by simp [h2], fun i hi => ?_⟩
  · rw [Array.getElem?_setIfInBounds_ne (by omega)]; exact h3
  · rw [Array.getElem?_setIfInBounds_ne (by omega), Array.getElem?_setIfInBounds_ne (by omega)]; exact h5 i hi
theorem SL.setL {w : World} {b : Nat} {s : Sk} (h : SL w b s) {i : Nat} (hi : i < 9) (v : Bool) : SL (w.setCell ⟨b, 2 + i * 2, none⟩ (.bool v)) b ⟨s.n, s.c, put s.l i v, s.a⟩ := by
  obtain ⟨cs, h1, h2, h3, h4, h5⟩ := h.ex
  refine ⟨_, set_atC h1 _, by simp [h2], ?_, ?_, fun k hk => ⟨?_, ?_⟩⟩
  · rw [Array.getElem?_setIfInBounds_ne (by omega)]; exact h3
  · rw [Array.getElem?_setIfInBounds_ne (by omega)]; exact h4
  · show _ = some (Value.bool (put s.l i v k))
    by_cases e : k = i
    · subst e
      rw [put_same, Array.getElem?_setIfInBounds_self_of_lt (by omega)]
    · rw [put_ne e, Array.getElem?_setIfInBounds_ne (by omega)]
      exact (h5 k hk).1
  · rw [Array.getElem?_setIfInBounds_ne (by omega)]
    exact (h5 k hk).2
theorem SL.setA {w : World} {b : Nat} {s : Sk} (h : SL w b s) {i : Nat} (hi : i < 9) (v : Bool) : SL (w.setCell ⟨b, 2 + i * 2 + 1, none⟩ (.bool v)) b ⟨s.n, s.c, s.l, put s.a i v⟩ := by
  obtain ⟨cs, h1, h2, h3, h4, h5⟩ := h.ex
  refine ⟨_, set_atC h1 _, by simp [h2], ?_, ?_, fun k hk => ⟨?_, ?_⟩⟩
  · rw [Array.getElem?_setIfInBounds_ne (by omega)]; exact h3
  · rw [Array.getElem?_setIfInBounds_ne (by omega)]; exact h4
  · rw [Array.getElem?_setIfInBounds_ne (by omega)]
    exact (h5 k hk).1
  · show _ = some (Value.bool (put s.a i v k))
    by_cases e : k = i
    · subst e
      rw [put_same, Array.getElem?_setIfInBounds_self_of_lt (by omega)]
    · rw [put_ne e, Array.getElem?_setIfInBounds_ne (by omega)]
      exact (h5 k hk).2
/-- What a call leaves: the shake, and all else as it was. -/
def KR (b : Nat) (s : Sk) (w w' : World) : Prop := SL w' b s ∧ (∀ g, g ≠ b → w'.heap[g]? = w.heap[g]?) ∧ Below 0 w w' ∧ w'.heap.size = w.heap.size
theorem SL.same {w : World} {b : Nat} {s : Sk} (h : SL w b s) : KR b s w w := ⟨h, fun _ _ => rfl, Below.refl _ _, rfl⟩
theorem KR.set {w w' : World} {b : Nat} {s s' : Sk} {j : Nat} {v : Value} (h : KR b s w w') (hs : SL (w'.setCell ⟨b, j, none⟩ v) b s') : KR b s' w (w'.setCell ⟨b, j, none⟩ v) :=
  ⟨hs, fun g hg => (Below.heap_setCell _ _ _ _ hg).trans (h.2.1 g hg), h.2.2.1.setCell (p := ⟨b, j, none⟩) (Nat.zero_le _) _, (World.size_setCell ..).trans h.2.2.2⟩
/-! ## What is kept -/
theorem ok0 : Ok sk0 := ⟨Nat.zero_le _, rfl, fun _ h => (nomatch h), fun _ h => (nomatch h), fun _ _ => rfl⟩
theorem isT_iff {s : Sk} {t : Int} : isT s t = true ↔ 1 ≤ t ∧ t ≤ s.n := by unfold isT; simp
theorem born_ok {s : Sk} (h : Ok s) (p : Int) : Ok (bornM s p).2 := by
  unfold bornM
  split
  · exact h
  · rename_i h8
    split
    · exact h
    · refine ⟨by have := h.le; show s.n + 1 ≤ 8; omega, ?_, fun i hi => ?_, fun i hi => ?_, fun i hi => ?_⟩
      · show put s.l (s.n + 1) (s.l p.toNat) 0 = false
        rw [put_ne (by omega)]; exact h.nil
      · by_cases e : i = s.n + 1
        · subst e
          have : put s.l (s.n + 1) (s.l p.toNat) (s.n + 1) = true := hi
          rw [put_same] at this
          exact h.left _ this
        · exact h.left i (by rw [← hi]; exact (put_ne e).symm)
      · have h1 := h.ask i hi
        have : i ≠ s.n + 1 := fun e => by
          have := h.far i (by omega)
          rw [h1] at this; cases this
        show put s.l (s.n + 1) (s.l p.toNat) i = true
        rw [put_ne this]; exact h1
      · have hi' : s.n + 1 < i := hi
        show put s.l (s.n + 1) (s.l p.toNat) i = false
        rw [put_ne (by omega)]
        exact h.far i (by omega)
theorem beg_ok {s : Sk} (h : Ok s) : Ok (begM s).2 := by
  unfold begM
  split
  · exact h
  · rename_i hc
    have hl : ∀ i, s.l i = false := fun i => by
      cases e : s.l i
      · rfl
      · exact absurd (h.left i e) hc
    have ha : ∀ i, s.a i = false := fun i => by
      cases e : s.a i
      · rfl
      · have := h.ask i e
        rw [hl i] at this; cases this
    refine ⟨h.le, ?_, fun _ _ => rfl, fun i hi => ?_, fun i hi => ?_⟩
    · show (if 1 ≤ 0 ∧ 0 ≤ s.n then true else s.l 0) = false
      rw [if_neg (by omega)]; exact hl 0
    · have : (if 1 ≤ i ∧ i ≤ s.n then false else s.a i) = true := hi
      split at this
      · cases this
      · rw [ha i] at this; cases this
    · have hi' : s.n < i := hi
      show (if 1 ≤ i ∧ i ≤ s.n then true else s.l i) = false
      rw [if_neg (by omega)]; exact hl i
theorem ask_ok {s : Sk} (h : Ok s) (t : Int) : Ok (askM s t).2 := by
  unfold askM
  split
  · exact h
  · rename_i hn
    refine ⟨h.le, h.nil, h.left, fun i hi => ?_, h.far⟩
    by_cases e : i = t.toNat
    · subst e
      show s.l _ = true
      have h1 : isL s t = true := by
        cases e : isL s t
        · exact absurd (.inl e) hn
        · rfl
      unfold isL at h1
      exact (Bool.and_eq_true_iff.1 h1).2
    · exact h.ask i (by rw [← hi]; exact (put_ne e).symm)
theorem lay_ok {s : Sk} (h : Ok s) (t : Int) : Ok (layM s t).2 := by
  unfold layM
  split
  · exact h
  · refine ⟨h.le, ?_, fun i hi => ?_, fun i hi => ?_, fun i hi => ?_⟩
    · show put s.l t.toNat false 0 = false
      by_cases e : 0 = t.toNat
      · rw [← e, put_same]
      · rw [put_ne e]; exact h.nil
    · by_cases e : i = t.toNat
      · have : put s.l t.toNat false i = true := hi
        rw [e, put_same] at this; cases this
      · exact h.left i (by rw [← hi]; exact (put_ne e).symm)
    · by_cases e : i = t.toNat
      · have : put s.a t.toNat false i = true := hi
        rw [e, put_same] at this; cases this
      · show put s.l t.toNat false i = true
        rw [put_ne e]
        exact h.ask i (by rw [← hi]; exact (put_ne e).symm)
    · show put s.l t.toNat false i = false
      by_cases e : i = t.toNat
      · rw [e, put_same]
      · rw [put_ne e]; exact h.far i hi
theorem least_none {f : Nat → Bool} (hf0 : f 0 = false) : ∀ {k i : Nat}, least f i k = 0 → (∀ j, i ≤ j → j < i + k → f j = false)
  | 0, i, _, j, h1, h2 => by omega
  | k + 1, i, h, j, h1, h2 => by
    unfold least at h
    split at h
    · rename_i hf
      rw [h, hf0] at hf
      cases hf
    · rename_i hf
      by_cases e : j = i
      · subst e; simpa using hf
      · exact least_none hf0 h j (by omega) (by omega)
theorem left_none {s : Sk} (h : Ok s) (h0 : leftM s = 0) : ∀ i, s.l i = false := fun i => by
  by_cases e2 : i ≤ s.n
  · exact least_none h.nil h0 i (Nat.zero_le _) (by omega)
  · exact h.far i (by omega)
theorem end_ok {s : Sk} (h : Ok s) : Ok (endM s).2 := by
  unfold endM
  split
  · exact h
  · rename_i hn
    have h0 : leftM s = 0 := Decidable.byContradiction fun e => hn (.inr e)
    have hl := left_none h h0
    exact ⟨h.le, h.nil, fun i hi => absurd (show s.l i = true from hi) (by rw [hl i]; decide), h.ask, h.far⟩
end Go.Proofs.Ytnhbmkakjhkgdaa
