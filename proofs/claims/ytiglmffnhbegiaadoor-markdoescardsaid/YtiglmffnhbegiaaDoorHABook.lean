/- The book with lists of ints and of waiters. -/
import Derived.Test.YtiglmffnhbegiaaDoorHOwnInts
import Derived.Test.YtiglmffnhbegiaaDoorHOwnWaiters
import Derived.Test.YtiglmffnhbegiaaDoorHDocNil
namespace Go.Proofs.YtiglmffnhbegiaaDoor
open Go.RowKit

/-- Lists of a kind, in a row of theirs. -/
structure Sh (K : Knd) (W : World) (v : Value) (N : Nat) (V : Nat → Value) (n : Nat → Nat) (X : Nat → List Value) : Prop where
  row : W.ownsRow 0 K.lt 1 v N ((List.range N).map V)
  own : ∀ j, j < N → W.ownsRow 0 K.e K.sz (V j) (n j) (X j)
  apart : ∀ j j', j < N → j' < N → j ≠ j' → ∀ g, (V j).ownBlock = some g → (V j').ownBlock ≠ some g
  small : ∀ j, j < N → n j ≤ 1000000
/-- Their blocks. -/
def ShF (v : Value) (N : Nat) (V : Nat → Value) (g : Nat) : Prop := v.ownBlock = some g ∨ ∃ j, j < N ∧ (V j).ownBlock = some g
theorem Sh.lt {K : Knd} {W : World} {v : Value} {N : Nat} {V : Nat → Value} {n : Nat → Nat} {X : Nat → List Value} (h : Sh K W v N V n X) : ∀ g, ShF v N V g → g < W.heap.size := fun g hg => by
  rcases hg with hg | ⟨j, hj, hg⟩
  · exact (h.row.lt g hg).2
  · exact ((h.own j hj).lt g hg).2
theorem Sh.kept {K : Knd} {W W' : World} {v : Value} {N : Nat} {V : Nat → Value} {n : Nat → Nat} {X : Nat → List Value} (h : Sh K W v N V n X) (hk : ∀ g, ShF v N V g → W'.heap[g]? = W.heap[g]?) : Sh K W' v N V n X :=
  ⟨own_same h.row (fun g hg => hk g (.inl hg)), fun j hj => own_same (h.own j hj) (fun g hg => hk g (.inr ⟨j, hj, hg⟩)), h.apart, h.small⟩
theorem sh_nil (K : Knd) (W : World) (V : Nat → Value) (n : Nat → Nat) (X : Nat → List Value) : Sh K W (.slice none 0 0) 0 V n X :=
  ⟨World.ownsRow_nil _ _ _ _, fun _ hj => absurd hj (Nat.not_lt_zero _), fun _ _ hj => absurd hj (Nat.not_lt_zero _), fun _ hj => absurd hj (Nat.not_lt_zero _)⟩
theorem Sh.held {K : Knd} {Q : Nat → Prop} {W : World} {B c N : Nat} {V : Nat → Value} {n : Nat → Nat} {X : Nat → List Value} (h : Sh K W (.slice (some ⟨B, 0, none⟩) N c) N V n X) (hq : ∀ j, j < N → ∀ g, (V j).ownBlock = some g → ¬ Q g) : Held K Q N B V n W X := by
  refine ⟨fun j hj => ?_, h.own, h.apart, fun j hj e => ?_, (h.row.lt B rfl).2, hq⟩
  · have := h.row.cellAt j (show j < N * 1 by omega)
    rw [List.getElem?_map, List.getElem?_range hj] at this
    exact this
  · exact own_types h.row (h.own j hj) K.ne B rfl e
/-- What Own does with them. -/
def Owns (K : Knd) (f : Nat) : Prop := ∀ (Q : Nat → Prop) (v : Value) (N : Nat) (V : Nat → Value) (n : Nat → Nat) (X : Nat → List Value) (w : World), N ≤ 1000000 → (∀ g, Q g → g < w.heap.size) → Sh K w v N V n X → (∀ j, j < N → ∀ g, (V j).ownBlock = some g → ¬ Q g) → Calls Tryd.prog f #[v] w fun e w' => e = .returned (.bool true) ∧ Fr Q w w'
theorem owns_ints : Owns KI 47 := fun Q v N V n X w hN hQ h hq => by
  rcases h.row.2 with ⟨rfl, rfl⟩ | ⟨B, cap, cur, rfl, _⟩
  · exact (ownInts_nil w).mono fun e w' h => ⟨h.1, Fr.of h.2 (fun g hg _ => hQ g hg)⟩
  · exact ownInts_any Q N B cap V n X w hN hQ h.small (h.held hq)
theorem owns_waiters : Owns KW 54 := fun Q v N V n X w hN hQ h hq => by
  rcases h.row.2 with ⟨rfl, rfl⟩ | ⟨B, cap, cur, rfl, _⟩
  · exact (ownWaiters_nil w).mono fun e w' h => ⟨h.1, Fr.of h.2 (fun g hg _ => hQ g hg)⟩
  · exact ownWaiters_any Q N B cap V n X w hN hQ h.small (h.held hq)
/-- The book in block b: lists of ints and of waiters alone. -/
structure Bi (W : World) (b : Nat) (vi vw : Value) : Prop where
  heap : W.heap[b]? = some (.cells #[.slice none 0 0, .slice none 0 0, vi, .slice none 0 0, .slice none 0 0, .slice none 0 0, .slice none 0 0, .slice none 0 0, .slice none 0 0, vw, .slice none 0 0, .slice none 0 0, .slice none 0 0, .slice none 0 0, .slice none 0 0, .slice none 0 0, .slice none 0 0] 60 (0, 0))
theorem Bi.lt {W : World} {b : Nat} {vi vw : Value} (h : Bi W b vi vw) : b < W.heap.size := heap_lt h.heap
theorem Bi.kept {W W' : World} {b : Nat} {vi vw : Value} (h : Bi W b vi vw) (hk : W'.heap[b]? = W.heap[b]?) : Bi W' b vi vw := ⟨hk.trans h.heap⟩
/-- The book and all that lies in it. -/
structure Bo (W : World) (b : Nat) (vi vw : Value) (Ni Nw : Nat) (Vi Vw : Nat → Value) : Prop where
  bi : Bi W b vi vw
  si : ∃ n X, Sh KI W vi Ni Vi n X
  sw : ∃ n X, Sh KW W vw Nw Vw n X
/-- Its blocks. -/
def BoF (b : Nat) (vi vw : Value) (Ni Nw : Nat) (Vi Vw : Nat → Value) (g : Nat) : Prop := g = b ∨ ShF vi Ni Vi g ∨ ShF vw Nw Vw g
theorem Bo.lt {W : World} {b : Nat} {vi vw : Value} {Ni Nw : Nat} {Vi Vw : Nat → Value} (h : Bo W b vi vw Ni Nw Vi Vw) : ∀ g, BoF b vi vw Ni Nw Vi Vw g → g < W.heap.size := fun g hg => by
  obtain ⟨_, _, h1⟩ := h.si
  obtain ⟨_, _, h2⟩ := h.sw
  rcases hg with rfl | hg | hg
  · exact h.bi.lt
  · exact h1.lt g hg
  · exact h2.lt g hg
theorem Bo.kept {W W' : World} {b : Nat} {vi vw : Value} {Ni Nw : Nat} {Vi Vw : Nat → Value} (h : Bo W b vi vw Ni Nw Vi Vw) (hk : ∀ g, BoF b vi vw Ni Nw Vi Vw g → W'.heap[g]? = W.heap[g]?) : Bo W' b vi vw Ni Nw Vi Vw := by
  obtain ⟨n1, X1, h1⟩ := h.si
  obtain ⟨n2, X2, h2⟩ := h.sw
  exact ⟨h.bi.kept (hk b (.inl rfl)), ⟨n1, X1, h1.kept (fun g hg => hk g (.inr (.inl hg)))⟩, ⟨n2, X2, h2.kept (fun g hg => hk g (.inr (.inr hg)))⟩⟩
/-- A list's block is none of the row's and the other lists', nor the book's. -/
theorem Bo.apart {W : World} {b : Nat} {vi vw : Value} {Ni Nw : Nat} {Vi Vw : Nat → Value} (h : Bo W b vi vw Ni Nw Vi Vw) : (∀ j, j < Ni → ∀ g, (Vi j).ownBlock = some g → g ≠ b ∧ ¬ ShF vw Nw Vw g) ∧ (∀ j, j < Nw → ∀ g, (Vw j).ownBlock = some g → g ≠ b) := by
  obtain ⟨n1, X1, h1⟩ := h.si
  obtain ⟨n2, X2, h2⟩ := h.sw
  refine ⟨fun j hj g hg => ⟨?_, fun hF => ?_⟩, fun j hj g hg => ?_⟩
  · obtain ⟨cs, hc⟩ := own_blk (h1.own j hj) hg
    exact ty_ne hc h.bi.heap (by decide)
  · rcases hF with hF | ⟨j', hj', hF⟩
    · exact own_types (h1.own j hj) h2.row (by decide) g hg hF
    · exact own_types (h1.own j hj) (h2.own j' hj') (by decide) g hg hF
  · obtain ⟨cs, hc⟩ := own_blk (h2.own j hj) hg
    exact ty_ne hc h.bi.heap (by decide)
end Go.Proofs.YtiglmffnhbegiaaDoor
