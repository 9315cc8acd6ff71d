/- A lent heap and the book beside it. -/
import Derived.Test.YtigcpbndmiefhaaDoorHBWhole
import Derived.Test.YtigcpbndmiefhaaDoorHABookPut
import Derived.Test.YtigcpbndmiefhaaDoorHABookOwn
namespace Go.Proofs.YtigcpbndmiefhaaDoor
open Go.RowKit

abbrev nV : Nat → Value := fun _ => .slice none 0 0
structure SX (w0 W : World) (g bk : Nat) (H : List Cl) (vi : Value) (Ni : Nat) (Vi : Nat → Value) : Prop where
  lent : LentW W w0.heap.size g H
  book : Bo W bk vi (.slice none 0 0) Ni 0 Vi nV
  low : ∀ k, BoF bk vi (.slice none 0 0) Ni 0 Vi nV k → w0.heap.size ≤ k
  bel : Below w0.heap.size w0 W
  ok : ∀ x ∈ H, OkK x
theorem SX.below {w0 W W' : World} {g bk Ni : Nat} {H : List Cl} {vi : Value} {Vi : Nat → Value} (h : SX w0 W g bk H vi Ni Vi) (hb : Below W.heap.size W W') : SX w0 W' g bk H vi Ni Vi :=
  ⟨own_same h.lent (fun k hk => hb.block k (h.lent.lt k hk).2), h.book.kept (fun k hk => hb.block k (h.book.lt k hk)), h.low, h.bel.trans (hb.mono h.bel.size), h.ok⟩
/-- The lent heap's block is none of the book's. -/
theorem SX.far {w0 W : World} {g bk Ni : Nat} {H : List Cl} {vi : Value} {Vi : Nat → Value} (h : SX w0 W g bk H vi Ni Vi) : ¬ BoF bk vi (.slice none 0 0) Ni 0 Vi nV g := fun hf => by
  obtain ⟨cs, h1, _, _⟩ := lent_at h.lent
  obtain ⟨n1, X1, hs⟩ := h.book.si
  rcases hf with e | (e | ⟨j, hj, e⟩) | (e | ⟨j, hj, _⟩)
  · subst e
    exact ty_ne h1 h.book.bi.heap (by decide) rfl
  · obtain ⟨ds, hd⟩ := own_blk hs.row e
    exact ty_ne h1 hd (by decide) rfl
  · obtain ⟨ds, hd⟩ := own_blk (hs.own j hj) e
    exact ty_ne h1 hd (by decide) rfl
  · cases e
  · exact absurd hj (Nat.not_lt_zero _)
theorem SX.hr {w0 W : World} {g bk Ni : Nat} {H : List Cl} {vi : Value} {Vi : Nat → Value} (h : SX w0 W g bk H vi Ni Vi) : HR W (some ⟨g, 0, none⟩) H := hr_lent h.lent h.ok
/-- What putting a list into the book leaves. -/
structure Put (w0 W W' : World) (g bk : Nat) (H : List Cl) (vi : Value) (Ni : Nat) (Vi : Nat → Value) (l : Value) (vi' : Value) : Prop where
  sx : SX w0 W' g bk H vi' (Ni + 1) (fun j => if j = Ni then l else Vi j)
  foot : ∀ k, BoF bk vi' (.slice none 0 0) (Ni + 1) 0 (fun j => if j = Ni then l else Vi j) nV k → BoF bk vi (.slice none 0 0) Ni 0 Vi nV k ∨ l.ownBlock = some k ∨ W.heap.size ≤ k
  ints : ∀ (k : Nat) (cs : Array Value), W.heap[k]? = some (.cells cs 3 (0, 0)) → W'.heap[k]? = W.heap[k]?
theorem SX.put {w0 W : World} {g bk Ni : Nat} {H : List Cl} {vi : Value} {Vi : Nat → Value} (h : SX w0 W g bk H vi Ni Vi) (hN : Ni ≤ 1000000) {ra : Option Addr} {n c : Nat} {xs : List Value} (hl : W.ownsRow 0 3 1 (.slice ra n c) n xs) (hn : n ≤ 1000000)
    (hf : ∀ k, (Value.slice ra n c).ownBlock = some k → w0.heap.size ≤ k ∧ ¬ BoF bk vi (.slice none 0 0) Ni 0 Vi nV k) :
    Calls Tryd.prog 16 #[.pointer (some ⟨bk, 0, none⟩), .slice ra n c] W fun e W' => (∃ r, e = .returned r) ∧ ∃ vi', Put w0 W W' g bk H vi Ni Vi (.slice ra n c) vi' := by
  refine (bookInts_any bk vi (.slice none 0 0) Ni 0 Vi nV ra n c xs W h.book hN hl hn (fun k hk => (hf k hk).2)).mono fun e W' ⟨he, v', h1, h2, h3, h4⟩ => ⟨he, v', ?_⟩
  obtain ⟨b1, b2⟩ := h1 _ rfl
  refine ⟨⟨own_same h.lent (fun k hk => ?_), b1, fun k hk => ?_, h.bel.trans ⟨h2.os, h2.tape, h2.output, h2.size, fun k hk => ?_⟩, h.ok⟩, b2, fun k cs hk => h4 k cs (.inl hk)⟩
  · cases hk
    exact h3 g (h.lent.lt g rfl).2 h.far
  · rcases b2 k hk with e | e | e
    · exact h.low k e
    · exact (hf k e).1
    · exact Nat.le_trans h.bel.size e
  · refine h3 k (Nat.lt_of_lt_of_le hk h.bel.size) (fun e => ?_)
    have := h.low k e
    omega
theorem own_block_lt {W : World} {base e size n : Nat} {v : Value} {xs : List Value} (h : W.ownsRow base e size v n xs) : ∀ k, v.ownBlock = some k → base ≤ k ∧ k < W.heap.size := fun k hk => h.lt k hk
theorem own_low {W : World} {base e size n : Nat} {v : Value} {xs : List Value} (h : W.ownsRow base e size v n xs) : W.ownsRow 0 e size v n xs := by
  refine ⟨h.1, ?_⟩
  rcases h.2 with h' | ⟨g, cap, cur, hv, hb, r⟩
  · exact .inl h'
  · exact .inr ⟨g, cap, cur, hv, Nat.zero_le _, r⟩
/-- A new book. -/
theorem sx_new {w0 W : World} {g : Nat} {H : List Cl} (hl : LentW W w0.heap.size g H) (hb : Below w0.heap.size w0 W) (hk : ∀ x ∈ H, OkK x) {W' : World} (hb' : Below W.heap.size W W') (hbk : Bi W' W.heap.size (.slice none 0 0) (.slice none 0 0)) : SX w0 W' g W.heap.size H (.slice none 0 0) 0 nV := by
  refine ⟨own_same hl (fun k hk => hb'.block k (hl.lt k hk).2), ⟨hbk, ⟨_, _, sh_nil KI W' nV (fun _ => 0) (fun _ => [])⟩, ⟨_, _, sh_nil KW W' nV (fun _ => 0) (fun _ => [])⟩⟩, fun k hk => ?_, hb.trans (hb'.mono hb.size), hk⟩
  rcases hk with e | (e | ⟨j, hj, _⟩) | (e | ⟨j, hj, _⟩)
  · rw [e]; exact hb.size
  · cases e
  · exact absurd hj (Nat.not_lt_zero _)
  · cases e
  · exact absurd hj (Nat.not_lt_zero _)
end Go.Proofs.YtigcpbndmiefhaaDoor
