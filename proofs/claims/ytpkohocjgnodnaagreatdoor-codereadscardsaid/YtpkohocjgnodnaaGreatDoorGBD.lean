/- The book's own.. over no list at all: true.; The book with lists of texts, words, instructions and procedures. -/
import Derived.Test.YtpkohocjgnodnaaGreatDoorGBC
import Derived.Test.YtpkohocjgnodnaaGreatDoorHZOwnN
import Derived.Test.YtpkohocjgnodnaaGreatDoorHZOwnP
import Derived.Test.YtpkohocjgnodnaaGreatDoorHZOwnT
import Derived.Test.YtpkohocjgnodnaaGreatDoorHZOwnW
import Derived.Handy
/- The book's own.. over no list at all: true. -/
namespace Go.Proofs.YtpkohocjgnodnaaGreatDoor
open Go.RowKit

set_option maxRecDepth 100000 in
set_option maxHeartbeats 1000000 in
theorem ownBytes_nil (w : World) : Calls Tryz.prog 49 #[.slice none 0 0] w fun e w' => e = .returned (.bool true) ∧ Below w.heap.size w w' := by
  go_enter Tryz.func49, Tryz.ntmps49
  go_wp2
  repeat (go_rounds 1)
  go_ret
  exact ⟨rfl, by first | exact Below.refl _ _ | exact (Below.refl _ _).alloc (Nat.le_refl _) _⟩

set_option maxRecDepth 100000 in
set_option maxHeartbeats 1000000 in
theorem ownTexts_nil (w : World) : Calls Tryz.prog 50 #[.slice none 0 0] w fun e w' => e = .returned (.bool true) ∧ Below w.heap.size w w' := by
  go_enter Tryz.func50, Tryz.ntmps50
  go_wp2
  repeat (go_rounds 1)
  go_ret
  exact ⟨rfl, by first | exact Below.refl _ _ | exact (Below.refl _ _).alloc (Nat.le_refl _) _⟩

set_option maxRecDepth 100000 in
set_option maxHeartbeats 1000000 in
theorem ownData_nil (w : World) : Calls Tryz.prog 62 #[.slice none 0 0] w fun e w' => e = .returned (.bool true) ∧ Below w.heap.size w w' := by
  go_enter Tryz.func62, Tryz.ntmps62
  go_wp2
  repeat (go_rounds 1)
  go_ret
  exact ⟨rfl, by first | exact Below.refl _ _ | exact (Below.refl _ _).alloc (Nat.le_refl _) _⟩

set_option maxRecDepth 100000 in
set_option maxHeartbeats 1000000 in
theorem ownInts_nil (w : World) : Calls Tryz.prog 51 #[.slice none 0 0] w fun e w' => e = .returned (.bool true) ∧ Below w.heap.size w w' := by
  go_enter Tryz.func51, Tryz.ntmps51
  go_wp2
  repeat (go_rounds 1)
  go_ret
  exact ⟨rfl, by first | exact Below.refl _ _ | exact (Below.refl _ _).alloc (Nat.le_refl _) _⟩

set_option maxRecDepth 100000 in
set_option maxHeartbeats 1000000 in
theorem ownLongs_nil (w : World) : Calls Tryz.prog 52 #[.slice none 0 0] w fun e w' => e = .returned (.bool true) ∧ Below w.heap.size w w' := by
  go_enter Tryz.func52, Tryz.ntmps52
  go_wp2
  repeat (go_rounds 1)
  go_ret
  exact ⟨rfl, by first | exact Below.refl _ _ | exact (Below.refl _ _).alloc (Nat.le_refl _) _⟩

set_option maxRecDepth 100000 in
set_option maxHeartbeats 1000000 in
theorem ownNumbers_nil (w : World) : Calls Tryz.prog 53 #[.slice none 0 0] w fun e w' => e = .returned (.bool true) ∧ Below w.heap.size w w' := by
  go_enter Tryz.func53, Tryz.ntmps53
  go_wp2
  repeat (go_rounds 1)
  go_ret
  exact ⟨rfl, by first | exact Below.refl _ _ | exact (Below.refl _ _).alloc (Nat.le_refl _) _⟩

set_option maxRecDepth 100000 in
set_option maxHeartbeats 1000000 in
theorem ownWords_nil (w : World) : Calls Tryz.prog 54 #[.slice none 0 0] w fun e w' => e = .returned (.bool true) ∧ Below w.heap.size w w' := by
  go_enter Tryz.func54, Tryz.ntmps54
  go_wp2
  repeat (go_rounds 1)
  go_ret
  exact ⟨rfl, by first | exact Below.refl _ _ | exact (Below.refl _ _).alloc (Nat.le_refl _) _⟩

set_option maxRecDepth 100000 in
set_option maxHeartbeats 1000000 in
theorem ownCells_nil (w : World) : Calls Tryz.prog 55 #[.slice none 0 0] w fun e w' => e = .returned (.bool true) ∧ Below w.heap.size w w' := by
  go_enter Tryz.func55, Tryz.ntmps55
  go_wp2
  repeat (go_rounds 1)
  go_ret
  exact ⟨rfl, by first | exact Below.refl _ _ | exact (Below.refl _ _).alloc (Nat.le_refl _) _⟩

set_option maxRecDepth 100000 in
set_option maxHeartbeats 1000000 in
theorem ownInstrs_nil (w : World) : Calls Tryz.prog 56 #[.slice none 0 0] w fun e w' => e = .returned (.bool true) ∧ Below w.heap.size w w' := by
  go_enter Tryz.func56, Tryz.ntmps56
  go_wp2
  repeat (go_rounds 1)
  go_ret
  exact ⟨rfl, by first | exact Below.refl _ _ | exact (Below.refl _ _).alloc (Nat.le_refl _) _⟩

set_option maxRecDepth 100000 in
set_option maxHeartbeats 1000000 in
theorem ownTokens_nil (w : World) : Calls Tryz.prog 57 #[.slice none 0 0] w fun e w' => e = .returned (.bool true) ∧ Below w.heap.size w w' := by
  go_enter Tryz.func57, Tryz.ntmps57
  go_wp2
  repeat (go_rounds 1)
  go_ret
  exact ⟨rfl, by first | exact Below.refl _ _ | exact (Below.refl _ _).alloc (Nat.le_refl _) _⟩

set_option maxRecDepth 100000 in
set_option maxHeartbeats 1000000 in
theorem ownWaiters_nil (w : World) : Calls Tryz.prog 58 #[.slice none 0 0] w fun e w' => e = .returned (.bool true) ∧ Below w.heap.size w w' := by
  go_enter Tryz.func58, Tryz.ntmps58
  go_wp2
  repeat (go_rounds 1)
  go_ret
  exact ⟨rfl, by first | exact Below.refl _ _ | exact (Below.refl _ _).alloc (Nat.le_refl _) _⟩

set_option maxRecDepth 100000 in
set_option maxHeartbeats 1000000 in
theorem ownEndeds_nil (w : World) : Calls Tryz.prog 59 #[.slice none 0 0] w fun e w' => e = .returned (.bool true) ∧ Below w.heap.size w w' := by
  go_enter Tryz.func59, Tryz.ntmps59
  go_wp2
  repeat (go_rounds 1)
  go_ret
  exact ⟨rfl, by first | exact Below.refl _ _ | exact (Below.refl _ _).alloc (Nat.le_refl _) _⟩

set_option maxRecDepth 100000 in
set_option maxHeartbeats 1000000 in
theorem ownErrs_nil (w : World) : Calls Tryz.prog 60 #[.slice none 0 0] w fun e w' => e = .returned (.bool true) ∧ Below w.heap.size w w' := by
  go_enter Tryz.func60, Tryz.ntmps60
  go_wp2
  repeat (go_rounds 1)
  go_ret
  exact ⟨rfl, by first | exact Below.refl _ _ | exact (Below.refl _ _).alloc (Nat.le_refl _) _⟩

set_option maxRecDepth 100000 in
set_option maxHeartbeats 1000000 in
theorem ownBools_nil (w : World) : Calls Tryz.prog 61 #[.slice none 0 0] w fun e w' => e = .returned (.bool true) ∧ Below w.heap.size w w' := by
  have hmk : ∀ w : World, (Instr.makeSlice 57 (.int .i64 0) (.int .i64 0)).run Tryz.prog w = .ok (.slice (some ⟨w.heap.size, 0, none⟩) 0 0) (w.alloc (.cells #[] 167)) := fun w => by kernel_rfl
  go_enter Tryz.func61, Tryz.ntmps61
  go_wp2
  repeat (go_rounds 1)
  go_ret
  exact ⟨rfl, by first | exact Below.refl _ _ | exact (Below.refl _ _).alloc (Nat.le_refl _) _⟩

set_option maxRecDepth 100000 in
set_option maxHeartbeats 1000000 in
theorem ownForms_nil (w : World) : Calls Tryz.prog 63 #[.slice none 0 0] w fun e w' => e = .returned (.bool true) ∧ Below w.heap.size w w' := by
  go_enter Tryz.func63, Tryz.ntmps63
  go_wp2
  repeat (go_rounds 1)
  go_ret
  exact ⟨rfl, by first | exact Below.refl _ _ | exact (Below.refl _ _).alloc (Nat.le_refl _) _⟩

set_option maxRecDepth 100000 in
set_option maxHeartbeats 1000000 in
theorem ownProcs_nil (w : World) : Calls Tryz.prog 64 #[.slice none 0 0] w fun e w' => e = .returned (.bool true) ∧ Below w.heap.size w w' := by
  go_enter Tryz.func64, Tryz.ntmps64
  go_wp2
  repeat (go_rounds 1)
  go_ret
  exact ⟨rfl, by first | exact Below.refl _ _ | exact (Below.refl _ _).alloc (Nat.le_refl _) _⟩

set_option maxRecDepth 100000 in
set_option maxHeartbeats 1000000 in
theorem ownLanes_nil (w : World) : Calls Tryz.prog 65 #[.slice none 0 0] w fun e w' => e = .returned (.bool true) ∧ Below w.heap.size w w' := by
  go_enter Tryz.func65, Tryz.ntmps65
  go_wp2
  repeat (go_rounds 1)
  go_ret
  exact ⟨rfl, by first | exact Below.refl _ _ | exact (Below.refl _ _).alloc (Nat.le_refl _) _⟩
end Go.Proofs.YtpkohocjgnodnaaGreatDoor

/- The book with lists of texts, words, instructions and procedures. -/
namespace Go.Proofs.YtpkohocjgnodnaaGreatDoor
open Go.RowKit

/-- Lists of a kind, in a row of theirs. -/
structure Sh (K : Knd) (W : World) (v : Value) (N : Nat) (V : Nat → Value) (n : Nat → Nat) (X : Nat → List Value) : Prop where
  row : W.ownsRow 0 K.lt 1 v N ((List.range N).map V)
  own : ∀ j, j < N → W.ownsRow 0 K.e K.sz (V j) (n j) (X j)
  apart : ∀ j j', j < N → j' < N → j ≠ j' → ∀ g, (V j).ownBlock = some g → (V j').ownBlock ≠ some g
  small : ∀ j, j < N → n j ≤ 1000000
/-- Their blocks. -/
def ShF (v : Value) (N : Nat) (V : Nat → Value) (g : Nat) : Prop := v.ownBlock = some g ∨ ∃ j, j < N ∧ (V j).ownBlock = some g
theorem Sh.lt {K : Knd} {W : World} {v : Value} {N : Nat} {V : Nat → Value} {n : Nat → Nat} {X : Nat → List Value} (h : Sh K W v N V n X) : ∀ g, ShF v N V g → g < W.heap.size := fun g hg => by
  rcases hg with hg | ⟨j, hj, hg⟩
  · exact (h.row.lt g hg).2
  · exact ((h.own j hj).lt g hg).2
theorem Sh.kept {K : Knd} {W W' : World} {v : Value} {N : Nat} {V : Nat → Value} {n : Nat → Nat} {X : Nat → List Value} (h : Sh K W v N V n X) (hk : ∀ g, ShF v N V g → W'.heap[g]? = W.heap[g]?) : Sh K W' v N V n X :=
  ⟨own_same h.row (fun g hg => hk g (.inl hg)), fun j hj => own_same (h.own j hj) (fun g hg => hk g (.inr ⟨j, hj, hg⟩)), h.apart, h.small⟩
theorem sh_nil (K : Knd) (W : World) (V : Nat → Value) (n : Nat → Nat) (X : Nat → List Value) : Sh K W (.slice none 0 0) 0 V n X :=
  ⟨World.ownsRow_nil _ _ _ _, fun _ hj => absurd hj (Nat.not_lt_zero _), fun _ _ hj => absurd hj (Nat.not_lt_zero _), fun _ hj => absurd hj (Nat.not_lt_zero _)⟩
theorem Sh.held {K : Knd} {Q : Nat → Prop} {W : World} {B c N : Nat} {V : Nat → Value} {n : Nat → Nat} {X : Nat → List Value} (h : Sh K W (.slice (some ⟨B, 0, none⟩) N c) N V n X) (hq : ∀ j, j < N → ∀ g, (V j).ownBlock = some g → ¬ Q g) : Held K Q N B V n W X := by
  refine ⟨fun j hj => ?_, h.own, h.apart, fun j hj e => ?_, (h.row.lt B rfl).2, hq⟩
  · have := h.row.cellAt j (show j < N * 1 by omega)
    rw [List.getElem?_map, List.getElem?_range hj] at this
    exact this
  · exact own_types h.row (h.own j hj) K.ne B rfl e
theorem slice_one (ra : Option Addr) (n c : Nat) : ∀ u ∈ [Value.slice ra n c], u.oneCell' = true := by
  intro u hu
  obtain rfl : u = .slice ra n c := by simpa using hu
  rfl
/-- One list more in a row. -/
theorem Sh.more {K : Knd} {W W' : World} {v v' : Value} {N : Nat} {V : Nat → Value} {n : Nat → Nat} {X : Nat → List Value} (h : Sh K W v N V n X) {l : Value} {m : Nat} {xs : List Value} (hl : W.ownsRow 0 K.e K.sz l m xs) (hm : m ≤ 1000000) (hf : ∀ g, l.ownBlock = some g → ¬ ShF v N V g)
    (hrow : W'.ownsRow 0 K.lt 1 v' (N + 1) ((List.range N).map V ++ [l])) (hk : ∀ g, g < W.heap.size → v.ownBlock ≠ some g → (∃ cs, W.heap[g]? = some (.cells cs K.e (0, 0))) → W'.heap[g]? = W.heap[g]?) :
    Sh K W' v' (N + 1) (fun j => if j = N then l else V j) (fun j => if j = N then m else n j) (fun j => if j = N then xs else X j) := by
  have keep : ∀ {u : Value} {k : Nat} {ys : List Value}, W.ownsRow 0 K.e K.sz u k ys → W'.ownsRow 0 K.e K.sz u k ys := fun hu => own_same hu (fun g hg => hk g (hu.lt g hg).2 (fun e => own_types h.row hu K.ne g e hg) (own_blk hu hg))
  refine ⟨?_, fun j hj => ?_, fun j j' hj hj' hne g hg => ?_, fun j hj => ?_⟩
  · rw [List.range_succ, List.map_append]
    have e1 : (List.range N).map (fun j => if j = N then l else V j) = (List.range N).map V := by
      apply List.map_congr_left
      intro j hj
      have := List.mem_range.1 hj
      rw [if_neg (by omega)]
    rw [e1]
    simpa using hrow
  · by_cases e : j = N
    · subst e; simp only [if_true]; exact keep hl
    · simp only [if_neg e]; exact keep (h.own j (by omega))
  · by_cases e : j = N
    · subst e
      simp only [if_true] at hg
      rw [if_neg (fun e => hne e.symm)]
      exact fun hg' => hf g hg (.inr ⟨j', by omega, hg'⟩)
    · simp only [if_neg e] at hg
      by_cases e' : j' = N
      · subst e'
        simp only [if_true]
        exact fun hg' => hf g hg' (.inr ⟨j, by omega, hg⟩)
      · simp only [if_neg e']
        exact h.apart j j' (by omega) (by omega) hne g hg
  · by_cases e : j = N
    · simp only [if_pos e]; exact hm
    · simp only [if_neg e]; exact h.small j (by omega)
theorem shf_more {v v' l : Value} {N s : Nat} {V : Nat → Value} (hw : v'.ownBlock = v.ownBlock ∨ ∃ g, v'.ownBlock = some g ∧ s ≤ g) : ∀ g, ShF v' (N + 1) (fun j => if j = N then l else V j) g → ShF v N V g ∨ l.ownBlock = some g ∨ s ≤ g := fun g hg => by
  rcases hg with hg | ⟨j, hj, hg⟩
  · rcases hw with e | ⟨g', e, hs⟩
    · exact .inl (.inl (by rw [← e]; exact hg))
    · rw [e] at hg
      have := Option.some.inj hg
      exact .inr (.inr (by omega))
  · have hg : (if j = N then l else V j).ownBlock = some g := hg
    by_cases e : j = N
    · rw [if_pos e] at hg; exact .inr (.inl hg)
    · rw [if_neg e] at hg; exact .inl (.inr ⟨j, by omega, hg⟩)
/-- The kinds, by their places in the book. -/
def KK (k : Nat) : Knd := if k = 1 then KS else if k = 5 then KV else if k = 7 then KN else KP
def Fo (k : Nat) : Prop := k = 1 ∨ k = 5 ∨ k = 7 ∨ k = 14
theorem kk_ne {k k' : Nat} (h : Fo k) (h' : Fo k') (hne : k ≠ k') : (KK k).e ≠ (KK k').e ∧ (KK k).lt ≠ (KK k').lt := by
  rcases h with rfl | rfl | rfl | rfl <;> rcases h' with rfl | rfl | rfl | rfl <;> first | exact absurd rfl hne | exact ⟨by decide, by decide⟩
theorem kk_lt {k k' : Nat} (h : Fo k) (h' : Fo k') : (KK k).e ≠ (KK k').lt := by
  rcases h with rfl | rfl | rfl | rfl <;> rcases h' with rfl | rfl | rfl | rfl <;> decide
theorem kk_bk {k : Nat} (h : Fo k) : (KK k).e ≠ 59 ∧ (KK k).lt ≠ 59 := by
  rcases h with rfl | rfl | rfl | rfl <;> exact ⟨by decide, by decide⟩
def nilV : Value := .slice none 0 0
/-- The book's block. -/
def BkH (W : World) (b : Nat) (c : Nat → Value) : Prop := W.heap[b]? = some (.cells #[nilV, c 1, nilV, nilV, nilV, c 5, nilV, c 7, nilV, nilV, nilV, nilV, nilV, nilV, c 14, nilV, nilV] 59 (0, 0))
/-- The book, and those of its kinds (U) that still lie as they were put in. -/
structure Bk (W : World) (b : Nat) (c : Nat → Value) (N : Nat → Nat) (V : Nat → Nat → Value) (U : Nat → Prop) : Prop where
  h : BkH W b c
  four : ∀ k, U k → Fo k
  sh : ∀ k, U k → ∃ n X, Sh (KK k) W (c k) (N k) (V k) n X
/-- Its blocks. -/
def BkF (b : Nat) (c : Nat → Value) (N : Nat → Nat) (V : Nat → Nat → Value) (U : Nat → Prop) (g : Nat) : Prop := g = b ∨ ∃ k, U k ∧ ShF (c k) (N k) (V k) g
theorem Bk.lt {W : World} {b : Nat} {c : Nat → Value} {N : Nat → Nat} {V : Nat → Nat → Value} {U : Nat → Prop} (h : Bk W b c N V U) : ∀ g, BkF b c N V U g → g < W.heap.size := fun g hg => by
  rcases hg with rfl | ⟨k, hk, hg⟩
  · exact heap_lt h.h
  · obtain ⟨_, _, hs⟩ := h.sh k hk
    exact hs.lt g hg
theorem Bk.kept {W W' : World} {b : Nat} {c : Nat → Value} {N : Nat → Nat} {V : Nat → Nat → Value} {U : Nat → Prop} (h : Bk W b c N V U) (hk : ∀ g, BkF b c N V U g → W'.heap[g]? = W.heap[g]?) : Bk W' b c N V U :=
  ⟨(hk b (.inl rfl)).trans h.h, h.four, fun k hu => by
    obtain ⟨n, X, hs⟩ := h.sh k hu
    exact ⟨n, X, hs.kept (fun g hg => hk g (.inr ⟨k, hu, hg⟩))⟩⟩
theorem Bk.below {W W' : World} {b : Nat} {c : Nat → Value} {N : Nat → Nat} {V : Nat → Nat → Value} {U : Nat → Prop} (h : Bk W b c N V U) (hb : Below W.heap.size W W') : Bk W' b c N V U := h.kept (fun g hg => hb.block g (h.lt g hg))
theorem Bk.less {W : World} {b : Nat} {c : Nat → Value} {N : Nat → Nat} {V : Nat → Nat → Value} {U U' : Nat → Prop} (h : Bk W b c N V U) (hu : ∀ k, U' k → U k) : Bk W b c N V U' := ⟨h.h, fun k hk => h.four k (hu k hk), fun k hk => h.sh k (hu k hk)⟩
/-- A list's block is none of the other kinds', nor the book's. -/
theorem Bk.apart {W : World} {b : Nat} {c : Nat → Value} {N : Nat → Nat} {V : Nat → Nat → Value} {U : Nat → Prop} (h : Bk W b c N V U) {k : Nat} (hk : U k) : ∀ j, j < N k → ∀ g, (V k j).ownBlock = some g → ¬ BkF b c N V (fun k' => U k' ∧ k' ≠ k) g := fun j hj g hg hF => by
  obtain ⟨n, X, hs⟩ := h.sh k hk
  rcases hF with rfl | ⟨k', ⟨hk', hne⟩, hF⟩
  · obtain ⟨cs, hc⟩ := own_blk (hs.own j hj) hg
    exact ty_ne hc h.h (kk_bk (h.four k hk)).1 rfl
  · obtain ⟨n', X', hs'⟩ := h.sh k' hk'
    rcases hF with hF | ⟨j', hj', hF⟩
    · exact own_types (hs.own j hj) hs'.row (kk_lt (h.four k hk) (h.four k' hk')) g hg hF
    · exact own_types (hs.own j hj) (hs'.own j' hj') (kk_ne (h.four k hk) (h.four k' hk') (fun e => hne e.symm)).1 g hg hF
/-- What Own does with a kind. -/
def Owns (K : Knd) (f : Nat) : Prop := ∀ (Q : Nat → Prop) (v : Value) (N : Nat) (V : Nat → Value) (n : Nat → Nat) (X : Nat → List Value) (w : World), N ≤ 1000 → (∀ g, Q g → g < w.heap.size) → Sh K w v N V n X → (∀ j, j < N → ∀ g, (V j).ownBlock = some g → ¬ Q g) → Calls Tryz.prog f #[v] w fun e w' => e = .returned (.bool true) ∧ FrQ Q w w'
theorem owns_texts : Owns KS 50 := fun Q v N V n X w hN hQ h hq => by
  rcases h.row.2 with ⟨rfl, rfl⟩ | ⟨B, cap, cur, rfl, _⟩
  · exact (ownTexts_nil w).mono fun e w' h => ⟨h.1, FrQ.of h.2 (fun g hg _ => hQ g hg)⟩
  · exact ownTexts_any Q N B cap V n X w hN hQ h.small (h.held hq)
theorem owns_words : Owns KV 54 := fun Q v N V n X w hN hQ h hq => by
  rcases h.row.2 with ⟨rfl, rfl⟩ | ⟨B, cap, cur, rfl, _⟩
  · exact (ownWords_nil w).mono fun e w' h => ⟨h.1, FrQ.of h.2 (fun g hg _ => hQ g hg)⟩
  · exact ownWords_any Q N B cap V n X w hN hQ h.small (h.held hq)
theorem owns_instrs : Owns KN 56 := fun Q v N V n X w hN hQ h hq => by
  rcases h.row.2 with ⟨rfl, rfl⟩ | ⟨B, cap, cur, rfl, _⟩
  · exact (ownInstrs_nil w).mono fun e w' h => ⟨h.1, FrQ.of h.2 (fun g hg _ => hQ g hg)⟩
  · exact ownInstrs_any Q N B cap V n X w hN hQ h.small (h.held hq)
theorem owns_procs : Owns KP 64 := fun Q v N V n X w hN hQ h hq => by
  rcases h.row.2 with ⟨rfl, rfl⟩ | ⟨B, cap, cur, rfl, _⟩
  · exact (ownProcs_nil w).mono fun e w' h => ⟨h.1, FrQ.of h.2 (fun g hg _ => hQ g hg)⟩
  · exact ownProcs_any Q N B cap V n X w hN hQ h.small (h.held hq)
/-- A kind is looked at. -/
theorem own_step {Q : Nat → Prop} {w W : World} {b : Nat} {c : Nat → Value} {N : Nat → Nat} {V : Nat → Nat → Value} {U : Nat → Prop} {k f : Nat} (hO : Owns (KK k) f) (h : Bk W b c N V U) (hk : U k) (hN : N k ≤ 1000) (hF : FrQ Q w W) (hQ : ∀ g, Q g → g < w.heap.size) (hq : ∀ j, j < N k → ∀ g, (V k j).ownBlock = some g → ¬ Q g) :
    Calls Tryz.prog f #[c k] W fun e w' => e = .returned (.bool true) ∧ FrQ Q w w' ∧ Bk w' b c N V (fun k' => U k' ∧ k' ≠ k) := by
  obtain ⟨n, X, hs⟩ := h.sh k hk
  refine (hO (fun g => Q g ∨ BkF b c N V (fun k' => U k' ∧ k' ≠ k) g) (c k) (N k) (V k) n X W hN (fun g hg => ?_) hs (fun j hj g hg hh => ?_)).mono ?_
  · rcases hg with hg | hg
    · exact Nat.lt_of_lt_of_le (hQ g hg) hF.1.size
    · exact (h.less (U' := fun k' => U k' ∧ k' ≠ k) (fun _ h => h.1)).lt g hg
  · rcases hh with hh | hh
    · exact hq j hj g hg hh
    · exact h.apart hk j hj g hg hh
  · rintro e w' ⟨he, hfr⟩
    have hl := h.less (U' := fun k' => U k' ∧ k' ≠ k) (fun _ h => h.1)
    exact ⟨he, hF.trans ⟨hfr.1, fun g hg hlt => hfr.2 g (.inl hg) hlt⟩, hl.kept (fun g hg => hfr.2 g (.inr hg) (hl.lt g hg))⟩
/-- No list of a kind. -/
theorem nil_step {Q : Nat → Prop} {w W : World} {b : Nat} {c : Nat → Value} {N : Nat → Nat} {V : Nat → Nat → Value} {U : Nat → Prop} {f : Nat} (hO : Calls Tryz.prog f #[.slice none 0 0] W fun e w' => e = .returned (.bool true) ∧ Below W.heap.size W w') (h : Bk W b c N V U) (hF : FrQ Q w W) (_ : ∀ g, Q g → g < w.heap.size) :
    Calls Tryz.prog f #[.slice none 0 0] W fun e w' => e = .returned (.bool true) ∧ FrQ Q w w' ∧ Bk w' b c N V U := by
  refine hO.mono ?_
  rintro e w' ⟨he, hb⟩
  exact ⟨he, hF.trans (FrQ.of hb (fun g _ hg => hg)), h.below hb⟩
end Go.Proofs.YtpkohocjgnodnaaGreatDoor
