/- The book with lists of truths. -/
import Derived.Test.YtphpkedfcmghmaaDoorHOwnBools
import Derived.Test.YtphpkedfcmghmaaDoorHDocNil
namespace Go.Proofs.YtphpkedfcmghmaaDoor
open Go.RowKit

/-- Lists of a kind, in a row of theirs. -/
structure Sh (K : Knd) (W : World) (v : Value) (N : Nat) (V : Nat → Value) (n : Nat → Nat) (X : Nat → List Value) : Prop where
  row : W.ownsRow 0 K.lt 1 v N ((List.range N).map V)
  own : ∀ j, j < N → W.ownsRow 0 K.e K.sz (V j) (n j) (X j)
  apart : ∀ j j', j < N → j' < N → j ≠ j' → ∀ g, (V j).ownBlock = some g → (V j').ownBlock ≠ some g
  small : ∀ j, j < N → n j ≤ 1000000
/-- Their blocks. -/
def ShF (v : Value) (N : Nat) (V : Nat → Value) (g : Nat) : Prop := v.ownBlock = some g ∨ ∃ j, j < N ∧ (V j).ownBlock = some g
theorem Sh.lt {K : Knd} {W : World} {v : Value} {N : Nat} {V : Nat → Value} {n : Nat → Nat} {X : Nat → List Value} (h : Sh K W v N V n X) : ∀ g, ShF v N V g → g < W.heap.size := fun g hg => by
  rcases hg with hg | ⟨j, hj, hg⟩
  · exact (h.row.lt g hg).2
  · exact ((h.own j hj).lt g hg).2
theorem Sh.kept {K : Knd} {W W' : World} {v : Value} {N : Nat} {V : Nat → Value} {n : Nat → Nat} {X : Nat → List Value} (h : Sh K W v N V n X) (hk : ∀ g, ShF v N V g → W'.heap[g]? = W.heap[g]?) : Sh K W' v N V n X :=
  ⟨own_same h.row (fun g hg => hk g (.inl hg)), fun j hj => own_same (h.own j hj) (fun g hg => hk g (.inr ⟨j, hj, hg⟩)), h.apart, h.small⟩
theorem sh_nil (K : Knd) (W : World) (V : Nat → Value) (n : Nat → Nat) (X : Nat → List Value) : Sh K W (.slice none 0 0) 0 V n X :=
  ⟨World.ownsRow_nil _ _ _ _, fun _ hj => absurd hj (Nat.not_lt_zero _), fun _ _ hj => absurd hj (Nat.not_lt_zero _), fun _ hj => absurd hj (Nat.not_lt_zero _)⟩
theorem Sh.held {K : Knd} {Q : Nat → Prop} {W : World} {B c N : Nat} {V : Nat → Value} {n : Nat → Nat} {X : Nat → List Value} (h : Sh K W (.slice (some ⟨B, 0, none⟩) N c) N V n X) (hq : ∀ j, j < N → ∀ g, (V j).ownBlock = some g → ¬ Q g) : Held K Q N B V n W X := by
  refine ⟨fun j hj => ?_, h.own, h.apart, fun j hj e => ?_, (h.row.lt B rfl).2, hq⟩
  · have := h.row.cellAt j (show j < N * 1 by omega)
    rw [List.getElem?_map, List.getElem?_range hj] at this
    exact this
  · exact own_types h.row (h.own j hj) K.ne B rfl e
theorem slice_one (ra : Option Addr) (n c : Nat) : ∀ u ∈ [Value.slice ra n c], u.oneCell' = true := by
  intro u hu
  obtain rfl : u = .slice ra n c := by simpa using hu
  rfl
/-- One list more in a row. -/
theorem Sh.more {K : Knd} {W W' : World} {v v' : Value} {N : Nat} {V : Nat → Value} {n : Nat → Nat} {X : Nat → List Value} (h : Sh K W v N V n X) {l : Value} {m : Nat} {xs : List Value} (hl : W.ownsRow 0 K.e K.sz l m xs) (hm : m ≤ 1000000) (hf : ∀ g, l.ownBlock = some g → ¬ ShF v N V g)
    (hrow : W'.ownsRow 0 K.lt 1 v' (N + 1) ((List.range N).map V ++ [l])) (hk : ∀ g, g < W.heap.size → v.ownBlock ≠ some g → (∃ cs, W.heap[g]? = some (.cells cs K.e (0, 0))) → W'.heap[g]? = W.heap[g]?) :
    Sh K W' v' (N + 1) (fun j => if j = N then l else V j) (fun j => if j = N then m else n j) (fun j => if j = N then xs else X j) := by
  have keep : ∀ {u : Value} {k : Nat} {ys : List Value}, W.ownsRow 0 K.e K.sz u k ys → W'.ownsRow 0 K.e K.sz u k ys := fun hu => own_same hu (fun g hg => hk g (hu.lt g hg).2 (fun e => own_types h.row hu K.ne g e hg) (own_blk hu hg))
  refine ⟨?_, fun j hj => ?_, fun j j' hj hj' hne g hg => ?_, fun j hj => ?_⟩
  · rw [List.range_succ, List.map_append]
    have e1 : (List.range N).map (fun j => if j = N then l else V j) = (List.range N).map V := by
      apply List.map_congr_left
      intro j hj
      have := List.mem_range.1 hj
      rw [if_neg (by omega)]
    rw [e1]
    simpa using hrow
  · by_cases e : j = N
    · subst e; simp only [if_true]; exact keep hl
    · simp only [if_neg e]; exact keep (h.own j (by omega))
  · by_cases e : j = N
    · subst e
      simp only [if_true] at hg
      rw [if_neg (fun e => hne e.symm)]
      exact fun hg' => hf g hg (.inr ⟨j', by omega, hg'⟩)
    · simp only [if_neg e] at hg
      by_cases e' : j' = N
      · subst e'
        simp only [if_true]
        exact fun hg' => hf g hg' (.inr ⟨j, by omega, hg⟩)
      · simp only [if_neg e']
        exact h.apart j j' (by omega) (by omega) hne g hg
  · by_cases e : j = N
    · simp only [if_pos e]; exact hm
    · simp only [if_neg e]; exact h.small j (by omega)
/-- The blocks of a row with one list more. -/
theorem shf_more {v v' l : Value} {N s : Nat} {V : Nat → Value} (hw : v'.ownBlock = v.ownBlock ∨ ∃ g, v'.ownBlock = some g ∧ s ≤ g) : ∀ g, ShF v' (N + 1) (fun j => if j = N then l else V j) g → ShF v N V g ∨ l.ownBlock = some g ∨ s ≤ g := fun g hg => by
  rcases hg with hg | ⟨j, hj, hg⟩
  · rcases hw with e | ⟨g', e, hs⟩
    · exact .inl (.inl (by rw [← e]; exact hg))
    · rw [e] at hg
      have := Option.some.inj hg
      exact .inr (.inr (by omega))
  · have hg : (if j = N then l else V j).ownBlock = some g := hg
    by_cases e : j = N
    · rw [if_pos e] at hg; exact .inr (.inl hg)
    · rw [if_neg e] at hg; exact .inl (.inr ⟨j, by omega, hg⟩)

theorem fr_of {B : Nat → Prop} {w0 w w' : World} (hb : Fr B w0 w) (h3 : Below 0 w w') (_ : ∀ g, B g → g < w0.heap.size) (h2 : ∀ g, B g → w'.heap[g]? = w.heap[g]?) : Fr B w0 w' :=
  ⟨hb.1.trans h3, fun g hg hl => (h2 g hg).trans (hb.2 g hg hl)⟩
theorem fr_lt {B : Nat → Prop} {w0 w : World} (hb : Fr B w0 w) (hs : ∀ g, B g → g < w0.heap.size) {g : Nat} (hg : B g) : g < w.heap.size := Nat.lt_of_lt_of_le (hs g hg) hb.1.size

/-- The book in block b: lists of truths alone. -/
structure BB (W : World) (b : Nat) (v : Value) (N : Nat) (V : Nat → Value) : Prop where
  heap : W.heap[b]? = some (.cells #[.slice none 0 0, .slice none 0 0, .slice none 0 0, .slice none 0 0, .slice none 0 0, .slice none 0 0, .slice none 0 0, .slice none 0 0, .slice none 0 0, .slice none 0 0, .slice none 0 0, .slice none 0 0, .slice none 0 0, .slice none 0 0, .slice none 0 0, .slice none 0 0, v] 51 (0, 0))
  sh : ∃ n X, Sh (KB 0) W v N V n X
/-- Its blocks. -/
def BBF (b : Nat) (v : Value) (N : Nat) (V : Nat → Value) (g : Nat) : Prop := g = b ∨ ShF v N V g
theorem BB.lt {W : World} {b N : Nat} {v : Value} {V : Nat → Value} (h : BB W b v N V) : ∀ g, BBF b v N V g → g < W.heap.size := fun g hg => by
  obtain ⟨_, _, h1⟩ := h.sh
  rcases hg with rfl | hg
  · exact heap_lt h.heap
  · exact h1.lt g hg
theorem BB.kept {W W' : World} {b N : Nat} {v : Value} {V : Nat → Value} (h : BB W b v N V) (hk : ∀ g, BBF b v N V g → W'.heap[g]? = W.heap[g]?) : BB W' b v N V := by
  obtain ⟨n1, X1, h1⟩ := h.sh
  exact ⟨(hk b (.inl rfl)).trans h.heap, n1, X1, h1.kept (fun g hg => hk g (.inr hg))⟩
theorem BB.below {W W' : World} {b N : Nat} {v : Value} {V : Nat → Value} (h : BB W b v N V) (hb : Below W.heap.size W W') : BB W' b v N V := h.kept (fun g hg => hb.block g (h.lt g hg))
theorem BB.apart {W : World} {b N : Nat} {v : Value} {V : Nat → Value} (h : BB W b v N V) : ∀ j, j < N → ∀ g, (V j).ownBlock = some g → g ≠ b := fun j hj g hg => by
  obtain ⟨n1, X1, h1⟩ := h.sh
  obtain ⟨cs, hc⟩ := own_blk (h1.own j hj) hg
  exact ty_ne hc h.heap (by decide)
set_option maxRecDepth 100000 in
set_option maxHeartbeats 4000000 in
theorem bookBools_any (b N : Nat) (v : Value) (V : Nat → Value) (ra : Option Addr) (n c : Nat) (xs : List Value) (w : World) (h : BB w b v N V) (hN : N ≤ 1000000) (hl : w.ownsRow 0 4 1 (.slice ra n c) n xs) (hn : n ≤ 1000000) (hf : ∀ g, (Value.slice ra n c).ownBlock = some g → ¬ BBF b v N V g) :
    Calls Tryd.prog 30 #[.pointer (some ⟨b, 0, none⟩), .slice ra n c] w fun e w' => (∃ r, e = .returned r) ∧ ∃ v', (∀ l, l = .slice ra n c → BB w' b v' (N + 1) (fun j => if j = N then l else V j) ∧ ∀ g, BBF b v' (N + 1) (fun j => if j = N then l else V j) g → BBF b v N V g ∨ l.ownBlock = some g ∨ w.heap.size ≤ g) ∧ Below 0 w w' ∧ (∀ g, g < w.heap.size → ¬ BBF b v N V g → w'.heap[g]? = w.heap[g]?) ∧ ∀ (g : Nat) (cs : Array Value), w.heap[g]? = some (.cells cs 4 (0, 0)) → w'.heap[g]? = w.heap[g]? := by
  obtain ⟨i3, hi3, hy0, hy1, hy2⟩ := info_parts infoLKB
  have HH : Hid (BB w b v N V) := h
  have HL : Hid (w.ownsRow 0 4 1 (.slice ra n c) n xs) := hl
  have Hf : Hid (∀ g, (Value.slice ra n c).ownBlock = some g → ¬ BBF b v N V g) := hf
  obtain ⟨n1, X1, h1⟩ := h.sh
  have HS : Hid (Sh (KB 0) w v N V n1 X1) := h1
  have HR : Hid (w.ownsRow 0 73 1 v N ((List.range N).map V)) := h1.row
  obtain ⟨r0, q0, hv0⟩ := own_sl h1.row
  have cb : w.cell? ⟨b, 16, none⟩ = some v := heap_cell h.heap rfl
  have lb := heap_lt h.heap
  have HV : Hid (v = .slice r0 N q0) := hv0
  rw [hv0] at cb
  clear h hl hf h1 hv0
  go_enter Tryd.func30, Tryd.ntmps30
  go_wp2_with (at_builtin; refine stop_of ?_)
  unfold Hid
  rw [← HV.out]
  refine wpList_append_told _ rfl _ _ 49 rfl 0 73 i3 (.slice none 0 0) 1 24 Tryd.underlying49 hi3 hy0 hy1 hy2 rfl (by decide) v N ((List.range N).map V) rfl (HR.out.alloc _) _ 1 1 [.slice ra n c] rfl rfl (cell_one_new _ _ _) (slice_one _ _ _) (by unfold maxLen; omega) (by omega) (Nat.zero_le _) (by decide) ?_
  intro v1 w1 hown1 hgrow1 hold1 hw1
  obtain ⟨ra1, q1, hv1⟩ := own_sl hown1
  subst hv1
  have hs1 : w.heap.size ≤ w1.heap.size := by have := hgrow1.size; rw [World.size_alloc] at this; omega
  have hvb : ∀ g, v.ownBlock = some g → g ≠ b := fun g hg => by
    obtain ⟨cs, hc⟩ := own_blk HR.out hg
    exact ty_ne hc HH.out.heap (by decide)
  have kk : ∀ g, g < w.heap.size → v.ownBlock ≠ some g → w1.heap[g]? = w.heap[g]? := fun g hg hn => (hgrow1.block g (by rw [World.size_alloc]; omega) (fun e => hn e.symm)).trans (Below.heap_alloc _ _ _ hg)
  have hB1 := (kk b lb (fun e => hvb b e rfl)).trans HH.out.heap
  have cb1 : w1.cell? ⟨b, 16, none⟩ = some v := heap_cell hB1 rfl
  have fb1 : w1.frozen? ⟨b, 16, none⟩ = false := by simp [World.frozen?, hB1]
  have lb1 := heap_lt hB1
  have hw2 : (Value.slice ra1 (N + 1) q1).ownBlock = v.ownBlock ∨ ∃ g, (Value.slice ra1 (N + 1) q1).ownBlock = some g ∧ w.heap.size ≤ g := by
    rcases hw1 with e | e
    · exact .inl e
    · exact .inr ⟨_, e, by rw [World.size_alloc]; omega⟩
  have kb : ∀ u g, g ≠ b → (w1.setCell ⟨b, 16, none⟩ u).heap[g]? = w1.heap[g]? := fun u g hg => Below.heap_setCell _ _ _ _ hg
  have HF : Hid (∀ l, l = .slice ra n c → BB (w1.setCell ⟨b, 16, none⟩ (.slice ra1 (N + 1) q1)) b (.slice ra1 (N + 1) q1) (N + 1) (fun j => if j = N then l else V j) ∧ ∀ g, BBF b (.slice ra1 (N + 1) q1) (N + 1) (fun j => if j = N then l else V j) g → BBF b v N V g ∨ l.ownBlock = some g ∨ w.heap.size ≤ g) := fun l hl => by
    subst hl
    refine ⟨⟨by rw [set_atC hB1]; rfl, ⟨fun j => if j = N then n else n1 j, fun j => if j = N then xs else X1 j, ?_⟩⟩, fun g hg => ?_⟩
    · refine (HS.out.more HL.out hn (fun g hg hF => Hf.out g hg (.inr hF)) (own_same hown1 (fun g hg => kb _ g ?_)) (fun g hg hne hty => ?_))
      · obtain ⟨cs, hc⟩ := own_blk hown1 hg
        exact ty_ne hc hB1 (by decide)
      · obtain ⟨cs, hc⟩ := hty
        rw [kb _ g (ty_ne hc HH.out.heap (by decide)), kk g hg hne]
    · rcases hg with rfl | hg
      · exact .inl (.inl rfl)
      · rcases shf_more hw2 g hg with h | h | h
        · exact .inl (.inr h)
        · exact .inr (.inl h)
        · exact .inr (.inr h)
  have HB : Hid (Below 0 w (w1.setCell ⟨b, 16, none⟩ (.slice ra1 (N + 1) q1))) := ((((Below.refl 0 w).alloc (Nat.zero_le _) _).grown hgrow1 (Nat.zero_le _) (fun _ _ => Nat.zero_le _))).setCell (p := ⟨b, 16, none⟩) (Nat.zero_le _) _
  have HK : Hid (∀ g, g < w.heap.size → ¬ BBF b v N V g → (w1.setCell ⟨b, 16, none⟩ (.slice ra1 (N + 1) q1)).heap[g]? = w.heap[g]?) := fun g hg hn => (kb _ g (fun e => hn (.inl e))).trans (kk g hg (fun e => hn (.inr (.inl e))))
  have HY : Hid (∀ (g : Nat) (cs : Array Value), w.heap[g]? = some (.cells cs 4 (0, 0)) → (w1.setCell ⟨b, 16, none⟩ (.slice ra1 (N + 1) q1)).heap[g]? = w.heap[g]?) := fun g cs hg => (kb _ g (ty_ne hg HH.out.heap (by decide))).trans (kk g (heap_lt hg) (own_ty HR.out hg (by decide)))
  clear hown1 hgrow1 hold1 hw1 hvb kk hB1 hw2 kb
  go_wp2_with fail
  exact bodyPost_end (results_none rfl _ _ _) rfl ⟨⟨_, rfl⟩, _, HF.out, HB.out, HK.out, HY.out⟩
theorem owns_bools (Q : Nat → Prop) (v : Value) (N : Nat) (V : Nat → Value) (n : Nat → Nat) (X : Nat → List Value) (w : World) (hN : N ≤ 1000000) (hQ : ∀ g, Q g → g < w.heap.size) (h : Sh (KB 0) w v N V n X) (hq : ∀ j, j < N → ∀ g, (V j).ownBlock = some g → ¬ Q g) : Calls Tryd.prog 46 #[v] w fun e w' => e = .returned (.bool true) ∧ Fr Q w w' := by
  rcases h.row.2 with ⟨rfl, rfl⟩ | ⟨B, cap, cur, rfl, _⟩
  · exact (ownBools_nil w).mono fun e w' h => ⟨h.1, Fr.of h.2 (fun g hg _ => hQ g hg)⟩
  · exact ownBools_any Q N B cap V n X w hN hQ h.small (h.held hq)
end Go.Proofs.YtphpkedfcmghmaaDoor
