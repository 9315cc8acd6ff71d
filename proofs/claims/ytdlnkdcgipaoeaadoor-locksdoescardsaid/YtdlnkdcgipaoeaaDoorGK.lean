/- The book with lists of ints and of waiters.; The book: a list put in. -/
import Derived.Test.YtdlnkdcgipaoeaaDoorHDocNil
import Derived.Test.YtdlnkdcgipaoeaaDoorHOwnInts
import Derived.Test.YtdlnkdcgipaoeaaDoorHOwnWaiters
/- The book with lists of ints and of waiters. -/
namespace Go.Proofs.YtdlnkdcgipaoeaaDoor
open Go.RowKit

/-- Lists of a kind, in a row of theirs. -/
structure ShL (K : Knd) (W : World) (v : Value) (N : Nat) (V : Nat → Value) (n : Nat → Nat) (X : Nat → List Value) : Prop where
  row : W.ownsRow 0 K.lt 1 v N ((List.range N).map V)
  own : ∀ j, j < N → W.ownsRow 0 K.e K.sz (V j) (n j) (X j)
  apart : ∀ j j', j < N → j' < N → j ≠ j' → ∀ g, (V j).ownBlock = some g → (V j').ownBlock ≠ some g
  small : ∀ j, j < N → n j ≤ 1000000
/-- Their blocks. -/
def ShF (v : Value) (N : Nat) (V : Nat → Value) (g : Nat) : Prop := v.ownBlock = some g ∨ ∃ j, j < N ∧ (V j).ownBlock = some g
theorem ShL.lt {K : Knd} {W : World} {v : Value} {N : Nat} {V : Nat → Value} {n : Nat → Nat} {X : Nat → List Value} (h : ShL K W v N V n X) : ∀ g, ShF v N V g → g < W.heap.size := fun g hg => by
  rcases hg with hg | ⟨j, hj, hg⟩
  · exact (h.row.lt g hg).2
  · exact ((h.own j hj).lt g hg).2
theorem ShL.kept {K : Knd} {W W' : World} {v : Value} {N : Nat} {V : Nat → Value} {n : Nat → Nat} {X : Nat → List Value} (h : ShL K W v N V n X) (hk : ∀ g, ShF v N V g → W'.heap[g]? = W.heap[g]?) : ShL K W' v N V n X :=
  ⟨own_same h.row (fun g hg => hk g (.inl hg)), fun j hj => own_same (h.own j hj) (fun g hg => hk g (.inr ⟨j, hj, hg⟩)), h.apart, h.small⟩
theorem sh_nil (K : Knd) (W : World) (V : Nat → Value) (n : Nat → Nat) (X : Nat → List Value) : ShL K W (.slice none 0 0) 0 V n X :=
  ⟨World.ownsRow_nil _ _ _ _, fun _ hj => absurd hj (Nat.not_lt_zero _), fun _ _ hj => absurd hj (Nat.not_lt_zero _), fun _ hj => absurd hj (Nat.not_lt_zero _)⟩
theorem ShL.held {K : Knd} {Q : Nat → Prop} {W : World} {B c N : Nat} {V : Nat → Value} {n : Nat → Nat} {X : Nat → List Value} (h : ShL K W (.slice (some ⟨B, 0, none⟩) N c) N V n X) (hq : ∀ j, j < N → ∀ g, (V j).ownBlock = some g → ¬ Q g) : Held K Q N B V n W X := by
  refine ⟨fun j hj => ?_, h.own, h.apart, fun j hj e => ?_, (h.row.lt B rfl).2, hq⟩
  · have := h.row.cellAt j (show j < N * 1 by omega)
    rw [List.getElem?_map, List.getElem?_range hj] at this
    exact this
  · exact own_types h.row (h.own j hj) K.ne B rfl e
/-- What Own does with them. -/
def Owns (K : Knd) (f : Nat) : Prop := ∀ (Q : Nat → Prop) (v : Value) (N : Nat) (V : Nat → Value) (n : Nat → Nat) (X : Nat → List Value) (w : World), N ≤ 1000000 → (∀ g, Q g → g < w.heap.size) → ShL K w v N V n X → (∀ j, j < N → ∀ g, (V j).ownBlock = some g → ¬ Q g) → Calls Tryd.prog f #[v] w fun e w' => e = .returned (.bool true) ∧ Fr Q w w'
theorem owns_ints : Owns KI 48 := fun Q v N V n X w hN hQ h hq => by
  rcases h.row.2 with ⟨rfl, rfl⟩ | ⟨B, cap, cur, rfl, _⟩
  · exact (ownInts_nil w).mono fun e w' h => ⟨h.1, Fr.of h.2 (fun g hg _ => hQ g hg)⟩
  · exact ownInts_any Q N B cap V n X w hN hQ h.small (h.held hq)
theorem owns_waiters : Owns KW 55 := fun Q v N V n X w hN hQ h hq => by
  rcases h.row.2 with ⟨rfl, rfl⟩ | ⟨B, cap, cur, rfl, _⟩
  · exact (ownWaiters_nil w).mono fun e w' h => ⟨h.1, Fr.of h.2 (fun g hg _ => hQ g hg)⟩
  · exact ownWaiters_any Q N B cap V n X w hN hQ h.small (h.held hq)
/-- The book in block b: lists of ints and of waiters alone. -/
structure Bi (W : World) (b : Nat) (vi vw : Value) : Prop where
  heap : W.heap[b]? = some (.cells #[.slice none 0 0, .slice none 0 0, vi, .slice none 0 0, .slice none 0 0, .slice none 0 0, .slice none 0 0, .slice none 0 0, .slice none 0 0, vw, .slice none 0 0, .slice none 0 0, .slice none 0 0, .slice none 0 0, .slice none 0 0, .slice none 0 0, .slice none 0 0] 45 (0, 0))
theorem Bi.lt {W : World} {b : Nat} {vi vw : Value} (h : Bi W b vi vw) : b < W.heap.size := heap_lt h.heap
theorem Bi.kept {W W' : World} {b : Nat} {vi vw : Value} (h : Bi W b vi vw) (hk : W'.heap[b]? = W.heap[b]?) : Bi W' b vi vw := ⟨hk.trans h.heap⟩
/-- The book and all that lies in it. -/
structure Bo (W : World) (b : Nat) (vi vw : Value) (Ni Nw : Nat) (Vi Vw : Nat → Value) : Prop where
  bi : Bi W b vi vw
  si : ∃ n X, ShL KI W vi Ni Vi n X
  sw : ∃ n X, ShL KW W vw Nw Vw n X
/-- Its blocks. -/
def BoF (b : Nat) (vi vw : Value) (Ni Nw : Nat) (Vi Vw : Nat → Value) (g : Nat) : Prop := g = b ∨ ShF vi Ni Vi g ∨ ShF vw Nw Vw g
theorem Bo.lt {W : World} {b : Nat} {vi vw : Value} {Ni Nw : Nat} {Vi Vw : Nat → Value} (h : Bo W b vi vw Ni Nw Vi Vw) : ∀ g, BoF b vi vw Ni Nw Vi Vw g → g < W.heap.size := fun g hg => by
  obtain ⟨_, _, h1⟩ := h.si
  obtain ⟨_, _, h2⟩ := h.sw
  rcases hg with rfl | hg | hg
  · exact h.bi.lt
  · exact h1.lt g hg
  · exact h2.lt g hg
theorem Bo.kept {W W' : World} {b : Nat} {vi vw : Value} {Ni Nw : Nat} {Vi Vw : Nat → Value} (h : Bo W b vi vw Ni Nw Vi Vw) (hk : ∀ g, BoF b vi vw Ni Nw Vi Vw g → W'.heap[g]? = W.heap[g]?) : Bo W' b vi vw Ni Nw Vi Vw := by
  obtain ⟨n1, X1, h1⟩ := h.si
  obtain ⟨n2, X2, h2⟩ := h.sw
  exact ⟨h.bi.kept (hk b (.inl rfl)), ⟨n1, X1, h1.kept (fun g hg => hk g (.inr (.inl hg)))⟩, ⟨n2, X2, h2.kept (fun g hg => hk g (.inr (.inr hg)))⟩⟩
/-- A list's block is none of the row's and the other lists', nor the book's. -/
theorem Bo.apart {W : World} {b : Nat} {vi vw : Value} {Ni Nw : Nat} {Vi Vw : Nat → Value} (h : Bo W b vi vw Ni Nw Vi Vw) : (∀ j, j < Ni → ∀ g, (Vi j).ownBlock = some g → g ≠ b ∧ ¬ ShF vw Nw Vw g) ∧ (∀ j, j < Nw → ∀ g, (Vw j).ownBlock = some g → g ≠ b) := by
  obtain ⟨n1, X1, h1⟩ := h.si
  obtain ⟨n2, X2, h2⟩ := h.sw
  refine ⟨fun j hj g hg => ⟨?_, fun hF => ?_⟩, fun j hj g hg => ?_⟩
  · obtain ⟨cs, hc⟩ := own_blk (h1.own j hj) hg
    exact ty_ne hc h.bi.heap (by decide)
  · rcases hF with hF | ⟨j', hj', hF⟩
    · exact own_types (h1.own j hj) h2.row (by decide) g hg hF
    · exact own_types (h1.own j hj) (h2.own j' hj') (by decide) g hg hF
  · obtain ⟨cs, hc⟩ := own_blk (h2.own j hj) hg
    exact ty_ne hc h.bi.heap (by decide)
end Go.Proofs.YtdlnkdcgipaoeaaDoor

/- The book: a list put in. -/
namespace Go.Proofs.YtdlnkdcgipaoeaaDoor
open Go.RowKit

theorem slice_one (ra : Option Addr) (n c : Nat) : ∀ u ∈ [Value.slice ra n c], u.oneCell' = true := by
  intro u hu
  obtain rfl : u = .slice ra n c := by simpa using hu
  rfl
/-- One list more in a row. -/
theorem ShL.more {K : Knd} {W W' : World} {v v' : Value} {N : Nat} {V : Nat → Value} {n : Nat → Nat} {X : Nat → List Value} (h : ShL K W v N V n X) {l : Value} {m : Nat} {xs : List Value} (hl : W.ownsRow 0 K.e K.sz l m xs) (hm : m ≤ 1000000) (hf : ∀ g, l.ownBlock = some g → ¬ ShF v N V g)
    (hrow : W'.ownsRow 0 K.lt 1 v' (N + 1) ((List.range N).map V ++ [l])) (hk : ∀ g, g < W.heap.size → v.ownBlock ≠ some g → (∃ cs, W.heap[g]? = some (.cells cs K.e (0, 0))) → W'.heap[g]? = W.heap[g]?) :
    ShL K W' v' (N + 1) (fun j => if j = N then l else V j) (fun j => if j = N then m else n j) (fun j => if j = N then xs else X j) := by
  have keep : ∀ {u : Value} {k : Nat} {ys : List Value}, W.ownsRow 0 K.e K.sz u k ys → W'.ownsRow 0 K.e K.sz u k ys := fun hu => own_same hu (fun g hg => hk g (hu.lt g hg).2 (fun e => own_types h.row hu K.ne g e hg) (own_blk hu hg))
  refine ⟨?_, fun j hj => ?_, fun j j' hj hj' hne g hg => ?_, fun j hj => ?_⟩
  · rw [List.range_succ, List.map_append]
    have e1 : (List.range N).map (fun j => if j = N then l else V j) = (List.range N).map V := by
      apply List.map_congr_left
      intro j hj
      have := List.mem_range.1 hj
      rw [if_neg (by omega)]
    rw [e1]
    simpa using hrow
  · by_cases e : j = N
    · subst e; simp only [if_true]; exact keep hl
    · simp only [if_neg e]; exact keep (h.own j (by omega))
  · by_cases e : j = N
    · subst e
      simp only [if_true] at hg
      rw [if_neg (fun e => hne e.symm)]
      exact fun hg' => hf g hg (.inr ⟨j', by omega, hg'⟩)
    · simp only [if_neg e] at hg
      by_cases e' : j' = N
      · subst e'
        simp only [if_true]
        exact fun hg' => hf g hg' (.inr ⟨j, by omega, hg⟩)
      · simp only [if_neg e']
        exact h.apart j j' (by omega) (by omega) hne g hg
  · by_cases e : j = N
    · simp only [if_pos e]; exact hm
    · simp only [if_neg e]; exact h.small j (by omega)
/-- The blocks of a row with one list more. -/
theorem shf_more {v v' l : Value} {N s : Nat} {V : Nat → Value} (hw : v'.ownBlock = v.ownBlock ∨ ∃ g, v'.ownBlock = some g ∧ s ≤ g) : ∀ g, ShF v' (N + 1) (fun j => if j = N then l else V j) g → ShF v N V g ∨ l.ownBlock = some g ∨ s ≤ g := fun g hg => by
  rcases hg with hg | ⟨j, hj, hg⟩
  · rcases hw with e | ⟨g', e, hs⟩
    · exact .inl (.inl (by rw [← e]; exact hg))
    · rw [e] at hg
      have := Option.some.inj hg
      exact .inr (.inr (by omega))
  · have hg : (if j = N then l else V j).ownBlock = some g := hg
    by_cases e : j = N
    · rw [if_pos e] at hg; exact .inr (.inl hg)
    · rw [if_neg e] at hg; exact .inl (.inr ⟨j, by omega, hg⟩)

set_option maxRecDepth 100000 in
set_option maxHeartbeats 4000000 in
theorem bookInts_any (b : Nat) (vi vw : Value) (Ni Nw : Nat) (Vi Vw : Nat → Value) (ra : Option Addr) (n c : Nat) (xs : List Value) (w : World) (h : Bo w b vi vw Ni Nw Vi Vw) (hN : Ni ≤ 1000000) (hl : w.ownsRow 0 KI.e KI.sz (.slice ra n c) n xs) (hn : n ≤ 1000000) (hf : ∀ g, (Value.slice ra n c).ownBlock = some g → ¬ BoF b vi vw Ni Nw Vi Vw g) :
    Calls Tryd.prog 34 #[.pointer (some ⟨b, 0, none⟩), .slice ra n c] w fun e w' => (∃ r, e = .returned r) ∧ ∃ v', (∀ l, l = .slice ra n c → Bo w' b v' vw (Ni + 1) Nw (fun j => if j = Ni then l else Vi j) Vw ∧ ∀ g, BoF b v' vw (Ni + 1) Nw (fun j => if j = Ni then l else Vi j) Vw g → BoF b vi vw Ni Nw Vi Vw g ∨ l.ownBlock = some g ∨ w.heap.size ≤ g) ∧ Below 0 w w' ∧ (∀ g, g < w.heap.size → ¬ BoF b vi vw Ni Nw Vi Vw g → w'.heap[g]? = w.heap[g]?) ∧ ∀ (g : Nat) (cs : Array Value), (w.heap[g]? = some (.cells cs 3 (0, 0)) ∨ w.heap[g]? = some (.cells cs 165 (0, 0))) → w'.heap[g]? = w.heap[g]? := by
  obtain ⟨i3, hi3, hy0, hy1, hy2⟩ := info_parts infoLKI
  have HH : Hid (Bo w b vi vw Ni Nw Vi Vw) := h
  have HL : Hid (w.ownsRow 0 KI.e KI.sz (.slice ra n c) n xs) := hl
  have Hf : Hid (∀ g, (Value.slice ra n c).ownBlock = some g → ¬ BoF b vi vw Ni Nw Vi Vw g) := hf
  obtain ⟨n1, X1, h1⟩ := h.si
  have HS : Hid (ShL KI w vi Ni Vi n1 X1) := h1
  have HR : Hid (w.ownsRow 0 62 1 vi Ni ((List.range Ni).map Vi)) := h1.row
  obtain ⟨r0, q0, hv0⟩ := own_sl h1.row
  have cb : w.cell? ⟨b, 2, none⟩ = some vi := heap_cell h.bi.heap rfl
  have lb := h.bi.lt
  have HV : Hid (vi = .slice r0 Ni q0) := hv0
  rw [hv0] at cb
  clear h hl hf h1 hv0
  go_enter Tryd.func34, Tryd.ntmps34
  go_wp2_with (at_builtin; refine stop_of ?_)
  unfold Hid
  rw [← HV.out]
  refine wpList_append_told _ rfl _ _ 29 rfl 0 62 i3 (.slice none 0 0) 1 24 Tryd.underlying29 hi3 hy0 hy1 hy2 rfl (by decide) vi Ni ((List.range Ni).map Vi) rfl (HR.out.alloc _) _ 1 1 [.slice ra n c] rfl rfl (cell_one_new _ _ _) (slice_one _ _ _) (by unfold maxLen; omega) (by omega) (Nat.zero_le _) (by decide) ?_
  intro v1 w1 hown1 hgrow1 hold1 hw1
  obtain ⟨ra1, q1, hv1⟩ := own_sl hown1
  subst hv1
  have hs1 : w.heap.size ≤ w1.heap.size := by have := hgrow1.size; rw [World.size_alloc] at this; omega
  have hvb : ∀ g, vi.ownBlock = some g → g ≠ b := fun g hg => by
    obtain ⟨cs, hc⟩ := own_blk HR.out hg
    exact ty_ne hc HH.out.bi.heap (by decide)
  have kk : ∀ g, g < w.heap.size → vi.ownBlock ≠ some g → w1.heap[g]? = w.heap[g]? := fun g hg hn => (hgrow1.block g (by rw [World.size_alloc]; omega) (fun e => hn e.symm)).trans (Below.heap_alloc _ _ _ hg)
  have hB1 : Bi w1 b vi vw := HH.out.bi.kept (kk b lb (fun e => hvb b e rfl))
  have cb1 : w1.cell? ⟨b, 2, none⟩ = some vi := heap_cell hB1.heap rfl
  have fb1 : w1.frozen? ⟨b, 2, none⟩ = false := by simp [World.frozen?, hB1.heap]
  have lb1 := hB1.lt
  have hw2 : (Value.slice ra1 (Ni + 1) q1).ownBlock = vi.ownBlock ∨ ∃ g, (Value.slice ra1 (Ni + 1) q1).ownBlock = some g ∧ w.heap.size ≤ g := by
    rcases hw1 with e | e
    · exact .inl e
    · exact .inr ⟨_, e, by rw [World.size_alloc]; omega⟩
  have hbs : ∀ u, Bi (w1.setCell ⟨b, 2, none⟩ u) b u vw := fun u => ⟨by rw [set_atC hB1.heap]; rfl⟩
  have kb : ∀ u g, g ≠ b → (w1.setCell ⟨b, 2, none⟩ u).heap[g]? = w1.heap[g]? := fun u g hg => Below.heap_setCell _ _ _ _ hg
  have HF : Hid (∀ l, l = .slice ra n c → (Bo (w1.setCell ⟨b, 2, none⟩ (.slice ra1 (Ni + 1) q1)) b (.slice ra1 (Ni + 1) q1) vw (Ni + 1) Nw (fun j => if j = Ni then l else Vi j) Vw) ∧ ∀ g, BoF b (.slice ra1 (Ni + 1) q1) vw (Ni + 1) Nw (fun j => if j = Ni then l else Vi j) Vw g → BoF b vi vw Ni Nw Vi Vw g ∨ l.ownBlock = some g ∨ w.heap.size ≤ g) := fun l hl => by
    subst hl
    refine ⟨⟨hbs _, ⟨fun j => if j = Ni then n else n1 j, fun j => if j = Ni then xs else X1 j, ?_⟩, ?_⟩, fun g hg => ?_⟩
    · refine (HS.out.more HL.out hn (fun g hg hF => Hf.out g hg (.inr (.inl hF))) (own_same hown1 (fun g hg => kb _ g ?_)) (fun g hg hne hty => ?_))
      · obtain ⟨cs, hc⟩ := own_blk hown1 hg
        exact ty_ne hc hB1.heap (by decide)
      · obtain ⟨cs, hc⟩ := hty
        rw [kb _ g (ty_ne hc HH.out.bi.heap (by decide)), kk g hg hne]
    · obtain ⟨n2, X2, h2⟩ := HH.out.sw
      refine ⟨n2, X2, h2.kept (fun g hg => ?_)⟩
      have hgb : g ≠ b := by
        rcases hg with hg | ⟨j, hj, hg⟩
        · obtain ⟨cs, hc⟩ := own_blk h2.row hg
          exact ty_ne hc HH.out.bi.heap (by decide)
        · obtain ⟨cs, hc⟩ := own_blk (h2.own j hj) hg
          exact ty_ne hc HH.out.bi.heap (by decide)
      refine (kb _ g hgb).trans (kk g (h2.lt g hg) (fun e => ?_))
      rcases hg with hg | ⟨j, hj, hg⟩
      · exact own_types HR.out h2.row (by decide) g e hg
      · exact own_types HR.out (h2.own j hj) (by decide) g e hg
    · rcases hg with hg | hg | hg
      · exact .inl (.inl hg)
      · rcases shf_more hw2 g hg with h' | h' | h'
        · exact .inl (.inr (.inl h'))
        · exact .inr (.inl h')
        · exact .inr (.inr h')
      · exact .inl (.inr (.inr hg))
  have HG : Hid (Below 0 w (w1.setCell ⟨b, 2, none⟩ (.slice ra1 (Ni + 1) q1)) ∧ ∀ g, g < w.heap.size → ¬ BoF b vi vw Ni Nw Vi Vw g → (w1.setCell ⟨b, 2, none⟩ (.slice ra1 (Ni + 1) q1)).heap[g]? = w.heap[g]?) := by
    refine ⟨(((Below.refl 0 w).alloc (Nat.zero_le _) _).grown hgrow1 (Nat.zero_le _) (fun _ _ => Nat.zero_le _)).setCell (p := ⟨b, 2, none⟩) (Nat.zero_le _) _, fun g hg hn => ?_⟩
    rw [kb _ g (fun e => hn (.inl e)), kk g hg (fun e => hn (.inr (.inl (.inl e))))]
  have HT : Hid (∀ (g : Nat) (cs : Array Value), (w.heap[g]? = some (.cells cs 3 (0, 0)) ∨ w.heap[g]? = some (.cells cs 165 (0, 0))) → (w1.setCell ⟨b, 2, none⟩ (.slice ra1 (Ni + 1) q1)).heap[g]? = w.heap[g]?) := fun g cs hg => by
    rcases hg with hg | hg
    · rw [kb _ g (ty_ne hg HH.out.bi.heap (by decide)), kk g (heap_lt hg) (fun e => by
        obtain ⟨c2, k2⟩ := own_blk HR.out e
        exact ty_ne hg k2 (by decide) rfl)]
    · rw [kb _ g (ty_ne hg HH.out.bi.heap (by decide)), kk g (heap_lt hg) (fun e => by
        obtain ⟨c2, k2⟩ := own_blk HR.out e
        exact ty_ne hg k2 (by decide) rfl)]
  clear hown1 hgrow1 hold1 hw1 hw2 hB1 hbs kb kk hvb HH HL Hf HS HR
  go_wp2
  go_end0
  exact ⟨⟨_, rfl⟩, _, HF.out, HG.out.1, HG.out.2, HT.out⟩

end Go.Proofs.YtdlnkdcgipaoeaaDoor
