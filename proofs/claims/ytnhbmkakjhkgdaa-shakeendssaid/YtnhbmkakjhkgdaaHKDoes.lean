/- Two shakes by turns. -/
import Derived.Test.YtnhbmkakjhkgdaaHKLooks
namespace Go.Proofs.Ytnhbmkakjhkgdaa
open Go.RowKit

def TX (w0 w : World) (b0 b1 r0 r1 q4 q5 : Nat) : Prop := ∃ v0 v1 s0 s1, PX w b0 r0 v0 s0 ∧ PX w b1 r1 v1 s1 ∧ (∀ g, PF b0 r0 v0 g → ¬ PF b1 r1 v1 g) ∧ (∀ g, PF b0 r0 v0 g → w0.heap.size ≤ g) ∧ (∀ g, PF b1 r1 v1 g → w0.heap.size ≤ g)
  ∧ w.heap[q4]? = some (.cells #[.pointer (some ⟨b0, 0, none⟩), .pointer (some ⟨b1, 0, none⟩)] 26 (0, 0)) ∧ w.heap[q5]? = some (.cells #[.pointer (some ⟨r0, 0, none⟩), .pointer (some ⟨r1, 0, none⟩)] 31 (0, 0)) ∧ Below w0.heap.size w0 w
theorem PX.far {w : World} {b r q : Nat} {v : Value} {s : Sk} {cs : Array Value} {t : TypeId} (h : PX w b r v s) (hq : w.heap[q]? = some (.cells cs t (0, 0))) (h1 : t ≠ 52) (h2 : t ≠ 30) (h3 : t ≠ 54) : ¬ PF b r v q := fun hf => by
  obtain ⟨L, hL, _⟩ := h.dl
  obtain ⟨ds, hd, _⟩ := h.sl.ex
  rcases hf with rfl | rfl | hf
  · exact ty_ne hq hd h1 rfl
  · exact ty_ne hq hL.obj h2 rfl
  · obtain ⟨es, he⟩ := own_blk hL.row hf
    exact ty_ne hq he h3 rfl
theorem TX.drew {w0 w : World} {b0 b1 r0 r1 q4 q5 : Nat} (h : TX w0 w b0 b1 r0 r1 q4 q5) : TX w0 w.drew b0 b1 r0 r1 q4 q5 := by
  obtain ⟨v0, v1, s0, s1, p0, p1, h1, h2, h3, h4, h5, h6⟩ := h
  exact ⟨v0, v1, s0, s1, p0.kept (fun _ _ => rfl), p1.kept (fun _ _ => rfl), h1, h2, h3, h4, h5, h6.drew⟩
theorem TX.drewN {w0 w : World} {b0 b1 r0 r1 q4 q5 : Nat} (h : TX w0 w b0 b1 r0 r1 q4 q5) (k : Nat) : TX w0 (w.drewN k) b0 b1 r0 r1 q4 q5 := by
  induction k with
  | zero => exact h
  | succ k ih => exact ih.drew
theorem tx_step0 {w0 w w' : World} {b0 b1 r0 r1 : Nat} {v0 v1 : Value} {s1 s' : Sk} (p1 : PX w b1 r1 v1 s1) (h1 : ∀ g, PF b0 r0 v0 g → ¬ PF b1 r1 v1 g) (h2 : ∀ g, PF b0 r0 v0 g → w0.heap.size ≤ g) 
    (h6 : Below w0.heap.size w0 w) (hr : PR b0 r0 v0 s' w w') : ∃ v0', PX w' b0 r0 v0' s' ∧ PX w' b1 r1 v1 s1 ∧ (∀ g, PF b0 r0 v0' g → ¬ PF b1 r1 v1 g) ∧ (∀ g, PF b0 r0 v0' g → w0.heap.size ≤ g) ∧ Below w0.heap.size w0 w' := by
  obtain ⟨v', d1, d2, d3, d4⟩ := hr
  have hn : ∀ g, PF b0 r0 v' g → PF b0 r0 v0 g ∨ w.heap.size ≤ g := fun g hg => by
    rcases hg with e | e | e
    · exact .inl (.inl e)
    · exact .inl (.inr (.inl e))
    · rcases d4 g e with e | e
      · exact .inl (.inr (.inr e))
      · exact .inr e
  refine ⟨v', d1, p1.kept (fun g hg => d2 g (p1.lt g hg) (fun hf => h1 g hf hg)), fun g hg hf => ?_, fun g hg => ?_, h6.trans ⟨d3.os, d3.tape, d3.output, d3.size, fun g hg => d2 g (Nat.lt_of_lt_of_le hg h6.size) (fun hf => by have := h2 g hf; omega)⟩⟩
  · rcases hn g hg with e | e
    · exact h1 g e hf
    · have := p1.lt g hf; omega
  · rcases hn g hg with e | e
    · exact h2 g e
    · exact Nat.le_trans h6.size e
theorem tx_does0 {w0 w : World} {b0 b1 r0 r1 q4 q5 : Nat} (h : TX w0 w b0 b1 r0 r1 q4 q5) (k t : Int) :
    Calls Try.prog 8 #[.pointer (some ⟨b0, 0, none⟩), .pointer (some ⟨r0, 0, none⟩), .agg #[.int .i64 k, .int .i64 t]] w fun e w' => e = .returned (.bool true) ∧ TX w0 w' b0 b1 r0 r1 q4 q5 := by
  obtain ⟨v0, v1, s0, s1, p0, p1, h1, h2, h3, h4, h5, h6⟩ := h
  refine (does_any b0 r0 v0 s0 k t w p0).mono fun e w' ⟨he, hr⟩ => ⟨he, ?_⟩
  have hr2 := hr
  obtain ⟨_, _, d2, _, _⟩ := hr2
  obtain ⟨v', d1, e2, e3, e4, e5⟩ := tx_step0 p1 h1 h2 h6 hr
  exact ⟨v', v1, _, s1, d1, e2, e3, e4, h3, (d2 q4 (heap_lt h4) (p0.far h4 (by decide) (by decide) (by decide))).trans h4, (d2 q5 (heap_lt h5) (p0.far h5 (by decide) (by decide) (by decide))).trans h5, e5⟩
theorem tx_does1 {w0 w : World} {b0 b1 r0 r1 q4 q5 : Nat} (h : TX w0 w b0 b1 r0 r1 q4 q5) (k t : Int) :
    Calls Try.prog 8 #[.pointer (some ⟨b1, 0, none⟩), .pointer (some ⟨r1, 0, none⟩), .agg #[.int .i64 k, .int .i64 t]] w fun e w' => e = .returned (.bool true) ∧ TX w0 w' b0 b1 r0 r1 q4 q5 := by
  obtain ⟨v0, v1, s0, s1, p0, p1, h1, h2, h3, h4, h5, h6⟩ := h
  refine (does_any b1 r1 v1 s1 k t w p1).mono fun e w' ⟨he, hr⟩ => ⟨he, ?_⟩
  have hr2 := hr
  obtain ⟨_, _, d2, _, _⟩ := hr2
  obtain ⟨v', d1, e2, e3, e4, e5⟩ := tx_step0 p0 (fun g h h' => h1 g h' h) h3 h6 hr
  exact ⟨v0, v', s0, _, e2, d1, fun g h h' => e3 g h' h, h2, e4, (d2 q4 (heap_lt h4) (p1.far h4 (by decide) (by decide) (by decide))).trans h4, (d2 q5 (heap_lt h5) (p1.far h5 (by decide) (by decide) (by decide))).trans h5, e5⟩
theorem tx_looks0 {w0 w : World} {b0 b1 r0 r1 q4 q5 : Nat} (h : TX w0 w b0 b1 r0 r1 q4 q5) (t : Int) :
    Calls Try.prog 9 #[.pointer (some ⟨b0, 0, none⟩), .pointer (some ⟨r0, 0, none⟩), .int .i64 t] w fun e w' => e = .returned (.bool true) ∧ w' = w := by
  obtain ⟨v0, v1, s0, s1, p0, p1, h1, h2, h3, h4, h5, h6⟩ := h
  exact looks_any b0 r0 v0 s0 t w p0
theorem tx_looks1 {w0 w : World} {b0 b1 r0 r1 q4 q5 : Nat} (h : TX w0 w b0 b1 r0 r1 q4 q5) (t : Int) :
    Calls Try.prog 9 #[.pointer (some ⟨b1, 0, none⟩), .pointer (some ⟨r1, 0, none⟩), .int .i64 t] w fun e w' => e = .returned (.bool true) ∧ w' = w := by
  obtain ⟨v0, v1, s0, s1, p0, p1, h1, h2, h3, h4, h5, h6⟩ := h
  exact looks_any b1 r1 v1 s1 t w p1
/-- Calls that are read. -/
def AX (w : World) (ra : Option Addr) (l : List (Int × Int)) : Prop := ∃ b o, (l.length = 0 ∨ ra = some ⟨b, o, none⟩) ∧ ∀ (j : Nat) (x : Int × Int), l[j]? = some x → b < w.heap.size ∧ w.cell? ⟨b, o + j * 2, none⟩ = some (.int .i64 x.1) ∧ w.cell? ⟨b, o + j * 2 + 1, none⟩ = some (.int .i64 x.2)
theorem AX.at {w : World} {ra : Option Addr} {l : List (Int × Int)} (h : AX w ra l) : ∃ b o, (l.length ≠ 0 → ra = some ⟨b, o, none⟩) ∧ ∀ (j : Nat) (x : Int × Int), l[j]? = some x → b < w.heap.size ∧ w.cell? ⟨b, o + j * 2, none⟩ = some (.int .i64 x.1) ∧ w.cell? ⟨b, o + j * 2 + 1, none⟩ = some (.int .i64 x.2) := by
  obtain ⟨b, o, h1, h2⟩ := h
  exact ⟨b, o, fun q => h1.resolve_left q, h2⟩
/-- What a round reads. -/
theorem tx_reads {w0 w : World} {b0 b1 r0 r1 q4 q5 bb o1 o2 : Nat} {u1 u2 : Value} (h : TX w0 w b0 b1 r0 r1 q4 q5) (hb : bb < w0.heap.size) (c1 : w0.cell? ⟨bb, o1, none⟩ = some u1) (c2 : w0.cell? ⟨bb, o2, none⟩ = some u2) :
    ((w.cell? ⟨q4, 0, none⟩ = some (.pointer (some ⟨b0, 0, none⟩)) ∧ w.cell? ⟨q4, 1, none⟩ = some (.pointer (some ⟨b1, 0, none⟩))) ∧ (w.cell? ⟨q5, 0, none⟩ = some (.pointer (some ⟨r0, 0, none⟩)) ∧ w.cell? ⟨q5, 1, none⟩ = some (.pointer (some ⟨r1, 0, none⟩))) ∧ (w.cell? ⟨bb, o1, none⟩ = some u1 ∧ w.cell? ⟨bb, o2, none⟩ = some u2)) ∧ q4 < w.heap.size ∧ q5 < w.heap.size ∧ bb < w.heap.size := by
  obtain ⟨v0, v1, s0, s1, p0, p1, h1, h2, h3, h4, h5, h6⟩ := h
  exact ⟨⟨⟨heap_cell h4 rfl, heap_cell h4 rfl⟩, ⟨heap_cell h5 rfl, heap_cell h5 rfl⟩, (h6.cell (p := ⟨bb, o1, none⟩) hb).trans c1, (h6.cell (p := ⟨bb, o2, none⟩) hb).trans c2⟩, heap_lt h4, heap_lt h5, Nat.lt_of_lt_of_le hb h6.size⟩
theorem TX.below {w0 w : World} {b0 b1 r0 r1 q4 q5 : Nat} (h : TX w0 w b0 b1 r0 r1 q4 q5) : Below w0.heap.size w0 w := by
  obtain ⟨v0, v1, s0, s1, p0, p1, h1, h2, h3, h4, h5, h6⟩ := h
  exact h6
theorem px_new {w : World} {b r : Nat} (hs : SL w b sk0) (hr : w.heap[r]? = some (.cells #[.slice none 0 0, .bool false] 30 (0, 0))) : PX w b r (.slice none 0 0) sk0 :=
  ⟨hs, ⟨[], ⟨hr, World.ownsRow_nil _ _ _ _⟩, rfl, fun h => by cases h⟩, ok0⟩
/-- All four are new. -/
theorem tx_new {w w1 w2 w3 : World} (hb1 : Below w.heap.size w w1) (hs0 : SL w2 w1.heap.size sk0) (hb2 : Below w1.heap.size w1 w2) (hz2 : w2.heap.size = w1.heap.size + 1) (hs1 : SL w3 w2.heap.size sk0) (hb3 : Below w2.heap.size w2 w3) (hz3 : w3.heap.size = w2.heap.size + 1) :
    TX w ((((w3.alloc (.cells #[.pointer (some ⟨w1.heap.size, 0, none⟩), .pointer (some ⟨w2.heap.size, 0, none⟩)] 26)).alloc (.cells #[.slice none 0 0, .bool false] 30)).alloc (.cells #[.slice none 0 0, .bool false] 30)).alloc (.cells #[.pointer (some ⟨w3.heap.size + 1, 0, none⟩), .pointer (some ⟨w3.heap.size + 1 + 1, 0, none⟩)] 31)) w1.heap.size w2.heap.size (w3.heap.size + 1) (w3.heap.size + 1 + 1) w3.heap.size (w3.heap.size + 1 + 1 + 1) := by
  have z1 := hb1.size
  generalize hO4 : Obj.cells #[Value.pointer (some ⟨w1.heap.size, 0, none⟩), .pointer (some ⟨w2.heap.size, 0, none⟩)] 26 (0, 0) = O4
  generalize hO5 : Obj.cells #[Value.pointer (some ⟨w3.heap.size + 1, 0, none⟩), .pointer (some ⟨w3.heap.size + 1 + 1, 0, none⟩)] 31 (0, 0) = O5
  generalize hD : Obj.cells #[Value.slice none 0 0, .bool false] 30 (0, 0) = D
  generalize h1 : w3.alloc O4 = A1
  generalize h2 : A1.alloc D = A2
  generalize h3 : A2.alloc D = A3
  generalize h4 : A3.alloc O5 = A4
  have y1 : A1.heap.size = w3.heap.size + 1 := by rw [← h1, World.size_alloc]
  have y2 : A2.heap.size = w3.heap.size + 1 + 1 := by rw [← h2, World.size_alloc, y1]
  have y3 : A3.heap.size = w3.heap.size + 1 + 1 + 1 := by rw [← h3, World.size_alloc, y2]
  have g1 : A1.heap[w3.heap.size]? = some O4 := by rw [← h1]; exact heap_alloc_new _ _
  have g2 : A2.heap[w3.heap.size + 1]? = some D := by rw [← h2, ← y1]; exact heap_alloc_new _ _
  have g3 : A3.heap[w3.heap.size + 1 + 1]? = some D := by rw [← h3, ← y2]; exact heap_alloc_new _ _
  have g4 : A4.heap[w3.heap.size + 1 + 1 + 1]? = some O5 := by rw [← h4, ← y3]; exact heap_alloc_new _ _
  have b2 : Below A1.heap.size A1 A2 := by rw [← h2]; exact (Below.refl _ _).alloc (Nat.le_refl _) _
  have b3 : Below A2.heap.size A2 A3 := by rw [← h3]; exact (Below.refl _ _).alloc (Nat.le_refl _) _
  have b4 : Below A3.heap.size A3 A4 := by rw [← h4]; exact (Below.refl _ _).alloc (Nat.le_refl _) _
  have b1 : Below w3.heap.size w3 A1 := by rw [← h1]; exact (Below.refl _ _).alloc (Nat.le_refl _) _
  have b14 : Below A1.heap.size A1 A4 := b2.trans ((b3.trans (b4.mono (by omega))).mono (by omega))
  have b04 : Below w3.heap.size w3 A4 := b1.trans (b14.mono (by omega))
  have kD1 : A4.heap[w3.heap.size + 1]? = some D := ((b3.trans (b4.mono (by omega))).block _ (by omega)).trans g2
  have kD2 : A4.heap[w3.heap.size + 1 + 1]? = some D := (b4.block _ (by omega)).trans g3
  have kS0 : SL A4 w1.heap.size sk0 := hs0.kept ((b04.block _ (by omega)).trans (hb3.block _ (by omega)))
  have kS1 : SL A4 w2.heap.size sk0 := hs1.kept (b04.block _ (by omega))
  have hbel : Below w.heap.size w A4 := ((hb1.trans (hb2.mono z1)).trans (hb3.mono (by omega))).trans (b04.mono (by omega))
  have nf : ∀ b r g, PF b r (.slice none 0 0) g → g = b ∨ g = r := fun b r g hg => by
    rcases hg with e | e | e
    · exact .inl e
    · exact .inr e
    · cases e
  refine ⟨.slice none 0 0, .slice none 0 0, sk0, sk0, px_new kS0 (by rw [kD1, hD]), px_new kS1 (by rw [kD2, hD]), fun g hg hg' => ?_, fun g hg => ?_, fun g hg => ?_, ((b14.block _ (by omega)).trans g1).trans (by rw [hO4]), g4.trans (by rw [hO5]), hbel⟩
  · have := nf _ _ _ hg
    have := nf _ _ _ hg'
    omega
  · have := nf _ _ _ hg
    omega
  · have := nf _ _ _ hg
    omega
end Go.Proofs.Ytnhbmkakjhkgdaa
