/- Where the collector is behind a step, as mathematics. -/
import Derived.Test.YtnohcmfhhoiihaaHCMath
namespace Go.Proofs.Ytnohcmfhhoiihaa
open Go.RowKit

/-- Where the collector is. -/
structure Cy where
  ph : Int
  gl : Int
  sw : Int
  fr : Int
  bg : Int
  ak : Bool
def cy0 : Cy := ⟨0, 0, 0, 0, 0, false⟩
def begM (ph gl sw fr bg : Int) (ak : Bool) : Cy × Int := if mayB ph gl sw fr bg ak = true then (if ak = true ∨ ph ≠ 0 then (cy0, 170) else (⟨ph, gl, sw, fr, bg, true⟩, 0)) else (cy0, 171)
/-- Where it is behind a step. -/
def stM (_ph gl sw fr bg : Int) (_ak : Bool) (back : Bool) (wh : Int) : Cy × Int :=
  if wh = 18 then (⟨1, 0, 0, 0, bg + 1, false⟩, 0) else if wh = 19 then (⟨1, gl + 1, 0, 0, bg, false⟩, 0) else if wh = 20 ∨ wh = 21 then (⟨1, gl, 0, 0, bg, false⟩, 0)
  else if wh = 22 then (⟨2, 0, 0, 0, bg, false⟩, 0) else if wh = 23 then (⟨3, 0, 0, 0, bg, false⟩, 0) else if wh = 24 then (⟨3, 0, sw + 1, if back then fr + 1 else fr, bg, false⟩, 0)
  else if wh = 25 then (⟨0, 0, 0, 0, bg, false⟩, 0) else (cy0, 170)
def stepM (ph gl sw fr bg : Int) (ak : Bool) (ce ag th : Int) (st tl gr : Bool) (back : Bool) : Cy × Int :=
  if mayB ph gl sw fr bg ak = true ∧ fitB gl sw ce ag th = true then stM ph gl sw fr bg ak back (goM ph gl sw ak ce ag th st tl gr).wh else (cy0, 171)
theorem goM_wh (ph gl sw _fr _bg : Int) (ak : Bool) (ce ag th : Int) (st tl gr : Bool) (h4 : ph = 0 ∨ ph = 1 ∨ ph = 2 ∨ ph = 3) : (goM ph gl sw ak ce ag th st tl gr).wh = 0 ∨ ((goM ph gl sw ak ce ag th st tl gr).wh = 18 ∧ ph = 0) ∨ ((goM ph gl sw ak ce ag th st tl gr).wh = 19 ∧ ph = 1 ∧ gl < ag) ∨ ((goM ph gl sw ak ce ag th st tl gr).wh = 20 ∧ ph = 1) ∨ ((goM ph gl sw ak ce ag th st tl gr).wh = 21 ∧ ph = 1)
    ∨ (goM ph gl sw ak ce ag th st tl gr).wh = 22 ∨ (goM ph gl sw ak ce ag th st tl gr).wh = 23 ∨ ((goM ph gl sw ak ce ag th st tl gr).wh = 24 ∧ ph = 3 ∧ sw < ce) ∨ ((goM ph gl sw ak ce ag th st tl gr).wh = 25 ∧ ph = 3) := by
  unfold goM thM d0
  rcases h4 with rfl | rfl | rfl | rfl
  · cases ak <;> simp
  · by_cases k1 : gl < ag
    · simp [k1]
    · by_cases k2 : th = 0
      · cases gr <;> simp [k1, k2]
      · cases st <;> cases tl <;> simp [k1, k2]
  · cases gr <;> simp
  · by_cases k1 : sw < ce <;> simp [k1]
/-- The answer's block, and what is left alone. -/
structure RX (w W : World) (g : Nat) : Prop where
  rb : ∃ ph gl sw fr bg ak, CB W g ph gl sw fr bg ak
  le : w.heap.size ≤ g
  below : Below w.heap.size w W
theorem RX.keep {w W W' : World} {g : Nat} (h : RX w W g) (hb : Below W.heap.size W W') : RX w W' g := by
  obtain ⟨_, _, _, _, _, _, hc⟩ := h.rb
  exact ⟨⟨_, _, _, _, _, _, (hb.block _ (heap_lt hc)).trans hc⟩, h.le, h.below.trans (hb.mono h.below.size)⟩
theorem RX.set {w W : World} {g g' j : Nat} (h : RX w W g) (hg : g' ≠ g) (hl : w.heap.size ≤ g') (v : Value) : RX w (W.setCell ⟨g', j, none⟩ v) g := by
  obtain ⟨_, _, _, _, _, _, hc⟩ := h.rb
  exact ⟨⟨_, _, _, _, _, _, (Below.heap_setCell _ _ _ _ (Ne.symm hg)).trans hc⟩, h.le, h.below.setCell hl _⟩
theorem RX.alloc {w W : World} {g : Nat} (h : RX w W g) (o : Obj) : RX w (W.alloc o) g := h.keep ((Below.refl _ W).alloc (Nat.le_refl _) o)
theorem RX.done {w W : World} {g : Nat} (h : RX w W g) (s : Cy) : CB (((((((W).setCell ⟨g, 0, none⟩ (.int .u8 s.ph)).setCell ⟨g, 1, none⟩ (.int .i64 s.gl)).setCell ⟨g, 2, none⟩ (.int .i64 s.sw)).setCell ⟨g, 3, none⟩ (.int .i64 s.fr)).setCell ⟨g, 4, none⟩ (.int .i64 s.bg)).setCell ⟨g, 5, none⟩ (.bool s.ak)) g s.ph s.gl s.sw s.fr s.bg s.ak ∧ Below w.heap.size w (((((((W).setCell ⟨g, 0, none⟩ (.int .u8 s.ph)).setCell ⟨g, 1, none⟩ (.int .i64 s.gl)).setCell ⟨g, 2, none⟩ (.int .i64 s.sw)).setCell ⟨g, 3, none⟩ (.int .i64 s.fr)).setCell ⟨g, 4, none⟩ (.int .i64 s.bg)).setCell ⟨g, 5, none⟩ (.bool s.ak)) := by
  obtain ⟨_, _, _, _, _, _, hc⟩ := h.rb
  exact ⟨set6 _ _ _ _ _ _ hc, (((((h.below.setCell h.le _).setCell h.le _).setCell h.le _).setCell h.le _).setCell h.le _).setCell h.le _⟩
theorem RX.done2 {w W : World} {g : Nat} (h : RX w W g) (s : Cy) (o1 o2 : Obj) : CB (((((((((W).setCell ⟨g, 0, none⟩ (.int .u8 s.ph)).setCell ⟨g, 1, none⟩ (.int .i64 s.gl)).setCell ⟨g, 2, none⟩ (.int .i64 s.sw)).setCell ⟨g, 3, none⟩ (.int .i64 s.fr)).setCell ⟨g, 4, none⟩ (.int .i64 s.bg)).setCell ⟨g, 5, none⟩ (.bool s.ak)).alloc o1).alloc o2) g s.ph s.gl s.sw s.fr s.bg s.ak ∧ Below w.heap.size w (((((((((W).setCell ⟨g, 0, none⟩ (.int .u8 s.ph)).setCell ⟨g, 1, none⟩ (.int .i64 s.gl)).setCell ⟨g, 2, none⟩ (.int .i64 s.sw)).setCell ⟨g, 3, none⟩ (.int .i64 s.fr)).setCell ⟨g, 4, none⟩ (.int .i64 s.bg)).setCell ⟨g, 5, none⟩ (.bool s.ak)).alloc o1).alloc o2) := by
  obtain ⟨h1, h2⟩ := h.done s
  generalize (((((((W).setCell ⟨g, 0, none⟩ (.int .u8 s.ph)).setCell ⟨g, 1, none⟩ (.int .i64 s.gl)).setCell ⟨g, 2, none⟩ (.int .i64 s.sw)).setCell ⟨g, 3, none⟩ (.int .i64 s.fr)).setCell ⟨g, 4, none⟩ (.int .i64 s.bg)).setCell ⟨g, 5, none⟩ (.bool s.ak)) = W1 at h1 h2 ⊢
  have b1 := (Below.refl W1.heap.size W1).alloc (Nat.le_refl _) o1
  have b2 := (Below.refl (W1.alloc o1).heap.size (W1.alloc o1)).alloc (Nat.le_refl _) o2
  exact ⟨(b2.block _ (Nat.lt_of_lt_of_le (heap_lt h1) b1.size)).trans ((b1.block _ (heap_lt h1)).trans h1), h2.trans ((b1.mono h2.size).trans (b2.mono (Nat.le_trans h2.size b1.size)))⟩
theorem sx_new (w : World) (ph gl sw fr bg : Int) (ak : Bool) (ce ag th : Int) (st tl gr : Bool) : CB (((w.alloc (.cells #[.int .u8 ph, .int .i64 gl, .int .i64 sw, .int .i64 fr, .int .i64 bg, .bool ak] 27)).alloc (.cells #[.int .i64 ce, .int .i64 ag, .int .i64 th, .bool st, .bool tl, .bool gr] 29)).alloc (.cells #[.int .u8 0, .int .i64 0, .int .i64 0, .int .i64 0, .int .i64 0, .bool false] 27)) w.heap.size ph gl sw fr bg ak ∧ AB (((w.alloc (.cells #[.int .u8 ph, .int .i64 gl, .int .i64 sw, .int .i64 fr, .int .i64 bg, .bool ak] 27)).alloc (.cells #[.int .i64 ce, .int .i64 ag, .int .i64 th, .bool st, .bool tl, .bool gr] 29)).alloc (.cells #[.int .u8 0, .int .i64 0, .int .i64 0, .int .i64 0, .int .i64 0, .bool false] 27)) (w.heap.size + 1) ce ag th st tl gr ∧ RX w (((w.alloc (.cells #[.int .u8 ph, .int .i64 gl, .int .i64 sw, .int .i64 fr, .int .i64 bg, .bool ak] 27)).alloc (.cells #[.int .i64 ce, .int .i64 ag, .int .i64 th, .bool st, .bool tl, .bool gr] 29)).alloc (.cells #[.int .u8 0, .int .i64 0, .int .i64 0, .int .i64 0, .int .i64 0, .bool false] 27)) (w.heap.size + 2) := by
  have h1 := heap_alloc_new w (.cells #[.int .u8 ph, .int .i64 gl, .int .i64 sw, .int .i64 fr, .int .i64 bg, .bool ak] 27)
  have b1 := (Below.refl w.heap.size w).alloc (Nat.le_refl _) (.cells #[.int .u8 ph, .int .i64 gl, .int .i64 sw, .int .i64 fr, .int .i64 bg, .bool ak] 27)
  have z1 := World.size_alloc w (.cells #[.int .u8 ph, .int .i64 gl, .int .i64 sw, .int .i64 fr, .int .i64 bg, .bool ak] 27)
  generalize w.alloc (.cells #[.int .u8 ph, .int .i64 gl, .int .i64 sw, .int .i64 fr, .int .i64 bg, .bool ak] 27) = w1 at h1 b1 z1 ⊢
  have h2 := heap_alloc_new w1 (.cells #[.int .i64 ce, .int .i64 ag, .int .i64 th, .bool st, .bool tl, .bool gr] 29)
  have b2 := (Below.refl w1.heap.size w1).alloc (Nat.le_refl _) (.cells #[.int .i64 ce, .int .i64 ag, .int .i64 th, .bool st, .bool tl, .bool gr] 29)
  have z2 := World.size_alloc w1 (.cells #[.int .i64 ce, .int .i64 ag, .int .i64 th, .bool st, .bool tl, .bool gr] 29)
  generalize w1.alloc (.cells #[.int .i64 ce, .int .i64 ag, .int .i64 th, .bool st, .bool tl, .bool gr] 29) = w2 at h2 b2 z2 ⊢
  have h3 := heap_alloc_new w2 (.cells #[.int .u8 0, .int .i64 0, .int .i64 0, .int .i64 0, .int .i64 0, .bool false] 27)
  have b3 := (Below.refl w2.heap.size w2).alloc (Nat.le_refl _) (.cells #[.int .u8 0, .int .i64 0, .int .i64 0, .int .i64 0, .int .i64 0, .bool false] 27)
  generalize w2.alloc (.cells #[.int .u8 0, .int .i64 0, .int .i64 0, .int .i64 0, .int .i64 0, .bool false] 27) = w3 at h3 b3 ⊢
  rw [z1] at h2 z2
  rw [z2] at h3
  refine ⟨?_, ?_, ⟨_, _, _, _, _, _, h3⟩, by omega, b1.trans ((b2.mono (by omega)).trans (b3.mono (by omega)))⟩
  · exact (b3.block _ (by omega)).trans ((b2.block _ (by omega)).trans h1)
  · exact (b3.block _ (by omega)).trans h2
theorem bx_new (w : World) (ph gl sw fr bg : Int) (ak : Bool) : CB ((w.alloc (.cells #[.int .u8 ph, .int .i64 gl, .int .i64 sw, .int .i64 fr, .int .i64 bg, .bool ak] 27)).alloc (.cells #[.int .u8 0, .int .i64 0, .int .i64 0, .int .i64 0, .int .i64 0, .bool false] 27)) w.heap.size ph gl sw fr bg ak ∧ RX w ((w.alloc (.cells #[.int .u8 ph, .int .i64 gl, .int .i64 sw, .int .i64 fr, .int .i64 bg, .bool ak] 27)).alloc (.cells #[.int .u8 0, .int .i64 0, .int .i64 0, .int .i64 0, .int .i64 0, .bool false] 27)) (w.heap.size + 1) := by
  have h1 := heap_alloc_new w (.cells #[.int .u8 ph, .int .i64 gl, .int .i64 sw, .int .i64 fr, .int .i64 bg, .bool ak] 27)
  have b1 := (Below.refl w.heap.size w).alloc (Nat.le_refl _) (.cells #[.int .u8 ph, .int .i64 gl, .int .i64 sw, .int .i64 fr, .int .i64 bg, .bool ak] 27)
  have z1 := World.size_alloc w (.cells #[.int .u8 ph, .int .i64 gl, .int .i64 sw, .int .i64 fr, .int .i64 bg, .bool ak] 27)
  generalize w.alloc (.cells #[.int .u8 ph, .int .i64 gl, .int .i64 sw, .int .i64 fr, .int .i64 bg, .bool ak] 27) = w1 at h1 b1 z1 ⊢
  have h3 := heap_alloc_new w1 (.cells #[.int .u8 0, .int .i64 0, .int .i64 0, .int .i64 0, .int .i64 0, .bool false] 27)
  have b3 := (Below.refl w1.heap.size w1).alloc (Nat.le_refl _) (.cells #[.int .u8 0, .int .i64 0, .int .i64 0, .int .i64 0, .int .i64 0, .bool false] 27)
  generalize w1.alloc (.cells #[.int .u8 0, .int .i64 0, .int .i64 0, .int .i64 0, .int .i64 0, .bool false] 27) = w3 at h3 b3 ⊢
  rw [z1] at h3
  exact ⟨(b3.block _ (by omega)).trans h1, ⟨⟨_, _, _, _, _, _, h3⟩, by omega, b1.trans (b3.mono (by omega))⟩⟩
theorem fieldD (wh gl th ce : Value) (w : World) : (Instr.field 34 (.agg #[wh, gl, th, ce]) 0).run Try.prog w = .ok wh w := by
  have u1 := Try.underlying34
  unfold Instr.field
  go_simp
  simp [asAgg, Sem.run_pure]
end Go.Proofs.Ytnohcmfhhoiihaa
