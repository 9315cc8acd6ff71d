/- Where the collector is, what is around it, what it does next: as mathematics. -/
import Derived.Test.YtnohcmfhhoiihaaHABase
namespace Go.Proofs.Ytnohcmfhhoiihaa
open Go.RowKit

/-- May the collector be there? -/
def May (ph gl sw fr bg : Int) (ak : Bool) : Prop := ph ≤ 3 ∧ 0 ≤ gl ∧ 0 ≤ sw ∧ 0 ≤ fr ∧ 0 ≤ bg ∧ bg ≠ 9223372036854775807 ∧ fr ≤ sw ∧ (ak = true → ph = 0) ∧ (ph ≠ 1 → gl = 0) ∧ (ph ≠ 3 → sw = 0)
instance (ph gl sw fr bg : Int) (ak : Bool) : Decidable (May ph gl sw fr bg ak) := by unfold May; infer_instance
def mayB (ph gl sw fr bg : Int) (ak : Bool) : Bool := decide (May ph gl sw fr bg ak)
/-- Does what is around fit? -/
def Fit (gl sw ce ag th : Int) : Prop := 0 ≤ ce ∧ 0 ≤ ag ∧ 0 ≤ th ∧ gl ≤ ag ∧ sw ≤ ce
instance (gl sw ce ag th : Int) : Decidable (Fit gl sw ce ag th) := by unfold Fit; infer_instance
def fitB (gl sw ce ag th : Int) : Bool := decide (Fit gl sw ce ag th)

/-- What the collector does next: which step, which global, thread, cell. -/
structure Dn where
  wh : Int
  gl : Int
  th : Int
  ce : Int
def d0 : Dn := ⟨0, 0, 0, 0⟩
def thM (th : Int) (st tl : Bool) : Dn := if st then ⟨21, 0, th, 0⟩ else if tl then d0 else ⟨20, 0, th, 0⟩
def goM (ph gl sw : Int) (ak : Bool) (ce ag th : Int) (st tl gr : Bool) : Dn :=
  if ph = 0 then (if ak then ⟨18, 0, 0, 0⟩ else d0) else if ph = 3 then (if sw < ce then ⟨24, 0, 0, sw⟩ else ⟨25, 0, 0, 0⟩)
  else if ph = 1 ∧ gl < ag then ⟨19, gl, 0, 0⟩ else if ph = 1 ∧ th ≠ 0 then thM th st tl else if gr then ⟨22, 0, 0, 0⟩ else ⟨23, 0, 0, 0⟩
def nextM (ph gl sw fr bg : Int) (ak : Bool) (ce ag th : Int) (st tl gr : Bool) : Dn :=
  if mayB ph gl sw fr bg ak = true ∧ fitB gl sw ce ag th = true then goM ph gl sw ak ce ag th st tl gr else d0
/-- A step's block. -/
def DB (W : World) (g : Nat) (d : Dn) : Prop := W.heap[g]? = some (.cells #[.int .u8 d.wh, .int .i64 d.gl, .int .i64 d.th, .int .i64 d.ce] 34 (0, 0))
theorem results_d {fn : Func} {tmps : Array Value} {s g : Nat} {d : Dn} {W : World} (hres : fn.results = #[.cell s 34]) (h1 : tmps[s]? = some (.pointer (some ⟨g, 0, none⟩))) (k : DB W g d) :
    (results fn tmps).run Try.prog W = .ok (.agg #[.int .u8 d.wh, .int .i64 d.gl, .int .i64 d.th, .int .i64 d.ce]) W := by
  have a0 := heap_cell (j := 0) k rfl
  have a1 := heap_cell (j := 1) k rfl
  have a2 := heap_cell (j := 2) k rfl
  have a3 := heap_cell (j := 3) k rfl
  obtain ⟨l1, e1⟩ := Array.getElem?_eq_some_iff.1 h1
  simp [results, hres, go_sem, l1, e1, a0, a1, a2, a3]
/-- Where the collector is, a block. -/
def CB (W : World) (g : Nat) (ph gl sw fr bg : Int) (ak : Bool) : Prop := W.heap[g]? = some (.cells #[.int .u8 ph, .int .i64 gl, .int .i64 sw, .int .i64 fr, .int .i64 bg, .bool ak] 27 (0, 0))
theorem results_cy {fn : Func} {tmps : Array Value} {s u g : Nat} {v : Value} {ph gl sw fr bg : Int} {ak : Bool} {W : World} (hres : fn.results = #[.cell s 27, .tmp u]) (h1 : tmps[s]? = some (.pointer (some ⟨g, 0, none⟩))) (h3 : tmps[u]? = some v) (k : CB W g ph gl sw fr bg ak) :
    (results fn tmps).run Try.prog W = .ok (.tuple #[.agg #[.int .u8 ph, .int .i64 gl, .int .i64 sw, .int .i64 fr, .int .i64 bg, .bool ak], v]) W := by
  have a0 := heap_cell (j := 0) k rfl
  have a1 := heap_cell (j := 1) k rfl
  have a2 := heap_cell (j := 2) k rfl
  have a3 := heap_cell (j := 3) k rfl
  have a4 := heap_cell (j := 4) k rfl
  have a5 := heap_cell (j := 5) k rfl
  obtain ⟨l1, e1⟩ := Array.getElem?_eq_some_iff.1 h1
  obtain ⟨l3, e3⟩ := Array.getElem?_eq_some_iff.1 h3
  simp [results, hres, go_sem, l1, e1, l3, e3, a0, a1, a2, a3, a4, a5]
/-- What is around, a block. -/
def AB (W : World) (g : Nat) (ce ag th : Int) (st tl gr : Bool) : Prop := W.heap[g]? = some (.cells #[.int .i64 ce, .int .i64 ag, .int .i64 th, .bool st, .bool tl, .bool gr] 29 (0, 0))
theorem set4 {W : World} {g T : Nat} {a b c d : Value} (a' b' c' d' : Value) (h : W.heap[g]? = some (.cells #[a, b, c, d] T (0, 0))) :
    ((((W.setCell ⟨g, 0, none⟩ a').setCell ⟨g, 1, none⟩ b').setCell ⟨g, 2, none⟩ c').setCell ⟨g, 3, none⟩ d').heap[g]? = some (.cells #[a', b', c', d'] T (0, 0)) := by
  have h1 := set_atC (j := 0) h a'
  have h2 := set_atC (j := 1) h1 b'
  have h3 := set_atC (j := 2) h2 c'
  exact set_atC (j := 3) h3 d'
theorem set6 {W : World} {g T : Nat} {a b c d e f : Value} (a' b' c' d' e' f' : Value) (h : W.heap[g]? = some (.cells #[a, b, c, d, e, f] T (0, 0))) :
    ((((((W.setCell ⟨g, 0, none⟩ a').setCell ⟨g, 1, none⟩ b').setCell ⟨g, 2, none⟩ c').setCell ⟨g, 3, none⟩ d').setCell ⟨g, 4, none⟩ e').setCell ⟨g, 5, none⟩ f').heap[g]? = some (.cells #[a', b', c', d', e', f'] T (0, 0)) := by
  have h1 := set_atC (j := 0) h a'
  have h2 := set_atC (j := 1) h1 b'
  have h3 := set_atC (j := 2) h2 c'
  have h4 := set_atC (j := 3) h3 d'
  have h5 := set_atC (j := 4) h4 e'
  exact set_atC (j := 5) h5 f'
theorem fz_of {W : World} {g T : Nat} {cs : Array Value} (h : W.heap[g]? = some (.cells cs T (0, 0))) (j : Nat) : W.frozen? ⟨g, j, none⟩ = false := by simp [World.frozen?, h]
/-- A call's blocks: where the collector is, what is around, the answer's. -/
structure NX (w W : World) (ph gl sw fr bg : Int) (ak : Bool) (ce ag th : Int) (st tl gr : Bool) : Prop where
  cb : CB W w.heap.size ph gl sw fr bg ak
  ab : AB W (w.heap.size + 1) ce ag th st tl gr
  db : DB W (w.heap.size + 2) d0
  below : Below w.heap.size w W
theorem NX.keep {w W W' : World} {ph gl sw fr bg : Int} {ak : Bool} {ce ag th : Int} {st tl gr : Bool} (h : NX w W ph gl sw fr bg ak ce ag th st tl gr) (hb : Below W.heap.size W W') : NX w W' ph gl sw fr bg ak ce ag th st tl gr :=
  ⟨(hb.block _ (heap_lt h.cb)).trans h.cb, (hb.block _ (heap_lt h.ab)).trans h.ab, (hb.block _ (heap_lt h.db)).trans h.db, h.below.trans (hb.mono h.below.size)⟩
theorem NX.done {w W : World} {ph gl sw fr bg : Int} {ak : Bool} {ce ag th : Int} {st tl gr : Bool} (h : NX w W ph gl sw fr bg ak ce ag th st tl gr) (d : Dn) :
    DB ((((W.setCell ⟨w.heap.size + 2, 0, none⟩ (.int .u8 d.wh)).setCell ⟨w.heap.size + 2, 1, none⟩ (.int .i64 d.gl)).setCell ⟨w.heap.size + 2, 2, none⟩ (.int .i64 d.th)).setCell ⟨w.heap.size + 2, 3, none⟩ (.int .i64 d.ce)) (w.heap.size + 2) d
    ∧ Below w.heap.size w ((((W.setCell ⟨w.heap.size + 2, 0, none⟩ (.int .u8 d.wh)).setCell ⟨w.heap.size + 2, 1, none⟩ (.int .i64 d.gl)).setCell ⟨w.heap.size + 2, 2, none⟩ (.int .i64 d.th)).setCell ⟨w.heap.size + 2, 3, none⟩ (.int .i64 d.ce)) :=
  ⟨set4 _ _ _ _ h.db, (((h.below.setCell (by simp) _).setCell (by simp) _).setCell (by simp) _).setCell (by simp) _⟩
theorem nx_new (w : World) (ph gl sw fr bg : Int) (ak : Bool) (ce ag th : Int) (st tl gr : Bool) : NX w (((w.alloc (.cells #[.int .u8 ph, .int .i64 gl, .int .i64 sw, .int .i64 fr, .int .i64 bg, .bool ak] 27)).alloc (.cells #[.int .i64 ce, .int .i64 ag, .int .i64 th, .bool st, .bool tl, .bool gr] 29)).alloc (.cells #[.int .u8 0, .int .i64 0, .int .i64 0, .int .i64 0] 34)) ph gl sw fr bg ak ce ag th st tl gr := by
  have h1 := heap_alloc_new w (.cells #[.int .u8 ph, .int .i64 gl, .int .i64 sw, .int .i64 fr, .int .i64 bg, .bool ak] 27)
  have b1 := (Below.refl w.heap.size w).alloc (Nat.le_refl _) (.cells #[.int .u8 ph, .int .i64 gl, .int .i64 sw, .int .i64 fr, .int .i64 bg, .bool ak] 27)
  have z1 := World.size_alloc w (.cells #[.int .u8 ph, .int .i64 gl, .int .i64 sw, .int .i64 fr, .int .i64 bg, .bool ak] 27)
  generalize w.alloc (.cells #[.int .u8 ph, .int .i64 gl, .int .i64 sw, .int .i64 fr, .int .i64 bg, .bool ak] 27) = w1 at h1 b1 z1 ⊢
  have h2 := heap_alloc_new w1 (.cells #[.int .i64 ce, .int .i64 ag, .int .i64 th, .bool st, .bool tl, .bool gr] 29)
  have b2 := (Below.refl w1.heap.size w1).alloc (Nat.le_refl _) (.cells #[.int .i64 ce, .int .i64 ag, .int .i64 th, .bool st, .bool tl, .bool gr] 29)
  have z2 := World.size_alloc w1 (.cells #[.int .i64 ce, .int .i64 ag, .int .i64 th, .bool st, .bool tl, .bool gr] 29)
  generalize w1.alloc (.cells #[.int .i64 ce, .int .i64 ag, .int .i64 th, .bool st, .bool tl, .bool gr] 29) = w2 at h2 b2 z2 ⊢
  have h3 := heap_alloc_new w2 (.cells #[.int .u8 0, .int .i64 0, .int .i64 0, .int .i64 0] 34)
  have b3 := (Below.refl w2.heap.size w2).alloc (Nat.le_refl _) (.cells #[.int .u8 0, .int .i64 0, .int .i64 0, .int .i64 0] 34)
  generalize w2.alloc (.cells #[.int .u8 0, .int .i64 0, .int .i64 0, .int .i64 0] 34) = w3 at h3 b3 ⊢
  rw [z1] at h2 z2
  rw [z2] at h3
  refine ⟨?_, ?_, h3, b1.trans ((b2.mono (by omega)).trans (b3.mono (by omega)))⟩
  · exact (b3.block _ (by omega)).trans ((b2.block _ (by omega)).trans h1)
  · exact (b3.block _ (by omega)).trans h2
end Go.Proofs.Ytnohcmfhhoiihaa
