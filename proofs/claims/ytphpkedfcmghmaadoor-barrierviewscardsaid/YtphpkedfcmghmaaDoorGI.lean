/- What BarrierViews keeps.; BarrierViews. -/
import Derived.Test.YtphpkedfcmghmaaDoorHABookOwnB
import Derived.Test.YtphpkedfcmghmaaDoorHBAsks
import Derived.Test.YtphpkedfcmghmaaDoorHBKnown
import Derived.Test.YtphpkedfcmghmaaDoorHBOfView
import Derived.Test.YtphpkedfcmghmaaDoorHBWholeW
/- What BarrierViews keeps. -/
namespace Go.Proofs.YtphpkedfcmghmaaDoor
open Go.RowKit

/-- No block of another type is the book's. -/
theorem BB.far {W : World} {b N g : Nat} {v : Value} {V : Nat → Value} {cs : Array Value} {t : TypeId} (h : BB W b v N V) (hc : W.heap[g]? = some (.cells cs t (0, 0))) (h1 : t ≠ 51) (h2 : t ≠ 73) (h3 : t ≠ 4) : ¬ BBF b v N V g := fun hg => by
  obtain ⟨n1, X1, hs⟩ := h.sh
  rcases hg with e | hg | ⟨j, hj, hg⟩
  · exact ty_ne hc h.heap h1 e
  · exact own_ty hs.row hc h2 hg
  · exact own_ty (hs.own j hj) hc h3 hg
theorem own_setV {w : World} {base e size n cap g k : Nat} {xs : List Value} (h : w.ownsRow base e size (.slice (some ⟨g, 0, none⟩) n cap) n xs) (hk : k < xs.length) (u : Value) : (w.setCell ⟨g, k, none⟩ u).ownsRow base e size (.slice (some ⟨g, 0, none⟩) n cap) n (xs.set k u) := by
  obtain ⟨cs, h1, h2, h3, h4, h5, h6, h7⟩ := own_out h
  refine own_of (set_atC h1 u) (by simp [h2]) h3 h4 h5 (by simp [h6]) (fun j x hj => ?_)
  rw [List.getElem?_set] at hj
  have hkc : k < cs.size := (Array.getElem?_eq_some_iff.1 (h7 k _ (List.getElem?_eq_getElem hk))).1
  split at hj
  · rename_i e
    subst e
    cases hj
    rw [Array.getElem?_setIfInBounds_self_of_lt hkc]
  · rename_i e
    rw [Array.getElem?_setIfInBounds_ne e]
    exact h7 j x hj
theorem cl4_a : ∀ (l : List Cl) (j : Nat) (x : Cl) (a : Int), l[j]? = some x → cl4 (l.set j ⟨x.k, x.c, a, x.b⟩) = (cl4 l).set (j * 4 + 1 + 1) (.int .u64 a)
  | [], j, x, a, h => by simp at h
  | y :: r, 0, x, a, h => by
    have e : y = x := by simpa using h
    subst e
    rfl
  | y :: r, j + 1, x, a, h => by
    have := cl4_a r j x a (by simpa using h)
    have e : ∀ M : List Cl, cl4 (y :: M) = .int .u8 y.k :: .int .u8 y.c :: .int .u64 y.a :: .int .u64 y.b :: cl4 M := fun _ => rfl
    rw [List.set_cons_succ, e, e, this, show (j + 1) * 4 + 1 + 1 = j * 4 + 1 + 1 + 1 + 1 + 1 + 1 by omega, List.set_cons_succ, List.set_cons_succ, List.set_cons_succ, List.set_cons_succ]
theorem cl4_b : ∀ (l : List Cl) (j : Nat) (x : Cl) (a : Int), l[j]? = some x → cl4 (l.set j ⟨x.k, x.c, x.a, a⟩) = (cl4 l).set (j * 4 + 1 + 1 + 1) (.int .u64 a)
  | [], j, x, a, h => by simp at h
  | y :: r, 0, x, a, h => by
    have e : y = x := by simpa using h
    subst e
    rfl
  | y :: r, j + 1, x, a, h => by
    have := cl4_b r j x a (by simpa using h)
    have e : ∀ M : List Cl, cl4 (y :: M) = .int .u8 y.k :: .int .u8 y.c :: .int .u64 y.a :: .int .u64 y.b :: cl4 M := fun _ => rfl
    rw [List.set_cons_succ, e, e, this, show (j + 1) * 4 + 1 + 1 + 1 = j * 4 + 1 + 1 + 1 + 1 + 1 + 1 + 1 by omega, List.set_cons_succ, List.set_cons_succ, List.set_cons_succ, List.set_cons_succ]
theorem lq3_flip : ∀ (l : List Lq) (j : Nat) (q : Lq) (b : Bool), l[j]? = some q → lq3 (l.set j ⟨q.ra, q.cc, ⟨q.x.roots, b, q.x.en⟩⟩) = (lq3 l).set (j * 3 + 1) (.bool b)
  | [], j, q, b, h => by simp at h
  | y :: r, 0, q, b, h => by
    have e : y = q := by simpa using h
    subst e
    rfl
  | y :: r, j + 1, q, b, h => by
    have := lq3_flip r j q b (by simpa using h)
    have e : ∀ M : List Lq, lq3 (y :: M) = .slice y.ra y.x.roots.length y.cc :: .bool y.x.sc :: .bool y.x.en :: lq3 M := fun _ => rfl
    rw [List.set_cons_succ, e, e, this, show (j + 1) * 3 + 1 = j * 3 + 1 + 1 + 1 + 1 by omega, List.set_cons_succ, List.set_cons_succ, List.set_cons_succ]
theorem lq3_len (l : List Lq) : (lq3 l).length = l.length * 3 := by
  induction l with
  | nil => rfl
  | cons y r ih => show ([_, _, _] ++ lq3 r).length = _; simp [ih]; omega
/-- The view, a lent one and the book. -/
structure VX (w0 W : World) (p : Vp) (v : Vw) (bx bk gc gy gg : Nat) (lr : Option Addr) (lc : Nat) (H : List Cl) (M : List Lq) (vb : Value) (N : Nat) (V : Nat → Value) : Prop where
  b1 : VB W w0.heap.size p v
  b2 : VB W bx (lvP v gc gy gg lr lc) v
  x : LV W w0.heap.size ⟨H, v.ph, v.sw, v.grey, v.gl, v.laid, M.map Lq.x⟩ gc gy gg lr lc M
  hH : H.length = v.h.length
  hM : M.map (fun q => q.x.roots) = v.lanes.map Ln.roots
  ok : ∀ x ∈ H, OkK x
  book : BB W bk vb N V
  low : ∀ k, BBF bk vb N V k → w0.heap.size ≤ k
  bel : Below w0.heap.size w0 W
  lx : w0.heap.size ≤ bx
variable {w0 W W' : World} {p : Vp} {v : Vw} {bx bk gc gy gg : Nat} {lr : Option Addr} {lc : Nat} {H : List Cl} {M : List Lq} {vb vb' : Value} {N : Nat} {V V' : Nat → Value}
theorem VX.lenM (X : VX w0 W p v bx bk gc gy gg lr lc H M vb N V) : M.length = v.lanes.length := by
  have := congrArg List.length X.hM
  simpa using this
theorem VX.below (X : VX w0 W p v bx bk gc gy gg lr lc H M vb N V) (hb : Below W.heap.size W W') : VX w0 W' p v bx bk gc gy gg lr lc H M vb N V :=
  ⟨(hb.block _ (heap_lt X.b1)).trans X.b1, (hb.block _ (heap_lt X.b2)).trans X.b2, X.x.below hb, X.hH, X.hM, X.ok, X.book.below hb, X.low, X.bel.trans (hb.mono X.bel.size), X.lx⟩
theorem VX.asked (X : VX w0 W p v bx bk gc gy gg lr lc H M vb N V) (hr : AsR W W' bk N vb V vb' V') : VX w0 W' p v bx bk gc gy gg lr lc H M vb' (N + 2) V' := by
  have hk : ∀ {g : Nat} {cs : Array Value} {t : TypeId}, W.heap[g]? = some (.cells cs t (0, 0)) → t ≠ 51 → t ≠ 73 → t ≠ 4 → W'.heap[g]? = W.heap[g]? := fun hc h1 h2 h3 => hr.o _ (heap_lt hc) (X.book.far hc h1 h2 h3)
  have own : ∀ {e size n : Nat} {x : Value} {xs : List Value}, W.ownsRow w0.heap.size e size x n xs → e ≠ 51 → e ≠ 73 → e ≠ 4 → W'.ownsRow w0.heap.size e size x n xs := fun h h1 h2 h3 => own_same h (fun k hk' => by obtain ⟨cs, hc⟩ := own_blk h hk'; exact hk hc h1 h2 h3)
  refine ⟨(hk X.b1 (by decide) (by decide) (by decide)).trans X.b1, (hk X.b2 (by decide) (by decide) (by decide)).trans X.b2, ⟨own X.x.c (by decide) (by decide) (by decide), own X.x.y (by decide) (by decide) (by decide), own X.x.g (by decide) (by decide) (by decide), own X.x.l (by decide) (by decide) (by decide), fun q hq => ?_, X.x.e⟩, X.hH, X.hM, X.ok, hr.k, fun k hk' => ?_, X.bel.trans ((show Fr (fun g => g < w0.heap.size) W W' from ⟨hr.bw, fun g hg hl => hr.o g hl (fun hf => by have := X.low g hf; omega)⟩).below X.bel.size), X.lx⟩
  · obtain ⟨g, h1, h2, h3⟩ := X.x.q q hq
    exact ⟨g, h1, h2, own h3 (by decide) (by decide) (by decide)⟩
  · rcases hr.f k hk' with h | h
    · exact X.low k h
    · exact Nat.le_trans X.bel.size h
theorem VX.setC (X : VX w0 W p v bx bk gc gy gg lr lc H M vb N V) {j : Nat} {u : Value} {H' : List Cl} (hl : H'.length = H.length) (ho : LentW (W.setCell ⟨gc, j, none⟩ u) w0.heap.size gc H') (hk : ∀ x ∈ H', OkK x) : VX w0 (W.setCell ⟨gc, j, none⟩ u) p v bx bk gc gy gg lr lc H' M vb N V := by
  obtain ⟨cs, hG, hg, _⟩ := lent_at X.x.c
  have kp : ∀ {g : Nat} {cs : Array Value} {t : TypeId}, W.heap[g]? = some (.cells cs t (0, 0)) → 59 ≠ t → (W.setCell ⟨gc, j, none⟩ u).heap[g]? = W.heap[g]? := fun hc hn => Below.heap_setCell _ _ _ _ (fun e => ty_ne hG hc hn e.symm)
  have own : ∀ {e size n : Nat} {x : Value} {xs : List Value}, W.ownsRow w0.heap.size e size x n xs → 59 ≠ e → (W.setCell ⟨gc, j, none⟩ u).ownsRow w0.heap.size e size x n xs := fun h hn => own_same h (fun k hk' => by obtain ⟨cs, hc⟩ := own_blk h hk'; exact kp hc hn)
  refine ⟨(kp X.b1 (by decide)).trans X.b1, (kp X.b2 (by decide)).trans X.b2, ⟨ho, own X.x.y (by decide), own X.x.g (by decide), own X.x.l (by decide), fun q hq => ?_, rfl⟩, hl.trans X.hH, X.hM, hk, X.book.kept (fun g hf => Below.heap_setCell _ _ _ _ (fun e => X.book.far hG (by decide) (by decide) (by decide) (by rw [← show g = gc from e]; exact hf))), X.low, X.bel.setCell (p := ⟨gc, j, none⟩) hg _, X.lx⟩
  obtain ⟨g, h1, h2, h3⟩ := X.x.q q hq
  exact ⟨g, h1, h2, own h3 (by decide)⟩
theorem VX.setA (X : VX w0 W p v bx bk gc gy gg lr lc H M vb N V) {k : Nat} {x : Cl} (hx : H[k]? = some x) {a : Int} (ha : Rng a) : VX w0 (W.setCell ⟨gc, k * 4 + 1 + 1, none⟩ (.int .u64 a)) p v bx bk gc gy gg lr lc (H.set k ⟨x.k, x.c, a, x.b⟩) M vb N V := by
  have hj := (List.getElem?_eq_some_iff.1 hx).1
  have hx0 := X.ok x (List.mem_of_getElem? hx)
  have o1 := own_setV X.x.c (k := k * 4 + 1 + 1) (by rw [List.length_append, cl4_len]; dsimp only; omega) (.int .u64 a)
  refine X.setC (List.length_set ..) ?_ (fun y hy => ?_)
  · unfold LentW
    rw [List.length_set, cl4_a H k x a hx, ← List.set_append_left _ _ (by rw [cl4_len]; omega)]
    exact o1
  · rcases List.mem_or_eq_of_mem_set hy with hy | rfl
    · exact X.ok y hy
    · exact ⟨hx0.k, hx0.c, ha, hx0.b⟩
theorem VX.setB (X : VX w0 W p v bx bk gc gy gg lr lc H M vb N V) {k : Nat} {x : Cl} (hx : H[k]? = some x) {a : Int} (ha : Rng a) : VX w0 (W.setCell ⟨gc, k * 4 + 1 + 1 + 1, none⟩ (.int .u64 a)) p v bx bk gc gy gg lr lc (H.set k ⟨x.k, x.c, x.a, a⟩) M vb N V := by
  have hj := (List.getElem?_eq_some_iff.1 hx).1
  have hx0 := X.ok x (List.mem_of_getElem? hx)
  have o1 := own_setV X.x.c (k := k * 4 + 1 + 1 + 1) (by rw [List.length_append, cl4_len]; dsimp only; omega) (.int .u64 a)
  refine X.setC (List.length_set ..) ?_ (fun y hy => ?_)
  · unfold LentW
    rw [List.length_set, cl4_b H k x a hx, ← List.set_append_left _ _ (by rw [cl4_len]; omega)]
    exact o1
  · rcases List.mem_or_eq_of_mem_set hy with hy | rfl
    · exact X.ok y hy
    · exact ⟨hx0.k, hx0.c, hx0.a, ha⟩
theorem VX.swap (X : VX w0 W p v bx bk gc gy gg lr lc H M vb N V) {k : Nat} {x : Cl} (hx : H[k]? = some x) : VX w0 ((W.setCell ⟨gc, k * 4 + 1 + 1, none⟩ (.int .u64 x.b)).setCell ⟨gc, k * 4 + 1 + 1 + 1, none⟩ (.int .u64 x.a)) p v bx bk gc gy gg lr lc (H.set k ⟨x.k, x.c, x.b, x.a⟩) M vb N V := by
  have hj := (List.getElem?_eq_some_iff.1 hx).1
  have hx0 := X.ok x (List.mem_of_getElem? hx)
  have h1 := (X.setA hx hx0.b).setB (k := k) (x := ⟨x.k, x.c, x.b, x.b⟩) (by rw [List.getElem?_set]; simp [hj]) hx0.a
  rw [List.set_set] at h1
  exact h1
theorem VX.flip {gl : Nat} (X : VX w0 W p v bx bk gc gy gg (some ⟨gl, 0, none⟩) lc H M vb N V) {k : Nat} {q : Lq} (hq : M[k]? = some q) (b : Bool) : VX w0 (W.setCell ⟨gl, k * 3 + 1, none⟩ (.bool b)) p v bx bk gc gy gg (some ⟨gl, 0, none⟩) lc H (M.set k ⟨q.ra, q.cc, ⟨q.x.roots, b, q.x.en⟩⟩) vb N V := by
  have hj := (List.getElem?_eq_some_iff.1 hq).1
  obtain ⟨cs, hG⟩ := own_blk X.x.l rfl
  have hg : w0.heap.size ≤ gl := (X.x.l.lt gl rfl).1
  have o1 := own_setV X.x.l (k := k * 3 + 1) (by rw [lq3_len]; omega) (.bool b)
  have kp : ∀ {g : Nat} {cs : Array Value} {t : TypeId}, W.heap[g]? = some (.cells cs t (0, 0)) → 61 ≠ t → (W.setCell ⟨gl, k * 3 + 1, none⟩ (.bool b)).heap[g]? = W.heap[g]? := fun hc hn => Below.heap_setCell _ _ _ _ (fun e => ty_ne hG hc hn e.symm)
  have own : ∀ {e size n : Nat} {x : Value} {xs : List Value}, W.ownsRow w0.heap.size e size x n xs → 61 ≠ e → (W.setCell ⟨gl, k * 3 + 1, none⟩ (.bool b)).ownsRow w0.heap.size e size x n xs := fun h hn => own_same h (fun k hk' => by obtain ⟨cs, hc⟩ := own_blk h hk'; exact kp hc hn)
  refine ⟨(kp X.b1 (by decide)).trans X.b1, (kp X.b2 (by decide)).trans X.b2, ⟨own X.x.c (by decide), own X.x.y (by decide), own X.x.g (by decide), ?_, fun r hr => ?_, rfl⟩, X.hH, ?_, X.ok, X.book.kept (fun g hf => Below.heap_setCell _ _ _ _ (fun e => X.book.far hG (by decide) (by decide) (by decide) (by rw [← show g = gl from e]; exact hf))), X.low, X.bel.setCell (p := ⟨gl, k * 3 + 1, none⟩) hg _, X.lx⟩
  · rw [List.length_set, lq3_flip M k q b hq]
    exact o1
  · rcases List.mem_or_eq_of_mem_set hr with hr | rfl
    · obtain ⟨g, h1, h2, h3⟩ := X.x.q r hr
      exact ⟨g, h1, h2, own h3 (by decide)⟩
    · obtain ⟨g, h1, h2, h3⟩ := X.x.q q (List.mem_of_getElem? hq)
      exact ⟨g, h1, h2, own h3 (by decide)⟩
  · rw [← X.hM, List.map_set]
    refine List.ext_getElem? (fun i => ?_)
    rw [List.getElem?_set]
    split
    · rename_i e
      subst e
      rw [List.getElem?_map, hq]
      simp [hj]
    · rfl
/-- How the lent view is read. -/
theorem VX.vl (X : VX w0 W p v bx bk gc gy gg lr lc H M vb N V) (hg : ∀ x ∈ v.gl, Rng x) (hl : ∀ y ∈ v.lanes, ∀ x ∈ y.roots, Rng x) (hsm : v.h.length + v.grey.length + v.gl.length + v.lanes.length + (v.lanes.map Ln.roots).flatten.length ≤ 20000) :
    VL W (lvP v gc gy gg lr lc) ⟨H, v.ph, v.sw, v.grey, v.gl, v.laid, M.map Lq.x⟩ := by
  have hm : ∀ y ∈ M.map Lq.x, y.roots ∈ v.lanes.map Ln.roots := fun y hy => by
    obtain ⟨q, hq, rfl⟩ := List.mem_map.1 hy
    rw [← X.hM]
    exact List.mem_map.2 ⟨q, hq, rfl⟩
  have h1 := X.hH
  have h2 := X.lenM
  have := X.x.vl X.ok hg (fun y hy => by
    obtain ⟨z, hz, e⟩ := List.mem_map.1 (hm y hy)
    rw [← e]
    exact hl z hz) ⟨by dsimp only; omega, by dsimp only; omega, by dsimp only; omega, by rw [List.length_map]; omega, fun y hy => by
    obtain ⟨z, hz, e⟩ := List.mem_map.1 (hm y hy)
    rw [← e]
    have := len_flat hz
    omega⟩
  unfold lvP at this ⊢
  dsimp only at this ⊢
  rw [X.hH] at this
  exact this
theorem VX.cells (X : VX w0 W p v bx bk gc gy gg lr lc H M vb N V) : (lvP v gc gy gg lr lc).cells ⟨H, v.ph, v.sw, v.grey, v.gl, v.laid, M.map Lq.x⟩ = (lvP v gc gy gg lr lc).cells v := by
  unfold Vp.cells
  dsimp only
  rw [X.hH, List.length_map, X.lenM]
theorem VX.sum (X : VX w0 W p v bx bk gc gy gg lr lc H M vb N V) (hsm : v.h.length + v.grey.length + v.gl.length + v.lanes.length + (v.lanes.map Ln.roots).flatten.length ≤ 20000) : H.length + v.gl.length + ((M.map Lq.x).map Ln.roots).flatten.length ≤ 20000 := by
  have e : (M.map Lq.x).map Ln.roots = v.lanes.map Ln.roots := by
    rw [← X.hM, List.map_map]
    rfl
  rw [e, X.hH]
  omega
/-- A new one: the lent view and a book behind it. -/
theorem vx_new {B : Nat} (h1 : VB W w0.heap.size p v) (hb : Below w0.heap.size w0 W) (hs : w0.heap.size ≤ B) (hL : LV W B v gc gy gg lr lc M) (hk : ∀ x ∈ v.h, OkK x) (hW : (W.alloc (.cells ((lvP v gc gy gg lr lc).cells v) 28)).alloc (.cells #[.slice none 0 0, .slice none 0 0, .slice none 0 0, .slice none 0 0, .slice none 0 0, .slice none 0 0, .slice none 0 0, .slice none 0 0, .slice none 0 0, .slice none 0 0, .slice none 0 0, .slice none 0 0, .slice none 0 0, .slice none 0 0, .slice none 0 0, .slice none 0 0, .slice none 0 0] 51) = W') :
    VX w0 W' p v W.heap.size (W.heap.size + 1) gc gy gg lr lc v.h M (.slice none 0 0) 0 (fun _ => .slice none 0 0) := by
  have b2 : Below W.heap.size W W' := by
    rw [← hW]
    exact ((Below.refl _ W).alloc (Nat.le_refl _) _).alloc (by rw [World.size_alloc]; omega) _
  have hL' := hL.below b2
  refine ⟨(b2.block _ (heap_lt h1)).trans h1, ?_, ⟨own_low hL'.c hs, own_low hL'.y hs, own_low hL'.g hs, own_low hL'.l hs, fun q hq => ?_, rfl⟩, rfl, ?_, hk, ⟨?_, ⟨_, _, sh_nil (KB 0) W' _ (fun _ => 0) (fun _ => [])⟩⟩, fun k hk => ?_, hb.trans (b2.mono hb.size), hb.size⟩
  · unfold VB
    rw [← hW, Below.heap_alloc _ _ _ (by rw [World.size_alloc]; omega)]
    exact World.alloc_heap_new W _
  · obtain ⟨g, q1, q2, q3⟩ := hL'.q q hq
    exact ⟨g, q1, q2, own_low q3 hs⟩
  · rw [← hL.e, List.map_map]
    rfl
  · rw [← hW]
    have := World.alloc_heap_new (W.alloc (.cells ((lvP v gc gy gg lr lc).cells v) 28)) (.cells #[.slice none 0 0, .slice none 0 0, .slice none 0 0, .slice none 0 0, .slice none 0 0, .slice none 0 0, .slice none 0 0, .slice none 0 0, .slice none 0 0, .slice none 0 0, .slice none 0 0, .slice none 0 0, .slice none 0 0, .slice none 0 0, .slice none 0 0, .slice none 0 0, .slice none 0 0] 51)
    rw [World.size_alloc] at this
    exact this
  · have := hb.size
    rcases hk with e | e | ⟨j, hj, _⟩
    · omega
    · cases e
    · exact absurd hj (Nat.not_lt_zero _)
end Go.Proofs.YtphpkedfcmghmaaDoor

/- BarrierViews. -/
namespace Go.Proofs.YtphpkedfcmghmaaDoor
open Go.RowKit

theorem wr_rng' {W : World} {ra : Option Addr} {l : List Int} (h : WR W ra l) : ∀ x ∈ l, Rng x := fun x hx => by
  obtain ⟨_, _, _, h2⟩ := h
  obtain ⟨j, hj⟩ := List.getElem?_of_mem hx
  exact (h2 j x hj).2.2
abbrev nW : Nat → Value := fun _ => .slice none 0 0
set_option maxRecDepth 100000 in
set_option maxHeartbeats 32000000 in
theorem barrierViews_walk (p : Vp) (v : Vw) (w : World) (hV : VL w p v) (hgc : v.gl.length ≤ p.gc) (hT : Tab w) :
    Calls Tryd.prog 3 #[.agg (p.cells v)] w fun e w' => e = .returned (.bool true) ∧ Below w.heap.size w w' := by
  have HV : Hid (VL w p v) := hV
  have HT : Hid (Tab w) := hT
  have HGc : Hid (v.gl.length ≤ p.gc) := hgc
  have HRg : Hid (∀ x ∈ v.gl, Rng x) := wr_rng' hV.g
  have HRl : Hid (∀ y ∈ v.lanes, ∀ x ∈ y.roots, Rng x) := fun y hy => by
    obtain ⟨j, hj⟩ := List.getElem?_of_mem hy
    obtain ⟨_, _, _, hcs⟩ := hV.l
    obtain ⟨_, ⟨_, _, _, hw, _⟩, _⟩ := hcs j y hj
    exact wr_rng' hw
  obtain ⟨W1, hW1⟩ : ∃ W1, w.alloc (.cells (p.cells v) 28) = W1 := ⟨_, rfl⟩
  have b1 : Below w.heap.size w W1 := by rw [← hW1]; exact (Below.refl _ w).alloc (Nat.le_refl _) _
  have v1 : VB W1 w.heap.size p v := by unfold VB; rw [← hW1]; exact World.alloc_heap_new w _
  have HE1 : Hid (VB W1 w.heap.size p v ∧ Below w.heap.size w W1) := ⟨v1, b1⟩
  have HKp : Hid (∀ {Wa Wb : World}, (VB Wa w.heap.size p v ∧ Below w.heap.size w Wa) → Below Wa.heap.size Wa Wb → (VB Wb w.heap.size p v ∧ Below w.heap.size w Wb)) := fun h hb => ⟨(hb.block _ (heap_lt h.1)).trans h.1, h.2.trans (hb.mono h.2.size)⟩
  have HO : Hid (∀ W, Below w.heap.size w W → Calls Tryd.prog 6 #[.agg (p.cells v)] W fun e w' => e = .returned (.int .i64 (ofV v)) ∧ Below W.heap.size W w') := fun W hW => ofView_any p v W (HV.out.kc (kc_below (Nat.le_refl _) hW))
  have HLn : Hid (∀ W, Below w.heap.size w W → v.h.length + v.grey.length + v.gl.length + v.lanes.length + (v.lanes.map Ln.roots).flatten.length ≤ 20000 → Calls Tryd.prog 8 #[.agg (p.cells v)] W fun e w' => LnR W v e w') := fun W hW hs => lent_any p v W (HV.out.kc (kc_below (Nat.le_refl _) hW)) hs
  have HAs : Hid (∀ W bx bk gc gy gg lr lc M vb N V, v.h.length + v.grey.length + v.gl.length + v.lanes.length + (v.lanes.map Ln.roots).flatten.length ≤ 20000 → M.map Lq.x = v.lanes → N ≤ 1000 → VX w W p v bx bk gc gy gg lr lc v.h M vb N V → Calls Tryd.prog 9 #[.agg ((lvP v gc gy gg lr lc).cells v), .agg (p.cells v), .pointer (some ⟨bk, 0, none⟩)] W fun e w' => e = .returned (.bool true) ∧ ∃ vb' V', VX w w' p v bx bk gc gy gg lr lc v.h M vb' (N + 2) V') := fun W bx bk gc gy gg lr lc M vb N V hs hm hN X => by
    have hvl := X.vl HRg.out HRl.out hs
    rw [hm] at hvl
    refine (asks_any (lvP v gc gy gg lr lc) p v bk N vb V W hvl (HV.out.kc (kc_below (Nat.le_refl _) X.bel)) (HT.out.below X.bel) (by omega) HGc.out X.book hN).mono ?_
    rintro e w' ⟨rfl, vb', V', hr⟩
    exact ⟨rfl, vb', V', X.asked hr⟩
  have HAx : Hid (∀ W bx bk gc gy gg lr lc H M vb N V, v.h.length + v.grey.length + v.gl.length + v.lanes.length + (v.lanes.map Ln.roots).flatten.length ≤ 20000 → N ≤ 1000 → VX w W p v bx bk gc gy gg lr lc H M vb N V → Calls Tryd.prog 9 #[.agg ((lvP v gc gy gg lr lc).cells v), .agg ((lvP v gc gy gg lr lc).cells v), .pointer (some ⟨bk, 0, none⟩)] W fun e w' => e = .returned (.bool true) ∧ ∃ vb' V', VX w w' p v bx bk gc gy gg lr lc H M vb' (N + 2) V') := fun W bx bk gc gy gg lr lc H M vb N V hs hN X => by
    have hvl := X.vl HRg.out HRl.out hs
    have := asks_any (lvP v gc gy gg lr lc) (lvP v gc gy gg lr lc) ⟨H, v.ph, v.sw, v.grey, v.gl, v.laid, M.map Lq.x⟩ bk N vb V W hvl hvl (HT.out.below X.bel) (X.sum hs) (Nat.le_add_right _ _) X.book hN
    rw [X.cells] at this
    refine this.mono ?_
    rintro e w' ⟨rfl, vb', V', hr⟩
    exact ⟨rfl, vb', V', X.asked hr⟩
  have HWh : Hid (∀ W bx bk gc gy gg lr lc M vb N V, v.h.length + v.grey.length + v.gl.length + v.lanes.length + (v.lanes.map Ln.roots).flatten.length ≤ 20000 → M.map Lq.x = v.lanes → VX w W p v bx bk gc gy gg lr lc v.h M vb N V → Calls Tryd.prog 10 #[.agg ((lvP v gc gy gg lr lc).cells v), .agg (p.cells v)] W fun e w' => e = .returned (.bool true) ∧ Below W.heap.size W w') := fun W bx bk gc gy gg lr lc M vb N V hs hm X => by
    have hx := X.x
    rw [hm] at hx
    exact whole_any p v W w.heap.size gc gy gg lr lc M hx (HV.out.kc (kc_below (Nat.le_refl _) X.bel)) hs
  have HW1 : Hid _ := hW1
  have HOk : Hid (∀ x ∈ v.h, OkK x) := fun x hx => by
    obtain ⟨_, _, _, h2⟩ := hV.h
    obtain ⟨j, hj⟩ := List.getElem?_of_mem hx
    exact (h2 j x hj).2.2
  obtain ⟨d0, d1, d2, d3, d4, d5, d6⟩ := v1.at7
  have l1 : w.heap.size < W1.heap.size := (Array.getElem?_eq_some_iff.1 v1).1
  clear hV hT hgc hW1 b1 v1
  obtain ⟨pcr, pcc, pyr, pyc, pgr, pgc, plr, plc⟩ := p
  unfold Vp.cells at HW1 HO HLn HAs HAx HWh
  unfold Vp.cells
  dsimp only at HW1 HO HLn HAs HAx HWh d0 d3 d4 d6 ⊢
  go_enter Tryd.func3, Tryd.ntmps3
  go_upto_region 1 with fail
  rw [HW1.out]
  clear HW1
  go_wp2_with fail
  refine Calls.mono (HO.out W1 HE1.out.2) ?_
  rintro e W2 ⟨rfl, hb2⟩
  have HE2 : Hid _ := HKp.out HE1.out hb2
  clear HO HE1 d0 d1 d2 d3 d4 d5 d6 l1 hb2
  by_cases hbig : 20000 < ofV v
  · have k0 : (ofV v : Int) > 20000 := by omega
    go_wp2
    go_ret
    exact ⟨rfl, HE2.out.2⟩
  have k0 : ¬ (ofV v : Int) > 20000 := by omega
  have HSm : Hid (v.h.length + v.grey.length + v.gl.length + v.lanes.length + (v.lanes.map Ln.roots).flatten.length ≤ 20000) := ofLn_le _ _ (by show ofV v ≤ 20000; omega)
  have HK : Hid _ := known_any W2 (HT.out.below HE2.out.2)
  go_wp2_with fail
  refine Calls.mono HK.out ?_
  rintro e W3 ⟨rfl, hb3⟩
  have HE3 : Hid _ := HKp.out HE2.out hb3
  clear HK HE2 hb3 k0 hbig
  obtain ⟨d0, d1, d2, d3, d4, d5, d6⟩ := HE3.out.1.at7
  dsimp only at d0 d3 d4 d6
  have l3 := heap_lt HE3.out.1
  go_wp2_with fail
  refine Calls.mono (HLn.out W3 HE3.out.2 HSm.out) ?_
  rintro e W4 ⟨gc, gy, gg, lr, lc, L, rfl, hL, hb4⟩
  have HE4 : Hid _ := HKp.out HE3.out hb4
  have HL4 : Hid (LV W4 W3.heap.size v gc gy gg lr lc L) := hL
  have HS3 : Hid (w.heap.size ≤ W3.heap.size) := HE3.out.2.size
  clear HLn HE3 hL hb4 d0 d1 d2 d3 d4 d5 d6 l3
  unfold lvP Vp.cells
  dsimp only
  obtain ⟨W5, hW5⟩ : ∃ W5, (W4.alloc (.cells ((lvP v gc gy gg lr lc).cells v) 28)).alloc (.cells #[.slice none 0 0, .slice none 0 0, .slice none 0 0, .slice none 0 0, .slice none 0 0, .slice none 0 0, .slice none 0 0, .slice none 0 0, .slice none 0 0, .slice none 0 0, .slice none 0 0, .slice none 0 0, .slice none 0 0, .slice none 0 0, .slice none 0 0, .slice none 0 0, .slice none 0 0] 51) = W5 := ⟨_, rfl⟩
  have HX : Hid (VX w W5 ⟨pcr, pcc, pyr, pyc, pgr, pgc, plr, plc⟩ v W4.heap.size (W4.heap.size + 1) gc gy gg lr lc v.h L (.slice none 0 0) 0 (fun _ => .slice none 0 0)) := vx_new HE4.out.1 HE4.out.2 HS3.out HL4.out HOk.out hW5
  have HLe : Hid (L.map Lq.x = v.lanes) := HL4.out.e
  have HW5 : Hid _ := hW5
  clear hW5 HE4 HL4 HS3
  unfold lvP Vp.cells at HW5
  dsimp only at HW5
  unfold lvP at HAs HAx HWh
  dsimp only at HAs HAx HWh
  go_upto_region 6 with fail
  rw [HW5.out]
  clear HW5
  generalize W4.heap.size + 1 = bk at HX ⊢
  generalize W4.heap.size = bx at HX ⊢
  have q1 : v.h.length ≤ 20000 := by have := HSm.out; omega
  have q3 : v.lanes.length ≤ 20000 := by have := HSm.out; omega
  go_wp2_with fail
  go_loopw [6, 7] (fun i _ wr => ∃ (j : Nat) (vb : Value) (N : Nat) (V : Nat → Value), i = .int .i64 j ∧ j ≤ 2 ∧ N = 2 * j ∧ Hid (VX w wr ⟨pcr, pcc, pyr, pyc, pgr, pgc, plr, plc⟩ v bx bk gc gy gg lr lc v.h L vb N V)) (fun i _ _ => 2 - (intOf i).toNat)
  case atStart => exact ⟨0, _, 0, _, rfl, by omega, rfl, HX⟩
  case round =>
    clear HX
    obtain ⟨j, vb, N, V, rfl, hj, hN, HX⟩ := hrel
    obtain ⟨d0, d1, d2, d3, d4, d5, d6⟩ := HX.out.b1.at7
    obtain ⟨x0, x1, x2, x3, x4, x5, x6⟩ := HX.out.b2.at7
    unfold lvP at x0 x3 x4 x6
    dsimp only at x0 x3 x4 x6 d0 d3 d4 d6
    have l1 := heap_lt HX.out.b1
    have l2 := heap_lt HX.out.b2
    by_cases hj2 : j < 2
    · have k1 : (j : Int) < 2 := by omega
      go_wp2_with fail
      refine Calls.mono (HAs.out wr bx bk gc gy gg lr lc L vb N V HSm.out HLe.out (by omega) HX.out) ?_
      rintro e W6 ⟨rfl, vb', V', X6⟩
      have HX6 : Hid _ := X6
      clear X6 HX x0 x1 x2 x3 x4 x5 x6 d0 d1 d2 d3 d4 d5 d6 l1 l2
      go_wp2_with fail
      go_roundw
      case rel => exact ⟨j + 1, vb', N + 2, V', by go_num, by omega, by omega, HX6⟩
      case measure => simp [intOf]; omega
    · have k1 : ¬ (j : Int) < 2 := by omega
      have hN4 : N = 4 := by omega
      subst hN4
      clear hN hj hj2
      go_wp2_with fail
      refine Calls.mono (HWh.out wr bx bk gc gy gg lr lc L vb _ V HSm.out HLe.out HX.out) ?_
      rintro e W7 ⟨rfl, hb7⟩
      have HX7 : Hid _ := HX.out.below hb7
      clear hb7 HX HWh HAs x0 x1 x2 x3 x4 x5 x6 d0 d1 d2 d3 d4 d5 d6 l1 l2 k1
      go_wp2_with fail
      go_loopw [9] (fun i wr => ∃ (k : Nat) (H : List Cl), i = .int .i64 k ∧ k ≤ v.h.length ∧ Hid (VX w wr ⟨pcr, pcc, pyr, pyc, pgr, pgc, plr, plc⟩ v bx bk gc gy gg lr lc H L vb 4 V)) (fun i _ => v.h.length - (intOf i).toNat)
      case atStart => exact ⟨0, v.h, rfl, Nat.zero_le _, HX7⟩
      case round =>
        clear HX7
        obtain ⟨k, H, rfl, hk, HX⟩ := hrel
        obtain ⟨x0, _, _, _, _, _, _⟩ := HX.out.b2.at7
        unfold lvP at x0
        dsimp only at x0
        have l2 := heap_lt HX.out.b2
        by_cases hkl : k < v.h.length
        · have k1 : (k : Int) < (v.h.length : Int) := by omega
          obtain ⟨x, hx⟩ : ∃ x, H[k]? = some x := ⟨_, List.getElem?_eq_getElem (by rw [HX.out.hH]; exact hkl)⟩
          have hkH := (List.getElem?_eq_some_iff.1 hx).1
          obtain ⟨_, _, qa, qb⟩ := cl4_at H k x hx
          have ca := own_cell HX.out.x.c (k := k * 4 + 1 + 1) (by rw [List.getElem?_append_left (by rw [cl4_len]; dsimp only; omega)]; exact qa)
          have cb := own_cell HX.out.x.c (k := k * 4 + 1 + 1 + 1) (by rw [List.getElem?_append_left (by rw [cl4_len]; dsimp only; omega)]; exact qb)
          have lg : gc < wr.heap.size := (HX.out.x.c.lt gc rfl).2
          obtain ⟨cs, hG, _⟩ := lent_at HX.out.x.c
          have fza : wr.frozen? ⟨gc, k * 4 + 1 + 1, none⟩ = false := by simp [World.frozen?, hG]
          have fzb : wr.frozen? ⟨gc, k * 4 + 1 + 1 + 1, none⟩ = false := by simp [World.frozen?, hG]
          have HX2 : Hid _ := HX.out.swap hx
          clear hx qa qb hG HX hkH
          go_upto_region 16 with fail
          go_region
          go_wp2_with fail
          go_roundw
          case rel => exact ⟨k + 1, _, by go_num, by omega, HX2.out.below ((Below.refl _ _).drew)⟩
          case measure => simp [intOf]; omega
        · have k1 : ¬ (k : Int) < (v.h.length : Int) := by omega
          go_wp2_with fail
          clear x0 l2 k1
          go_loopw [10] (fun i wr => ∃ (k : Nat) (M : List Lq), i = .int .i64 k ∧ k ≤ v.lanes.length ∧ Hid (VX w wr ⟨pcr, pcc, pyr, pyc, pgr, pgc, plr, plc⟩ v bx bk gc gy gg lr lc H M vb 4 V)) (fun i _ => v.lanes.length - (intOf i).toNat)
          case atStart => exact ⟨0, L, rfl, Nat.zero_le _, HX⟩
          case round =>
            clear HX
            obtain ⟨m, M, rfl, hm, HX⟩ := hrel
            obtain ⟨x0, x1, x2, x3, x4, x5, x6⟩ := HX.out.b2.at7
            unfold lvP at x0 x3 x4 x6
            dsimp only at x0 x3 x4 x6
            have l2 := heap_lt HX.out.b2
            by_cases hml : m < v.lanes.length
            · have k1 : (m : Int) < (v.lanes.length : Int) := by omega
              obtain ⟨q, hq⟩ : ∃ q, M[m]? = some q := ⟨_, List.getElem?_eq_getElem (by rw [HX.out.lenM]; exact hml)⟩
              obtain ⟨gl, hgl⟩ : ∃ gl, lr = some ⟨gl, 0, none⟩ := by
                rcases HX.out.x.l.2 with ⟨h', h0⟩ | ⟨g', cap', cur, hv, _⟩
                · exact absurd h0 (by have := HX.out.lenM; omega)
                · cases hv; exact ⟨g', rfl⟩
              subst hgl
              obtain ⟨_, t1, _⟩ := lq3_at M m q hq
              have c1 := own_cell HX.out.x.l t1
              have lg : gl < wr.heap.size := (HX.out.x.l.lt gl rfl).2
              obtain ⟨cs, hG⟩ := own_blk HX.out.x.l rfl
              have fz : wr.frozen? ⟨gl, m * 3 + 1, none⟩ = false := by simp [World.frozen?, hG]
              have HX2 : Hid _ := HX.out.flip hq (!q.x.sc)
              clear hq t1 hG HX x0 x1 x2 x3 x4 x5
              go_upto_region 20 with fail
              go_region
              go_wp2_with fail
              go_roundw
              case rel => exact ⟨m + 1, _, by go_num, by omega, HX2.out.below ((Below.refl _ _).drew)⟩
              case measure => simp [intOf]; omega
            · have k1 : ¬ (m : Int) < (v.lanes.length : Int) := by omega
              go_wp2_with fail
              refine Calls.mono (HAx.out wr bx bk gc gy gg lr lc H M vb 4 V HSm.out (by omega) HX.out) ?_
              rintro e W8 ⟨rfl, vb', V', X8⟩
              have HX8 : Hid _ := X8
              clear X8 HX x0 x1 x2 x3 x4 x5 x6 l2 k1
              have HC : Hid _ := bookOwn_any (fun k => k < w.heap.size) bk (4 + 2) vb' V' W8 (by omega) (fun k hk => Nat.lt_of_lt_of_le hk HX8.out.bel.size) HX8.out.book (fun j hj k hk => by have := HX8.out.low k (.inr (.inr ⟨j, hj, hk⟩)); omega)
              go_wp2_with fail
              refine Calls.mono HC.out ?_
              rintro e w9 ⟨rfl, hfr⟩
              have HBe : Hid (Below w.heap.size w w9) := HX8.out.bel.trans (hfr.below HX8.out.bel.size)
              clear hfr HC HX8
              go_wp2
              go_ret
              exact ⟨rfl, HBe.out⟩
end Go.Proofs.YtphpkedfcmghmaaDoor
