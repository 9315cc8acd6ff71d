/- BarrierEnds: the view that is stilled, where it lies. -/
import Derived.Test.YtphpkedfcmghmaaDoorGE
import Derived.Test.YtphpkedfcmghmaaDoorHBReach
import Derived.Test.YtphpkedfcmghmaaDoorHBOfView
namespace Go.Proofs.YtphpkedfcmghmaaDoor
open Go.RowKit

/-- A lane, and where its roots lie. -/
structure Lq where
  ra : Option Addr
  cc : Nat
  x : Ln
def lq3 (l : List Lq) : List Value := l.flatMap (fun q => [.slice q.ra q.x.roots.length q.cc, .bool q.x.sc, .bool q.x.en])
theorem lq3_at : ∀ (l : List Lq) (j : Nat) (q : Lq), l[j]? = some q → (lq3 l)[j * 3]? = some (.slice q.ra q.x.roots.length q.cc) ∧ (lq3 l)[j * 3 + 1]? = some (.bool q.x.sc) ∧ (lq3 l)[j * 3 + 1 + 1]? = some (.bool q.x.en)
  | [], j, x, h => by simp at h
  | y :: r, 0, x, h => by
    have e : y = x := by simpa using h
    subst e
    exact ⟨rfl, rfl, rfl⟩
  | y :: r, j + 1, x, h => by
    have := lq3_at r j x (by simpa using h)
    have e : lq3 (y :: r) = .slice y.ra y.x.roots.length y.cc :: .bool y.x.sc :: .bool y.x.en :: lq3 r := rfl
    rw [e, show (j + 1) * 3 = j * 3 + 1 + 1 + 1 by omega]
    simpa using this
theorem lq3_app (a b : List Lq) : lq3 (a ++ b) = lq3 a ++ lq3 b := by unfold lq3; rw [List.flatMap_append]
structure EV (w0 W : World) (p : Vp) (v : Vw) (vh : Value) (H : List Cl) (vl : Value) (L : List Lq) (vr : Value) (R : List Int) : Prop where
  vb : VB W w0.heap.size p v
  hr : W.ownsRow w0.heap.size 59 4 vh H.length (cl4 H)
  lr : W.ownsRow w0.heap.size 61 3 vl L.length (lq3 L)
  rr : W.ownsRow w0.heap.size 57 1 vr R.length (R.map (Value.int .u64))
  bel : Below w0.heap.size w0 W
theorem own_ty {w : World} {base e size n k : Nat} {v : Value} {xs : List Value} {cs : Array Value} {t : TypeId} (h : w.ownsRow base e size v n xs) (hk : w.heap[k]? = some (.cells cs t (0, 0))) (hn : t ≠ e) : v.ownBlock ≠ some k := fun hg => by
  obtain ⟨ds, hd⟩ := own_blk h hg
  exact ty_ne hk hd hn rfl
theorem EV.below {w0 W W' : World} {p : Vp} {v : Vw} {vh vl vr : Value} {H : List Cl} {L : List Lq} {R : List Int} (h : EV w0 W p v vh H vl L vr R) (hb : Below W.heap.size W W') : EV w0 W' p v vh H vl L vr R :=
  ⟨h.vb.kc (kc_below (Nat.le_refl _) hb), own_same h.hr (fun k hk => hb.block k (h.hr.lt k hk).2), own_same h.lr (fun k hk => hb.block k (h.lr.lt k hk).2), own_same h.rr (fun k hk => hb.block k (h.rr.lt k hk).2), h.bel.trans (hb.mono h.bel.size)⟩
theorem EV.lt {w0 W : World} {p : Vp} {v : Vw} {vh vl vr : Value} {H : List Cl} {L : List Lq} {R : List Int} (h : EV w0 W p v vh H vl L vr R) : w0.heap.size < W.heap.size := (Array.getElem?_eq_some_iff.1 h.vb).1
theorem EV.field {w0 W : World} {p p' : Vp} {v v' : Vw} {vh vl vr : Value} {H : List Cl} {L : List Lq} {R : List Int} (h : EV w0 W p v vh H vl L vr R) (j : Nat) (u : Value) (he : (p.cells v).setIfInBounds j u = p'.cells v') : EV w0 (W.setCell ⟨w0.heap.size, j, none⟩ u) p' v' vh H vl L vr R := by
  have hk : ∀ {e size n : Nat} {x : Value} {xs : List Value}, W.ownsRow w0.heap.size e size x n xs → 28 ≠ e → ∀ k, x.ownBlock = some k → (W.setCell ⟨w0.heap.size, j, none⟩ u).heap[k]? = W.heap[k]? := fun ho hn k hk => Below.heap_setCell _ _ _ _ (fun e => own_ty ho h.vb hn (by rw [← show k = w0.heap.size from e]; exact hk))
  refine ⟨?_, own_same h.hr (hk h.hr (by decide)), own_same h.lr (hk h.lr (by decide)), own_same h.rr (hk h.rr (by decide)), h.bel.setCell (p := ⟨w0.heap.size, j, none⟩) (Nat.le_refl _) _⟩
  have := set_atC (j := j) h.vb u
  rw [he] at this
  exact this
theorem EV.growH {w0 W W' : World} {p : Vp} {v : Vw} {vh vh' vl vr : Value} {H H' : List Cl} {L : List Lq} {R : List Int} (h : EV w0 W p v vh H vl L vr R) (hg : W.grownBy W' vh.ownBlock) (ho : W'.ownsRow w0.heap.size 59 4 vh' H'.length (cl4 H')) : EV w0 W' p v vh' H' vl L vr R := by
  have hk : ∀ k, k < W.heap.size → vh.ownBlock ≠ some k → W'.heap[k]? = W.heap[k]? := fun k hk hn => hg.block k hk (fun e => hn e.symm)
  exact ⟨(hk _ h.lt (own_ty h.hr h.vb (by decide))).trans h.vb, ho, own_same h.lr (fun k hk' => hk k (h.lr.lt k hk').2 (own_ne h.lr h.hr (by decide) k hk')), own_same h.rr (fun k hk' => hk k (h.rr.lt k hk').2 (own_ne h.rr h.hr (by decide) k hk')), h.bel.trans (grown_low hg (fun g hg' => (h.hr.lt g hg').1) h.bel.size)⟩
theorem EV.growL {w0 W W' : World} {p : Vp} {v : Vw} {vh vl vl' vr : Value} {H : List Cl} {L L' : List Lq} {R : List Int} (h : EV w0 W p v vh H vl L vr R) (hg : W.grownBy W' vl.ownBlock) (ho : W'.ownsRow w0.heap.size 61 3 vl' L'.length (lq3 L')) : EV w0 W' p v vh H vl' L' vr R := by
  have hk : ∀ k, k < W.heap.size → vl.ownBlock ≠ some k → W'.heap[k]? = W.heap[k]? := fun k hk hn => hg.block k hk (fun e => hn e.symm)
  exact ⟨(hk _ h.lt (own_ty h.lr h.vb (by decide))).trans h.vb, own_same h.hr (fun k hk' => hk k (h.hr.lt k hk').2 (own_ne h.hr h.lr (by decide) k hk')), ho, own_same h.rr (fun k hk' => hk k (h.rr.lt k hk').2 (own_ne h.rr h.lr (by decide) k hk')), h.bel.trans (grown_low hg (fun g hg' => (h.lr.lt g hg').1) h.bel.size)⟩
theorem EV.growR {w0 W W' : World} {p : Vp} {v : Vw} {vh vl vr vr' : Value} {H : List Cl} {L : List Lq} {R R' : List Int} (h : EV w0 W p v vh H vl L vr R) (hg : W.grownBy W' vr.ownBlock) (ho : W'.ownsRow w0.heap.size 57 1 vr' R'.length (R'.map (Value.int .u64))) : EV w0 W' p v vh H vl L vr' R' := by
  have hk : ∀ k, k < W.heap.size → vr.ownBlock ≠ some k → W'.heap[k]? = W.heap[k]? := fun k hk hn => hg.block k hk (fun e => hn e.symm)
  exact ⟨(hk _ h.lt (own_ty h.rr h.vb (by decide))).trans h.vb, own_same h.hr (fun k hk' => hk k (h.hr.lt k hk').2 (own_ne h.hr h.rr (by decide) k hk')), own_same h.lr (fun k hk' => hk k (h.lr.lt k hk').2 (own_ne h.lr h.rr (by decide) k hk')), ho, h.bel.trans (grown_low hg (fun g hg' => (h.rr.lt g hg').1) h.bel.size)⟩
theorem own_put {w : World} {base e size n cap g k : Nat} {xs : List Value} (h : w.ownsRow base e size (.slice (some ⟨g, 0, none⟩) n cap) n xs) (hk : k < xs.length) (u : Value) : (w.setCell ⟨g, k, none⟩ u).ownsRow base e size (.slice (some ⟨g, 0, none⟩) n cap) n (xs.set k u) := by
  obtain ⟨cs, h1, h2, h3, h4, h5, h6, h7⟩ := own_out h
  refine own_of (set_atC h1 u) (by simp [h2]) h3 h4 h5 (by simp [h6]) (fun j x hj => ?_)
  rw [List.getElem?_set] at hj
  have hkc : k < cs.size := (Array.getElem?_eq_some_iff.1 (h7 k _ (List.getElem?_eq_getElem hk))).1
  split at hj
  · rename_i e
    subst e
    cases hj
    rw [Array.getElem?_setIfInBounds_self_of_lt hkc]
  · rename_i e
    rw [Array.getElem?_setIfInBounds_ne e]
    exact h7 j x hj
theorem cl4_put : ∀ (l : List Cl) (j : Nat) (x : Cl) (c : Int), l[j]? = some x → cl4 (l.set j ⟨x.k, c, x.a, x.b⟩) = (cl4 l).set (j * 4 + 1) (.int .u8 c)
  | [], j, x, c, h => by simp at h
  | y :: r, 0, x, c, h => by
    have e : y = x := by simpa using h
    subst e
    rfl
  | y :: r, j + 1, x, c, h => by
    have := cl4_put r j x c (by simpa using h)
    have e : ∀ M : List Cl, cl4 (y :: M) = .int .u8 y.k :: .int .u8 y.c :: .int .u64 y.a :: .int .u64 y.b :: cl4 M := fun _ => rfl
    rw [List.set_cons_succ, e, e, this, show (j + 1) * 4 + 1 = j * 4 + 1 + 1 + 1 + 1 + 1 by omega, List.set_cons_succ, List.set_cons_succ, List.set_cons_succ, List.set_cons_succ]
theorem EV.turn {w0 W : World} {p : Vp} {v : Vw} {vl vr : Value} {g n cap j : Nat} {H : List Cl} {x : Cl} {L : List Lq} {R : List Int} (h : EV w0 W p v (.slice (some ⟨g, 0, none⟩) n cap) H vl L vr R) (hn : n = H.length) (hx : H[j]? = some x) (c : Int) : EV w0 (W.setCell ⟨g, j * 4 + 1, none⟩ (.int .u8 c)) p v (.slice (some ⟨g, 0, none⟩) n cap) (H.set j ⟨x.k, c, x.a, x.b⟩) vl L vr R := by
  subst hn
  have hj := (List.getElem?_eq_some_iff.1 hx).1
  have hg := (h.hr.lt g rfl).1
  have hk : ∀ k, k ≠ g → (W.setCell ⟨g, j * 4 + 1, none⟩ (.int .u8 c)).heap[k]? = W.heap[k]? := fun k hk => Below.heap_setCell _ _ _ _ hk
  refine ⟨(hk _ (fun e => own_ty h.hr h.vb (by decide) (by rw [e]; rfl))).trans h.vb, ?_, own_same h.lr (fun k hk' => hk k (fun e => own_ne h.lr h.hr (by decide) k hk' (by rw [e]; rfl))), own_same h.rr (fun k hk' => hk k (fun e => own_ne h.rr h.hr (by decide) k hk' (by rw [e]; rfl))), h.bel.setCell (p := ⟨g, j * 4 + 1, none⟩) hg _⟩
  have := own_put h.hr (k := j * 4 + 1) (by rw [cl4_len]; omega) (.int .u8 c)
  rw [← cl4_put H j x c hx] at this
  rw [List.length_set]
  exact this
theorem hr_own {W : World} {B n cap : Nat} {ra : Option Addr} {H : List Cl} (h : W.ownsRow B 59 4 (.slice ra n cap) H.length (cl4 H)) (hk : ∀ x ∈ H, OkK x) : HR W ra H := by
  rcases h.2 with ⟨h', h0⟩ | ⟨g, cap', cur, hv, _⟩
  · exact ⟨0, 0, .inl h0, fun j x hx => by have := (List.getElem?_eq_some_iff.1 hx).1; omega⟩
  · cases hv
    refine ⟨g, 0, .inr rfl, fun j x hx => ⟨(h.lt g rfl).2, ?_, hk x (List.mem_of_getElem? hx)⟩⟩
    obtain ⟨q0, q1, q2, q3⟩ := cl4_at H j x hx
    have e : ∀ (k : Nat) (u : Value), (cl4 H)[k]? = some u → W.cell? ⟨g, 0 + k, none⟩ = some u := fun k u hu => by rw [Nat.zero_add]; exact own_cell h hu
    exact ⟨e _ _ q0, e _ _ q1, e _ _ q2, e _ _ q3⟩
theorem wr_own {W : World} {B n cap : Nat} {ra : Option Addr} {l : List Int} (h : W.ownsRow B 57 1 (.slice ra n cap) l.length (l.map (Value.int .u64))) (hk : ∀ x ∈ l, Rng x) : WR W ra l := by
  rcases h.2 with ⟨h', h0⟩ | ⟨g, cap', cur, hv, _⟩
  · exact ⟨0, 0, .inl h0, fun j x hx => by have := (List.getElem?_eq_some_iff.1 hx).1; omega⟩
  · cases hv
    refine ⟨g, 0, .inr rfl, fun j x hx => ⟨(h.lt g rfl).2, ?_, hk x (List.mem_of_getElem? hx)⟩⟩
    rw [Nat.zero_add]
    exact own_cell h (by rw [List.getElem?_map, hx]; rfl)
theorem lr_own {W : World} {B n cap : Nat} {ra : Option Addr} {L : List Lq} (h : W.ownsRow B 61 3 (.slice ra n cap) L.length (lq3 L)) (hk : ∀ q ∈ L, WR W q.ra q.x.roots ∧ q.x.roots.length ≤ 281474976710656) : LR W ra (L.map Lq.x) := by
  rcases h.2 with ⟨h', h0⟩ | ⟨g, cap', cur, hv, _⟩
  · exact ⟨0, 0, .inl (by simpa using h0), fun j x hx => by have := (List.getElem?_eq_some_iff.1 hx).1; rw [List.length_map] at this; omega⟩
  · cases hv
    refine ⟨g, 0, .inr rfl, fun j x hx => ?_⟩
    rw [List.getElem?_map] at hx
    obtain ⟨q, hq, rfl⟩ := Option.map_eq_some_iff.1 hx
    obtain ⟨q0, q1, q2⟩ := lq3_at L j q hq
    have e : ∀ (k : Nat) (u : Value), (lq3 L)[k]? = some u → W.cell? ⟨g, 0 + k, none⟩ = some u := fun k u hu => by rw [Nat.zero_add]; exact own_cell h hu
    have hw := hk q (List.mem_of_getElem? hq)
    exact ⟨(h.lt g rfl).2, ⟨q.ra, q.cc, e _ _ q0, hw.1, hw.2⟩, e _ _ q1, e _ _ q2⟩
end Go.Proofs.YtphpkedfcmghmaaDoor
