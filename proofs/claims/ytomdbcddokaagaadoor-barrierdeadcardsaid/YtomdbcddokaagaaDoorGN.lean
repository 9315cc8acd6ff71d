/- BarrierEnds: the view that is stilled, where it lies.; BarrierEnds.; pick.; value.; A world of one's own: how it lies. -/
import Derived.Test.YtomdbcddokaagaaDoorGK
import Derived.Test.YtomdbcddokaagaaDoorGL
import Derived.Test.YtomdbcddokaagaaDoorGM
import Derived.Deep.RegionLaw
/- BarrierEnds: the view that is stilled, where it lies. -/
namespace Go.Proofs.YtomdbcddokaagaaDoor
open Go.RowKit

/-- A lane, and where its roots lie. -/
structure Lq where
  ra : Option Addr
  cc : Nat
  x : Ln
def lq3 (l : List Lq) : List Value := l.flatMap (fun q => [.slice q.ra q.x.roots.length q.cc, .bool q.x.sc, .bool q.x.en])
theorem lq3_at : ∀ (l : List Lq) (j : Nat) (q : Lq), l[j]? = some q → (lq3 l)[j * 3]? = some (.slice q.ra q.x.roots.length q.cc) ∧ (lq3 l)[j * 3 + 1]? = some (.bool q.x.sc) ∧ (lq3 l)[j * 3 + 1 + 1]? = some (.bool q.x.en)
  | [], j, x, h => by simp at h
  | y :: r, 0, x, h => by
    have e : y = x := by simpa using h
    subst e
    exact ⟨rfl, rfl, rfl⟩
  | y :: r, j + 1, x, h => by
    have := lq3_at r j x (by simpa using h)
    have e : lq3 (y :: r) = .slice y.ra y.x.roots.length y.cc :: .bool y.x.sc :: .bool y.x.en :: lq3 r := rfl
    rw [e, show (j + 1) * 3 = j * 3 + 1 + 1 + 1 by omega]
    simpa using this
theorem lq3_app (a b : List Lq) : lq3 (a ++ b) = lq3 a ++ lq3 b := by unfold lq3; rw [List.flatMap_append]
structure EV (w0 W : World) (p : Vp) (v : Vw) (vh : Value) (H : List Cl) (vl : Value) (L : List Lq) (vr : Value) (R : List Int) : Prop where
  vb : VB W w0.heap.size p v
  hr : W.ownsRow w0.heap.size 59 4 vh H.length (cl4 H)
  lr : W.ownsRow w0.heap.size 61 3 vl L.length (lq3 L)
  rr : W.ownsRow w0.heap.size 57 1 vr R.length (R.map (Value.int .u64))
  bel : Below w0.heap.size w0 W
theorem own_ty {w : World} {base e size n k : Nat} {v : Value} {xs : List Value} {cs : Array Value} {t : TypeId} (h : w.ownsRow base e size v n xs) (hk : w.heap[k]? = some (.cells cs t (0, 0))) (hn : t ≠ e) : v.ownBlock ≠ some k := fun hg => by
  obtain ⟨ds, hd⟩ := own_blk h hg
  exact ty_ne hk hd hn rfl
theorem EV.below {w0 W W' : World} {p : Vp} {v : Vw} {vh vl vr : Value} {H : List Cl} {L : List Lq} {R : List Int} (h : EV w0 W p v vh H vl L vr R) (hb : Below W.heap.size W W') : EV w0 W' p v vh H vl L vr R :=
  ⟨h.vb.kc (kc_below (Nat.le_refl _) hb), own_same h.hr (fun k hk => hb.block k (h.hr.lt k hk).2), own_same h.lr (fun k hk => hb.block k (h.lr.lt k hk).2), own_same h.rr (fun k hk => hb.block k (h.rr.lt k hk).2), h.bel.trans (hb.mono h.bel.size)⟩
theorem EV.lt {w0 W : World} {p : Vp} {v : Vw} {vh vl vr : Value} {H : List Cl} {L : List Lq} {R : List Int} (h : EV w0 W p v vh H vl L vr R) : w0.heap.size < W.heap.size := (Array.getElem?_eq_some_iff.1 h.vb).1
theorem EV.field {w0 W : World} {p p' : Vp} {v v' : Vw} {vh vl vr : Value} {H : List Cl} {L : List Lq} {R : List Int} (h : EV w0 W p v vh H vl L vr R) (j : Nat) (u : Value) (he : (p.cells v).setIfInBounds j u = p'.cells v') : EV w0 (W.setCell ⟨w0.heap.size, j, none⟩ u) p' v' vh H vl L vr R := by
  have hk : ∀ {e size n : Nat} {x : Value} {xs : List Value}, W.ownsRow w0.heap.size e size x n xs → 28 ≠ e → ∀ k, x.ownBlock = some k → (W.setCell ⟨w0.heap.size, j, none⟩ u).heap[k]? = W.heap[k]? := fun ho hn k hk => Below.heap_setCell _ _ _ _ (fun e => own_ty ho h.vb hn (by rw [← show k = w0.heap.size from e]; exact hk))
  refine ⟨?_, own_same h.hr (hk h.hr (by decide)), own_same h.lr (hk h.lr (by decide)), own_same h.rr (hk h.rr (by decide)), h.bel.setCell (p := ⟨w0.heap.size, j, none⟩) (Nat.le_refl _) _⟩
  have := set_atC (j := j) h.vb u
  rw [he] at this
  exact this
theorem EV.growH {w0 W W' : World} {p : Vp} {v : Vw} {vh vh' vl vr : Value} {H H' : List Cl} {L : List Lq} {R : List Int} (h : EV w0 W p v vh H vl L vr R) (hg : W.grownBy W' vh.ownBlock) (ho : W'.ownsRow w0.heap.size 59 4 vh' H'.length (cl4 H')) : EV w0 W' p v vh' H' vl L vr R := by
  have hk : ∀ k, k < W.heap.size → vh.ownBlock ≠ some k → W'.heap[k]? = W.heap[k]? := fun k hk hn => hg.block k hk (fun e => hn e.symm)
  exact ⟨(hk _ h.lt (own_ty h.hr h.vb (by decide))).trans h.vb, ho, own_same h.lr (fun k hk' => hk k (h.lr.lt k hk').2 (own_ne h.lr h.hr (by decide) k hk')), own_same h.rr (fun k hk' => hk k (h.rr.lt k hk').2 (own_ne h.rr h.hr (by decide) k hk')), h.bel.trans (grown_low hg (fun g hg' => (h.hr.lt g hg').1) h.bel.size)⟩
theorem EV.growL {w0 W W' : World} {p : Vp} {v : Vw} {vh vl vl' vr : Value} {H : List Cl} {L L' : List Lq} {R : List Int} (h : EV w0 W p v vh H vl L vr R) (hg : W.grownBy W' vl.ownBlock) (ho : W'.ownsRow w0.heap.size 61 3 vl' L'.length (lq3 L')) : EV w0 W' p v vh H vl' L' vr R := by
  have hk : ∀ k, k < W.heap.size → vl.ownBlock ≠ some k → W'.heap[k]? = W.heap[k]? := fun k hk hn => hg.block k hk (fun e => hn e.symm)
  exact ⟨(hk _ h.lt (own_ty h.lr h.vb (by decide))).trans h.vb, own_same h.hr (fun k hk' => hk k (h.hr.lt k hk').2 (own_ne h.hr h.lr (by decide) k hk')), ho, own_same h.rr (fun k hk' => hk k (h.rr.lt k hk').2 (own_ne h.rr h.lr (by decide) k hk')), h.bel.trans (grown_low hg (fun g hg' => (h.lr.lt g hg').1) h.bel.size)⟩
theorem EV.growR {w0 W W' : World} {p : Vp} {v : Vw} {vh vl vr vr' : Value} {H : List Cl} {L : List Lq} {R R' : List Int} (h : EV w0 W p v vh H vl L vr R) (hg : W.grownBy W' vr.ownBlock) (ho : W'.ownsRow w0.heap.size 57 1 vr' R'.length (R'.map (Value.int .u64))) : EV w0 W' p v vh H vl L vr' R' := by
  have hk : ∀ k, k < W.heap.size → vr.ownBlock ≠ some k → W'.heap[k]? = W.heap[k]? := fun k hk hn => hg.block k hk (fun e => hn e.symm)
  exact ⟨(hk _ h.lt (own_ty h.rr h.vb (by decide))).trans h.vb, own_same h.hr (fun k hk' => hk k (h.hr.lt k hk').2 (own_ne h.hr h.rr (by decide) k hk')), own_same h.lr (fun k hk' => hk k (h.lr.lt k hk').2 (own_ne h.lr h.rr (by decide) k hk')), ho, h.bel.trans (grown_low hg (fun g hg' => (h.rr.lt g hg').1) h.bel.size)⟩
theorem own_put {w : World} {base e size n cap g k : Nat} {xs : List Value} (h : w.ownsRow base e size (.slice (some ⟨g, 0, none⟩) n cap) n xs) (hk : k < xs.length) (u : Value) : (w.setCell ⟨g, k, none⟩ u).ownsRow base e size (.slice (some ⟨g, 0, none⟩) n cap) n (xs.set k u) := by
  obtain ⟨cs, h1, h2, h3, h4, h5, h6, h7⟩ := own_out h
  refine own_of (set_atC h1 u) (by simp [h2]) h3 h4 h5 (by simp [h6]) (fun j x hj => ?_)
  rw [List.getElem?_set] at hj
  have hkc : k < cs.size := (Array.getElem?_eq_some_iff.1 (h7 k _ (List.getElem?_eq_getElem hk))).1
  split at hj
  · rename_i e
    subst e
    cases hj
    rw [Array.getElem?_setIfInBounds_self_of_lt hkc]
  · rename_i e
    rw [Array.getElem?_setIfInBounds_ne e]
    exact h7 j x hj
theorem cl4_put : ∀ (l : List Cl) (j : Nat) (x : Cl) (c : Int), l[j]? = some x → cl4 (l.set j ⟨x.k, c, x.a, x.b⟩) = (cl4 l).set (j * 4 + 1) (.int .u8 c)
  | [], j, x, c, h => by simp at h
  | y :: r, 0, x, c, h => by
    have e : y = x := by simpa using h
    subst e
    rfl
  | y :: r, j + 1, x, c, h => by
    have := cl4_put r j x c (by simpa using h)
    have e : ∀ M : List Cl, cl4 (y :: M) = .int .u8 y.k :: .int .u8 y.c :: .int .u64 y.a :: .int .u64 y.b :: cl4 M := fun _ => rfl
    rw [List.set_cons_succ, e, e, this, show (j + 1) * 4 + 1 = j * 4 + 1 + 1 + 1 + 1 + 1 by omega, List.set_cons_succ, List.set_cons_succ, List.set_cons_succ, List.set_cons_succ]
theorem EV.turn {w0 W : World} {p : Vp} {v : Vw} {vl vr : Value} {g n cap j : Nat} {H : List Cl} {x : Cl} {L : List Lq} {R : List Int} (h : EV w0 W p v (.slice (some ⟨g, 0, none⟩) n cap) H vl L vr R) (hn : n = H.length) (hx : H[j]? = some x) (c : Int) : EV w0 (W.setCell ⟨g, j * 4 + 1, none⟩ (.int .u8 c)) p v (.slice (some ⟨g, 0, none⟩) n cap) (H.set j ⟨x.k, c, x.a, x.b⟩) vl L vr R := by
  subst hn
  have hj := (List.getElem?_eq_some_iff.1 hx).1
  have hg := (h.hr.lt g rfl).1
  have hk : ∀ k, k ≠ g → (W.setCell ⟨g, j * 4 + 1, none⟩ (.int .u8 c)).heap[k]? = W.heap[k]? := fun k hk => Below.heap_setCell _ _ _ _ hk
  refine ⟨(hk _ (fun e => own_ty h.hr h.vb (by decide) (by rw [e]; rfl))).trans h.vb, ?_, own_same h.lr (fun k hk' => hk k (fun e => own_ne h.lr h.hr (by decide) k hk' (by rw [e]; rfl))), own_same h.rr (fun k hk' => hk k (fun e => own_ne h.rr h.hr (by decide) k hk' (by rw [e]; rfl))), h.bel.setCell (p := ⟨g, j * 4 + 1, none⟩) hg _⟩
  have := own_put h.hr (k := j * 4 + 1) (by rw [cl4_len]; omega) (.int .u8 c)
  rw [← cl4_put H j x c hx] at this
  rw [List.length_set]
  exact this
theorem hr_own {W : World} {B n cap : Nat} {ra : Option Addr} {H : List Cl} (h : W.ownsRow B 59 4 (.slice ra n cap) H.length (cl4 H)) (hk : ∀ x ∈ H, OkK x) : HR W ra H := by
  rcases h.2 with ⟨h', h0⟩ | ⟨g, cap', cur, hv, _⟩
  · exact ⟨0, 0, .inl h0, fun j x hx => by have := (List.getElem?_eq_some_iff.1 hx).1; omega⟩
  · cases hv
    refine ⟨g, 0, .inr rfl, fun j x hx => ⟨(h.lt g rfl).2, ?_, hk x (List.mem_of_getElem? hx)⟩⟩
    obtain ⟨q0, q1, q2, q3⟩ := cl4_at H j x hx
    have e : ∀ (k : Nat) (u : Value), (cl4 H)[k]? = some u → W.cell? ⟨g, 0 + k, none⟩ = some u := fun k u hu => by rw [Nat.zero_add]; exact own_cell h hu
    exact ⟨e _ _ q0, e _ _ q1, e _ _ q2, e _ _ q3⟩
theorem wr_own {W : World} {B n cap : Nat} {ra : Option Addr} {l : List Int} (h : W.ownsRow B 57 1 (.slice ra n cap) l.length (l.map (Value.int .u64))) (hk : ∀ x ∈ l, Rng x) : WR W ra l := by
  rcases h.2 with ⟨h', h0⟩ | ⟨g, cap', cur, hv, _⟩
  · exact ⟨0, 0, .inl h0, fun j x hx => by have := (List.getElem?_eq_some_iff.1 hx).1; omega⟩
  · cases hv
    refine ⟨g, 0, .inr rfl, fun j x hx => ⟨(h.lt g rfl).2, ?_, hk x (List.mem_of_getElem? hx)⟩⟩
    rw [Nat.zero_add]
    exact own_cell h (by rw [List.getElem?_map, hx]; rfl)
theorem lr_own {W : World} {B n cap : Nat} {ra : Option Addr} {L : List Lq} (h : W.ownsRow B 61 3 (.slice ra n cap) L.length (lq3 L)) (hk : ∀ q ∈ L, WR W q.ra q.x.roots ∧ q.x.roots.length ≤ 281474976710656) : LR W ra (L.map Lq.x) := by
  rcases h.2 with ⟨h', h0⟩ | ⟨g, cap', cur, hv, _⟩
  · exact ⟨0, 0, .inl (by simpa using h0), fun j x hx => by have := (List.getElem?_eq_some_iff.1 hx).1; rw [List.length_map] at this; omega⟩
  · cases hv
    refine ⟨g, 0, .inr rfl, fun j x hx => ?_⟩
    rw [List.getElem?_map] at hx
    obtain ⟨q, hq, rfl⟩ := Option.map_eq_some_iff.1 hx
    obtain ⟨q0, q1, q2⟩ := lq3_at L j q hq
    have e : ∀ (k : Nat) (u : Value), (lq3 L)[k]? = some u → W.cell? ⟨g, 0 + k, none⟩ = some u := fun k u hu => by rw [Nat.zero_add]; exact own_cell h hu
    have hw := hk q (List.mem_of_getElem? hq)
    exact ⟨(h.lt g rfl).2, ⟨q.ra, q.cc, e _ _ q0, hw.1, hw.2⟩, e _ _ q1, e _ _ q2⟩
end Go.Proofs.YtomdbcddokaagaaDoor

/- BarrierEnds. -/
namespace Go.Proofs.YtomdbcddokaagaaDoor
open Go.RowKit

theorem infoLn : (Tryd.prog.info? 61).map (fun i => (i.zero, i.size, i.bytes)) = some (some (.agg #[.slice none 0 0, .bool false, .bool false]), 3, 32) := by kernel_rfl
def rootsK (l : List Ln) (k : Nat) : List Int := ((l.take k).map Ln.roots).flatten
theorem rootsK_more {l : List Ln} {k : Nat} {x : Ln} (h : l[k]? = some x) : rootsK l (k + 1) = rootsK l k ++ x.roots := by
  unfold rootsK
  rw [List.take_add_one, h]
  simp
theorem rootsK_le (l : List Ln) (k : Nat) : (rootsK l k).length ≤ (l.map Ln.roots).flatten.length := by
  have : (l.map Ln.roots).flatten = rootsK l k ++ ((l.drop k).map Ln.roots).flatten := by
    unfold rootsK
    rw [← List.flatten_append, ← List.map_append, List.take_append_drop]
  rw [this, List.length_append]
  omega
theorem cl4_one (H : List Cl) : ∀ u ∈ cl4 H, u.oneCell' = true := by
  intro u hu
  obtain ⟨x, _, hx⟩ := List.mem_flatMap.1 hu
  simp only [List.mem_cons, List.not_mem_nil, or_false] at hx
  rcases hx with rfl | rfl | rfl | rfl <;> rfl
/-- What is appended of a heap that comes in. -/
theorem hr_news {W : World} {ra : Option Addr} {H : List Cl} (h : HR W ra H) : (ra = none → H.length = 0) ∧ ∀ ad, ra = some ad → ∀ j u, (cl4 H)[j]? = some u → W.cell? (ad.add j) = some u := by
  obtain ⟨b, o, hor, hcs⟩ := h
  refine ⟨fun e => ?_, fun ad had j u hu => ?_⟩
  · rcases hor with h' | h'
    · exact h'
    · rw [h'] at e; cases e
  · obtain ⟨i, x, hx, hq⟩ := cl4_get H j u hu
    have := hor.resolve_left (by have := (List.getElem?_eq_some_iff.1 hx).1; omega)
    rw [this] at had
    cases had
    rw [ad_add]
    obtain ⟨_, ⟨a0, a1, a2, a3⟩, _⟩ := hcs i x hx
    rcases hq with ⟨rfl, rfl⟩ | ⟨rfl, rfl⟩ | ⟨rfl, rfl⟩ | ⟨rfl, rfl⟩
    · exact a0
    · exact a1
    · exact a2
    · exact a3
theorem wr_news {W : World} {ra : Option Addr} {l : List Int} (h : WR W ra l) : (ra = none → l.length = 0) ∧ ∀ ad, ra = some ad → ∀ j u, (l.map (Value.int .u64))[j]? = some u → W.cell? (ad.add j) = some u := by
  obtain ⟨b, o, hor, hcs⟩ := h
  refine ⟨fun e => ?_, fun ad had j u hu => ?_⟩
  · rcases hor with h' | h'
    · exact h'
    · rw [h'] at e; cases e
  · rw [List.getElem?_map] at hu
    obtain ⟨x, hx, rfl⟩ := Option.map_eq_some_iff.1 hu
    obtain ⟨g1, g2, _⟩ := hcs j x hx
    have := hor.resolve_left (by have := (List.getElem?_eq_some_iff.1 hx).1; omega)
    rw [this] at had
    cases had
    rw [ad_add]
    exact g2
theorem words_one (l : List Int) : ∀ u ∈ l.map (Value.int .u64), u.oneCell' = true := fun u hu => by obtain ⟨x, _, rfl⟩ := List.mem_map.1 hu; rfl
theorem hr_ok {W : World} {ra : Option Addr} {H : List Cl} (h : HR W ra H) : ∀ x ∈ H, OkK x := fun x hx => by
  obtain ⟨_, _, _, h2⟩ := h
  obtain ⟨j, hj⟩ := List.getElem?_of_mem hx
  exact (h2 j x hj).2.2
theorem vb_fz {W : World} {b : Nat} {p : Vp} {v : Vw} (h : VB W b p v) (j : Nat) : W.frozen? ⟨b, j, none⟩ = false := by
  unfold VB at h
  simp [World.frozen?, h]
theorem own_fz {w : World} {base e size n cap g : Nat} {xs : List Value} (h : w.ownsRow base e size (.slice (some ⟨g, 0, none⟩) n cap) n xs) (j : Nat) : w.frozen? ⟨g, j, none⟩ = false := by
  obtain ⟨cs, h1, _⟩ := own_out h
  simp [World.frozen?, h1]
theorem wr_rng {W : World} {ra : Option Addr} {l : List Int} (h : WR W ra l) : ∀ x ∈ l, Rng x := fun x hx => by
  obtain ⟨_, _, _, h2⟩ := h
  obtain ⟨j, hj⟩ := List.getElem?_of_mem hx
  exact (h2 j x hj).2.2
theorem okh_of {v : Vw} (h : wordsOk v = true) (hk : ∀ x ∈ v.h, OkK x) : OkH v.h := fun x hx hk0 => by
  obtain ⟨j, hj⟩ := List.getElem?_of_mem hx
  have hf := used_fits h hj (by simp [usedB, hk0])
  have ho := hk x hx
  exact ⟨⟨hf.1, ho.a⟩, hf.2, ho.b⟩
/-- How the heap stands while greys are turned. -/
structure TH (n k : Nat) (H : List Cl) : Prop where
  len : H.length = n
  c : ∀ (j : Nat) x, j < k → H[j]? = some x → x.c ≠ 1
  ok : ∀ x ∈ H, OkK x
theorem TH.next {n k : Nat} {H : List Cl} (h : TH n k H) {x : Cl} (hx : H[k]? = some x) (hc : x.c ≠ 1) : TH n (k + 1) H := ⟨h.len, fun j y hj hy => by
  by_cases e : j = k
  · subst e; rw [hx] at hy; cases hy; exact hc
  · exact h.c j y (by omega) hy, h.ok⟩
theorem TH.turn {n k : Nat} {H : List Cl} (h : TH n k H) {x : Cl} (hx : H[k]? = some x) : TH n (k + 1) (H.set k ⟨x.k, 2, x.a, x.b⟩) := by
  refine ⟨by rw [List.length_set]; exact h.len, fun j y hj hy => ?_, fun y hy => ?_⟩
  · rw [List.getElem?_set] at hy
    split at hy
    · split at hy
      · cases hy; show (2 : Int) ≠ 1; decide
      · cases hy
    · exact h.c j y (by omega) hy
  · rcases List.mem_or_eq_of_mem_set hy with hy | rfl
    · exact h.ok y hy
    · have := h.ok x (List.mem_of_getElem? hx)
      exact ⟨this.k, ⟨by show (0 : Int) ≤ 2; decide, by show (2 : Int) ≤ 255; decide⟩, this.a, this.b⟩
/-- How the lanes stand while they are copied. -/
structure TL (w0 : World) (v : Vw) (k : Nat) (L : List Lq) : Prop where
  len : L.length = k
  ok : ∀ q ∈ L, q.x.sc = true ∧ WR w0 q.ra q.x.roots ∧ q.x.roots.length ≤ 281474976710656
  ro : (L.map Lq.x).map Ln.roots = (v.lanes.take k).map Ln.roots
theorem TL.next {w0 : World} {v : Vw} {k : Nat} {L : List Lq} (h : TL w0 v k L) {x : Ln} (hx : v.lanes[k]? = some x) {ra : Option Addr} (cc : Nat) (hw : WR w0 ra x.roots) (hl : x.roots.length ≤ 281474976710656) : TL w0 v (k + 1) (L ++ [⟨ra, cc, ⟨x.roots, true, x.en⟩⟩]) := by
  refine ⟨by rw [List.length_append, h.len]; rfl, fun q hq => ?_, ?_⟩
  · rcases List.mem_append.1 hq with hq | hq
    · exact h.ok q hq
    · rw [List.mem_singleton.1 hq]; exact ⟨rfl, hw, hl⟩
  · rw [List.take_add_one, hx, List.map_append, List.map_append, h.ro]
    simp
theorem ho_all {v : Vw} (hm : mayV v = true) : ∃ (is : Bool) (at' : Int), hoE v = .tuple #[.bool is, .int .i64 at', .int .i64 0] ∧ (onB v.ph = false → is = true ∧ at' = 0) ∧ (onB v.ph = true → (is = true ∧ lossM v = none) ∨ (is = false ∧ ∃ (c : Nat) (x : Cl), at' = (c : Int) ∧ v.h[c]? = some x ∧ whiteB x = true)) := by
  unfold hoE hoM
  rw [hm]
  cases hon : onB v.ph with
  | false => exact ⟨true, 0, rfl, fun _ => ⟨rfl, rfl⟩, fun h => by cases h⟩
  | true =>
    cases hl : lossM v with
    | none => exact ⟨true, 0, rfl, (fun h => by cases h), fun _ => .inl ⟨rfl, rfl⟩⟩
    | some c =>
      obtain ⟨x, _, hx, hw⟩ := loss_white v.h 0 c hl
      exact ⟨false, c, rfl, (fun h => by cases h), fun _ => .inr ⟨rfl, c, x, rfl, by simpa using hx, hw⟩⟩
theorem ho_not {v : Vw} (hm : mayV v = false) : hoE v = .tuple #[.bool false, .int .i64 0, .int .i64 130] := by
  unfold hoE hoM
  rw [hm]
  rfl
end Go.Proofs.YtomdbcddokaagaaDoor

/- pick. -/
namespace Go.Proofs.YtomdbcddokaagaaDoor
open Go.RowKit

/-- Which of n things the number c speaks of. -/
def pickN (c : Int) (n : Nat) : Nat := ((if c < 0 then -(c + 1) else c) % (n : Int)).toNat
theorem pick_lt {c : Int} {n : Nat} (h : 0 < n) : pickN c n < n := by
  unfold pickN
  have h1 := Int.emod_nonneg (if c < 0 then -(c + 1) else c) (show (n : Int) ≠ 0 by omega)
  have h2 := Int.emod_lt_of_pos (if c < 0 then -(c + 1) else c) (show (0 : Int) < n by omega)
  omega
set_option maxRecDepth 100000 in
set_option maxHeartbeats 4000000 in
theorem pick_any (c : Int) (n : Nat) (w : World) (hc : -9223372036854775808 ≤ c ∧ c ≤ 9223372036854775807) (hn : 0 < n) (hm : n ≤ 9223372036854775807) :
    Calls Tryd.prog 60 #[.int .i64 c, .int .i64 n] w fun e w' => e = .returned (.int .i64 (pickN c n)) ∧ w' = w := by
  have hp : ((pickN c n : Nat) : Int) = (if c < 0 then -(c + 1) else c) % (n : Int) := by
    unfold pickN
    have h1 := Int.emod_nonneg (if c < 0 then -(c + 1) else c) (show (n : Int) ≠ 0 by omega)
    omega
  rw [hp]
  have n0 : ¬ (n : Int) = 0 := by omega
  by_cases h : c < 0
  · rw [if_pos h]
    have hd : -((c + 1).tmod (n : Int)) = -(c + 1) % (n : Int) := by rw [← Int.neg_tmod]; exact Int.tmod_eq_emod_of_nonneg (by omega)
    have HD : Hid _ := hd
    clear hd hp
    go_enter Tryd.func60, Tryd.ntmps60
    go_wp2
    go_ret
    exact ⟨by rw [← HD.out]; rfl, rfl⟩
  · rw [if_neg h]
    have hd : c.tmod (n : Int) = c % (n : Int) := Int.tmod_eq_emod_of_nonneg (by omega)
    have HD : Hid _ := hd
    clear hd hp
    go_enter Tryd.func60, Tryd.ntmps60
    go_wp2
    go_ret
    exact ⟨by rw [← HD.out]; rfl, rfl⟩
end Go.Proofs.YtomdbcddokaagaaDoor

/- value. -/
namespace Go.Proofs.YtomdbcddokaagaaDoor
open Go.RowKit

/-- One of a lane's words, or the number 3. -/
def valM (r : List Int) (c : Int) : Int := match r[pickN c (r.length + 1)]? with | some x => x | none => 53
set_option maxRecDepth 100000 in
set_option maxHeartbeats 4000000 in
theorem value_any (r : List Int) (rr : Option Addr) (cc lb o : Nat) (c : Int) (w : World) (hl : w.cell? ⟨lb, o, none⟩ = some (.slice rr r.length cc)) (hlt : lb < w.heap.size) (hw : WR w rr r) (hr : r.length ≤ 1000000) (hc : -9223372036854775808 ≤ c ∧ c ≤ 9223372036854775807) :
    Calls Tryd.prog 61 #[.pointer (some ⟨lb, o, none⟩), .int .i64 c] w fun e w' => e = .returned (.int .u64 (valM r c)) ∧ w' = w := by
  have HP : Hid (∀ W, Calls Tryd.prog 60 #[.int .i64 c, .int .i64 ((r.length : Int) + 1)] W fun e w' => e = .returned (.int .i64 (pickN c (r.length + 1))) ∧ w' = W) := fun W => by
    have := pick_any c (r.length + 1) W hc (by omega) (by omega)
    rw [show ((r.length + 1 : Nat) : Int) = (r.length : Int) + 1 by omega] at this
    exact this
  have HI : Hid (∀ W, Calls Tryd.prog 18 #[.int .i64 3] W fun e w' => e = .returned (.int .u64 53) ∧ w' = W) := fun W => refInt_any 3 W
  have hk := pick_lt (c := c) (n := r.length + 1) (by omega)
  have HVl : Hid (valM r c = match r[pickN c (r.length + 1)]? with | some x => x | none => 53) := rfl
  have HW : Hid (WR w rr r) := hw
  generalize valM r c = vm at HVl ⊢
  generalize pickN c (r.length + 1) = k at HP HVl hk
  clear hw
  go_enter Tryd.func61, Tryd.ntmps61
  go_wp2_with fail
  refine Calls.mono (HP.out w) ?_
  rintro e w1 ⟨rfl, hw1⟩
  subst hw1
  by_cases hkl : k = r.length
  · have k1 : (k : Int) = (r.length : Int) := by omega
    have HVm : Hid (vm = 53) := by
      have h' := HVl.out
      rw [hkl, List.getElem?_eq_none (Nat.le_refl _)] at h'
      exact h'
    go_wp2_with fail
    refine Calls.mono (HI.out w1) ?_
    rintro e w2 ⟨rfl, hw2⟩
    subst hw2
    go_wp2
    go_ret
    exact ⟨by rw [HVm.out]; rfl, rfl⟩
  · have k1 : ¬ (k : Int) = (r.length : Int) := by omega
    have k2 : (k : Int) < (r.length : Int) := by omega
    obtain ⟨x, hx⟩ : ∃ x, r[k]? = some x := ⟨_, List.getElem?_eq_getElem (by omega)⟩
    have HVm : Hid (vm = x) := by
      have h' := HVl.out
      rw [hx] at h'
      exact h'
    obtain ⟨b, of, hor, hcs⟩ := HW.out
    obtain ⟨g1, g2, _⟩ := hcs k x hx
    have hrr : rr = some ⟨b, of, none⟩ := hor.resolve_left (by omega)
    subst hrr
    clear hcs hor hx
    go_wp2
    go_ret
    exact ⟨by rw [HVm.out]; rfl, rfl⟩
end Go.Proofs.YtomdbcddokaagaaDoor

/- A world of one's own: how it lies. -/
namespace Go.Proofs.YtomdbcddokaagaaDoor
open Go.RowKit

/-- The world ahead, and what is known of blocks of truths, whatever is done to other blocks. -/
structure Wz where
  w : World
  P : World → Prop
  st : ∀ {W W' : World}, (∀ (g : Nat) (cs : Array Value), W.heap[g]? = some (.cells cs 4 (0, 0)) → W'.heap[g]? = W.heap[g]?) → P W → P W'
abbrev Wz.heap (z : Wz) : Array Obj := z.w.heap
instance : Coe Wz World := ⟨Wz.w⟩
/-- The world in block wb: its view, its rows. -/
structure KX (w0 : Wz) (W : World) (wb : Nat) (p : Vp) (v : Vw) (L : List Lq) : Prop where
  b : W.heap[wb]? = some (.cells (p.cells v) 69 (0, 0))
  lb : w0.heap.size ≤ wb
  c : W.ownsRow w0.heap.size 59 4 (.slice p.cr v.h.length p.cc) v.h.length (cl4 v.h)
  y : W.ownsRow w0.heap.size 3 1 (.slice p.yr v.grey.length p.yc) v.grey.length (v.grey.map (Value.int .i64))
  g : W.ownsRow w0.heap.size 57 1 (.slice p.gr v.gl.length p.gc) v.gl.length (v.gl.map (Value.int .u64))
  l : W.ownsRow w0.heap.size 61 3 (.slice p.lr L.length p.lc) L.length (lq3 L)
  q : ∀ q ∈ L, W.ownsRow w0.heap.size 57 1 (.slice q.ra q.x.roots.length q.cc) q.x.roots.length (q.x.roots.map (Value.int .u64))
  ag : ∀ q ∈ L, ∀ k, (Value.slice p.gr v.gl.length p.gc).ownBlock = some k → (Value.slice q.ra q.x.roots.length q.cc).ownBlock ≠ some k
  aq : ∀ (i j : Nat) (q r : Lq), i ≠ j → L[i]? = some q → L[j]? = some r → ∀ k, (Value.slice q.ra q.x.roots.length q.cc).ownBlock = some k → (Value.slice r.ra r.x.roots.length r.cc).ownBlock ≠ some k
  e : L.map Lq.x = v.lanes
  ok : ∀ x ∈ v.h, OkK x
  rg : ∀ x ∈ v.gl, Rng x
  rl : ∀ q ∈ L, ∀ x ∈ q.x.roots, Rng x
  bel : Below w0.heap.size w0 W
  bz : w0.P W
variable {w0 : Wz} {W W' : World} {wb : Nat} {p p' : Vp} {v v' : Vw} {L : List Lq}
/-- Whatever keeps all blocks of cells. -/
theorem KX.keep (X : KX w0 W wb p v L) (hb : Below w0.heap.size w0 W') (hk : ∀ (k : Nat) (cs : Array Value) (t : TypeId), W.heap[k]? = some (.cells cs t (0, 0)) → W'.heap[k]? = W.heap[k]?) : KX w0 W' wb p v L := by
  have own : ∀ {e size n : Nat} {x : Value} {xs : List Value}, W.ownsRow w0.heap.size e size x n xs → W'.ownsRow w0.heap.size e size x n xs := fun h => own_same h (fun k hk' => by obtain ⟨cs, hc⟩ := own_blk h hk'; exact hk k cs _ hc)
  exact ⟨(hk _ _ _ X.b).trans X.b, X.lb, own X.c, own X.y, own X.g, own X.l, fun q hq => own (X.q q hq), X.ag, X.aq, X.e, X.ok, X.rg, X.rl, hb, w0.st (fun g cs h => hk g cs _ h) X.bz⟩
theorem KX.below (X : KX w0 W wb p v L) (hb : Below W.heap.size W W') : KX w0 W' wb p v L :=
  X.keep (X.bel.trans (hb.mono X.bel.size)) (fun k _ _ h => hb.block k (heap_lt h))
/-- A field of the world's own is another one. -/
theorem KX.field (X : KX w0 W wb p v L) (j : Nat) (u : Value) (he : (p.cells v).setIfInBounds j u = p'.cells v') (hc : W.ownsRow w0.heap.size 59 4 (.slice p'.cr v'.h.length p'.cc) v'.h.length (cl4 v'.h)) (hy : W.ownsRow w0.heap.size 3 1 (.slice p'.yr v'.grey.length p'.yc) v'.grey.length (v'.grey.map (Value.int .i64)))
    (hg : p'.gr = p.gr ∧ p'.gc = p.gc ∧ v'.gl = v.gl) (hl : p'.lr = p.lr ∧ p'.lc = p.lc ∧ v'.lanes = v.lanes) (hk : ∀ x ∈ v'.h, OkK x) : KX w0 (W.setCell ⟨wb, j, none⟩ u) wb p' v' L := by
  have kp : ∀ k, k ≠ wb → (W.setCell ⟨wb, j, none⟩ u).heap[k]? = W.heap[k]? := fun k hk => Below.heap_setCell _ _ _ _ hk
  have own : ∀ {e size n : Nat} {x : Value} {xs : List Value}, W.ownsRow w0.heap.size e size x n xs → 69 ≠ e → (W.setCell ⟨wb, j, none⟩ u).ownsRow w0.heap.size e size x n xs := fun h hn => own_same h (fun k hk' => kp k (fun e => own_ty h X.b hn (by rw [← e]; exact hk')))
  obtain ⟨g1, g2, g3⟩ := hg
  obtain ⟨l1, l2, l3⟩ := hl
  refine ⟨?_, X.lb, own hc (by decide), own hy (by decide), ?_, ?_, fun q hq => own (X.q q hq) (by decide), fun q hq => ?_, X.aq, X.e.trans l3.symm, hk, by rw [g3]; exact X.rg, X.rl, X.bel.setCell (p := ⟨wb, j, none⟩) X.lb _, w0.st (fun g cs h => kp g (ty_ne h X.b (by decide))) X.bz⟩
  · have := set_atC (j := j) X.b u
    rw [he] at this
    exact this
  · rw [g1, g2, g3]
    exact own X.g (by decide)
  · rw [l1, l2]
    exact own X.l (by decide)
  · rw [g1, g2, g3]
    exact X.ag q hq
/-- How it is read. -/
theorem KX.vl (X : KX w0 W wb p v L) (hs : v.h.length ≤ 281474976710656 ∧ v.grey.length ≤ 281474976710656 ∧ v.gl.length ≤ 281474976710656 ∧ v.lanes.length ≤ 281474976710656 ∧ ∀ q ∈ L, q.x.roots.length ≤ 281474976710656) : VL W p v := by
  refine ⟨hr_own X.c X.ok, hs.1, own_rx X.y rfl, hs.2.1, wr_own X.g X.rg, hs.2.2.1, ?_, hs.2.2.2.1⟩
  rw [← X.e]
  exact lr_own (n := L.length) X.l (fun q hq => ⟨wr_own (X.q q hq) (X.rl q hq), hs.2.2.2.2 q hq⟩)
end Go.Proofs.YtomdbcddokaagaaDoor
