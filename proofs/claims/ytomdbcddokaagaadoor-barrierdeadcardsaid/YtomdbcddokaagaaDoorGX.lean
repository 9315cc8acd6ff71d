/- BarrierKeeps: its world, its steps.; BarrierKeeps: how great a view is. -/
import Derived.Test.YtomdbcddokaagaaDoorHKLaw0
import Derived.Test.YtomdbcddokaagaaDoorHKLive
import Derived.Test.YtomdbcddokaagaaDoorHKOwn
/- BarrierKeeps: its world, its steps. -/
namespace Go.Proofs.YtomdbcddokaagaaDoor
open Go.RowKit

theorem wr_rng0 {W : World} {ra : Option Addr} {l : List Int} (h : WR W ra l) : ∀ x ∈ l, Rng x := fun x hx => by
  obtain ⟨_, _, _, h2⟩ := h
  obtain ⟨j, hj⟩ := List.getElem?_of_mem hx
  exact (h2 j x hj).2.2
/-- Nothing is known of truths. -/
def zT (w : World) : Wz := ⟨w, fun _ => True, fun _ h => h⟩
theorem own_kx {p : Vp} {v : Vw} {w w' : World} {e : Ending} (hV : VL w p v) (h : OwR w v e w') : ∃ (p' : Vp) (L : List Lq), e = .returned (.agg (p'.cells v)) ∧ KX (zT w) (w'.alloc (.cells (p'.cells v) 69)) w'.heap.size p' v L ∧ Below w.heap.size w w' := by
  obtain ⟨p', L, he, hc, hy, hg, hl, hq, hag, haq, hm, hb⟩ := h
  refine ⟨p', L, he, ⟨heap_alloc_new _ _, hb.size, hc.alloc _, hy.alloc _, hg.alloc _, hl.alloc _, fun q h => (hq q h).alloc _, hag, haq, hm, hr_ok hV.h, wr_rng0 hV.g, fun q h => ?_, hb.alloc hb.size _, trivial⟩, hb⟩
  have hx : q.x ∈ v.lanes := by rw [← hm]; exact List.mem_map_of_mem h
  obtain ⟨j, hj⟩ := List.getElem?_of_mem hx
  obtain ⟨_, _, _, hcs⟩ := hV.l
  obtain ⟨_, ⟨_, _, _, hw, _⟩, _⟩ := hcs j q.x hj
  exact wr_rng0 hw
/-- A step as it comes in. -/
structure Sq where
  k : Int
  w : Int
  a : Int
  b : Int
  c : Int
/-- A row of steps that is read. -/
def SR (w : World) (ra : Option Addr) (l : List Sq) : Prop := ∃ b o, (l.length = 0 ∨ ra = some ⟨b, o, none⟩) ∧ ∀ (j : Nat) (x : Sq), l[j]? = some x → b < w.heap.size ∧ w.cell? ⟨b, o + j * 5, none⟩ = some (.int .i64 x.k) ∧ w.cell? ⟨b, o + j * 5 + 1, none⟩ = some (.int .i64 x.w) ∧ w.cell? ⟨b, o + j * 5 + 2, none⟩ = some (.int .i64 x.a) ∧ w.cell? ⟨b, o + j * 5 + 3, none⟩ = some (.int .i64 x.b) ∧ w.cell? ⟨b, o + j * 5 + 4, none⟩ = some (.int .i64 x.c) ∧ Sml x.k ∧ Sml x.w ∧ Sml x.a ∧ Sml x.b ∧ Sml x.c
theorem SR.below {w w' : World} {ra : Option Addr} {l : List Sq} (h : SR w ra l) (hb : Below w.heap.size w w') : SR w' ra l := by
  obtain ⟨b, o, h1, h2⟩ := h
  refine ⟨b, o, h1, fun j x hx => ?_⟩
  obtain ⟨g, c0, c1, c2, c3, c4, r⟩ := h2 j x hx
  have cc : ∀ {q : Nat} {u : Value}, w.cell? ⟨b, q, none⟩ = some u → w'.cell? ⟨b, q, none⟩ = some u := fun {q u} h => (World.cell?_of_block (a := ⟨b, q, none⟩) (hb.block b g)).trans h
  exact ⟨Nat.lt_of_lt_of_le g hb.size, cc c0, cc c1, cc c2, cc c3, cc c4, r⟩
/-- Nothing is a source. -/
theorem no_src {v : Vw} (h1 : v.laid = (v.gl.length : Int)) (h2 : ∀ t ∈ v.lanes, t.sc = true) (h3 : ∀ (c : Nat) (x : Cl), v.h[c]? = some x → usedB x = true → x.c ≠ 1) {y : Hd} (hy : y ∈ holdersM v) : colM v y ≠ 1 := by
  rcases holder_or hy with ⟨c, x, hx, hu, rfl⟩ | ⟨i, g, hi, rfl⟩ | ⟨i, l, hl, rfl⟩
  · unfold colM
    rw [if_pos rfl]
    dsimp only
    rw [hx]
    exact h3 c x hx hu
  · rw [col_glob]
    have := (List.getElem?_eq_some_iff.1 hi).1
    rw [if_neg (by omega)]
    decide
  · rw [col_lane hl, h2 l (List.mem_of_getElem? hl)]
    decide
theorem by_none {v : Vw} (h : ∀ y ∈ holdersM v, colM v y ≠ 1) (k : Nat) : byM v k = false := by
  refine walk_none (fun j => ?_) k
  unfold namedM
  rw [List.any_eq_false]
  intro x hx
  have := h x hx
  simp [this]
/-- What holds when the collector has come to its end: no cell that is reached is white or grey. -/
theorem ends_black {v : Vw} {G : List Nat} (hF : Fm v G) (hg : Good v) (h1 : v.laid = (v.gl.length : Int)) (h2 : ∀ t ∈ v.lanes, t.sc = true) (h3 : v.grey = []) {c : Nat} {y : Cl} (hc : (orderM v.h (rootsV v)).contains c = true) (hy : v.h[c]? = some y) (hk : y.k ≠ 0) : y.c = 2 := by
  have hG : G = [] := by
    have := hF.gy.e
    rw [h3] at this
    cases G with
    | nil => rfl
    | cons a b => cases this
  have ng : ∀ (c : Nat) (x : Cl), v.h[c]? = some x → usedB x = true → x.c ≠ 1 := fun c x hx hu e => by
    have := (hF.gy.m c).2 (by unfold gr0; rw [hx]; show greyB x = true; unfold greyB; rw [hu]; simp [e])
    rw [hG] at this
    cases this
  have c0 := hg.c0 y (List.mem_of_getElem? hy)
  have c2 := (hF.hd y (List.mem_of_getElem? hy)).2
  have hu : usedB y = true := by unfold usedB; simpa using hk
  have n1 := ng c y hy hu
  have n0 : y.c ≠ 0 := fun e => by
    have hl := loss_of_jr hg.jr (fun x hx => by have := (hF.hd x hx).2; have := hg.c0 x hx; omega)
    have hw : whiteB y = true := by unfold whiteB; rw [hu]; simp [e]
    have h4 := loss_not v.h 0 c y hl hy
    rw [Nat.zero_add] at h4
    unfold lossB at h4
    rw [hw, ends_live (by simpa using hc) hy hk, by_none (fun y hy => no_src h1 h2 ng hy) c] at h4
    simp at h4
  omega
end Go.Proofs.YtomdbcddokaagaaDoor

/- BarrierKeeps: how great a view is. -/
namespace Go.Proofs.YtomdbcddokaagaaDoor
open Go.RowKit

theorem ofLn_eq : ∀ (l : List Ln) (n : Nat), ofLn l n ≤ 20000 → ofLn l n = n + (l.map Ln.roots).flatten.length
  | [], n, _ => by simp [ofLn]
  | x :: r, n, h => by
    unfold ofLn at h ⊢
    split at h
    · rename_i hn
      rw [if_pos hn]
      rw [ofLn_eq r _ h]
      simp
      omega
    · rename_i hn
      omega
theorem bn_of {v : Vw} (h : ofV v ≤ 1000) (hc : v.h.length ≤ 60) (hl : v.lanes.length ≤ 8) : Bn v 1000 := by
  have h1 : ofLn v.lanes (v.h.length + v.grey.length + v.gl.length + v.lanes.length) ≤ 1000 := h
  have h2 := ofLn_eq v.lanes _ (Nat.le_trans h1 (by omega))
  refine ⟨hc, by omega, hl, fun t ht => ?_⟩
  have := len_flat ht
  omega
/-- How far the globals are from being laid. -/
def mea (wb : Nat) (w : World) : Nat := match w.cell? ⟨wb, 4, none⟩, w.cell? ⟨wb, 5, none⟩ with
  | some (.slice _ n _), some (.int _ l) => ((n : Int) - l).toNat
  | _, _ => 0
theorem mea_kx {w0 : Wz} {W : World} {wb : Nat} {p : Vp} {v : Vw} {L : List Lq} (X : KX w0 W wb p v L) : mea wb W = ((v.gl.length : Int) - v.laid).toNat := by
  have h4 : W.cell? ⟨wb, 4, none⟩ = some (.slice p.gr v.gl.length p.gc) := heap_cell X.b rfl
  have h5 : W.cell? ⟨wb, 5, none⟩ = some (.int .i64 v.laid) := heap_cell X.b rfl
  unfold mea
  rw [h4, h5]
/-- How the world stands between two steps. -/
def Kst (w1 : Wz) (wr : World) (wb : Nat) (R : Vw → Prop) (N : Nat) : Prop := ∃ (p : Vp) (v : Vw) (L : List Lq), KX w1 wr wb p v L ∧ Tab wr ∧ Good v ∧ Bn v N ∧ R v
end Go.Proofs.YtomdbcddokaagaaDoor
