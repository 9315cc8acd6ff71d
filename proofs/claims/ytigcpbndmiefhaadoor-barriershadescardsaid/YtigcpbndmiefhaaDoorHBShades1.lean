/- What BarrierShades keeps: one colour is turned; the lists in their order. -/
import Derived.Test.YtigcpbndmiefhaaDoorHBShadesM
import Derived.Test.YtigcpbndmiefhaaDoorHBRefStore
namespace Go.Proofs.YtigcpbndmiefhaaDoor
open Go.RowKit

theorem own_base {W : World} {base base' e size n : Nat} {v : Value} {xs : List Value} (h : W.ownsRow base e size v n xs) (hb : base' ≤ base) : W.ownsRow base' e size v n xs := by
  refine ⟨h.1, ?_⟩
  rcases h.2 with h' | ⟨g, cap, cur, hv, hg, r⟩
  · exact .inl h'
  · exact .inr ⟨g, cap, cur, hv, Nat.le_trans hb hg, r⟩
theorem own_set {w : World} {base e size n cap g k : Nat} {xs : List Value} (h : w.ownsRow base e size (.slice (some ⟨g, 0, none⟩) n cap) n xs) (hk : k < xs.length) (u : Value) : (w.setCell ⟨g, k, none⟩ u).ownsRow base e size (.slice (some ⟨g, 0, none⟩) n cap) n (xs.set k u) := by
  obtain ⟨cs, h1, h2, h3, h4, h5, h6, h7⟩ := own_out h
  refine own_of (set_atC h1 u) (by simp [h2]) h3 h4 h5 (by simp [h6]) (fun j x hj => ?_)
  rw [List.getElem?_set] at hj
  have hkc : k < cs.size := (Array.getElem?_eq_some_iff.1 (h7 k _ (List.getElem?_eq_getElem hk))).1
  split at hj
  · rename_i e
    subst e
    cases hj
    rw [Array.getElem?_setIfInBounds_self_of_lt hkc]
  · rename_i e
    rw [Array.getElem?_setIfInBounds_ne e]
    exact h7 j x hj
theorem cl4_set : ∀ (l : List Cl) (j : Nat) (x : Cl) (c : Int), l[j]? = some x → cl4 (l.set j ⟨x.k, c, x.a, x.b⟩) = (cl4 l).set (j * 4 + 1) (.int .u8 c)
  | [], j, x, c, h => by simp at h
  | y :: r, 0, x, c, h => by
    have e : y = x := by simpa using h
    subst e
    rfl
  | y :: r, j + 1, x, c, h => by
    have := cl4_set r j x c (by simpa using h)
    have e : ∀ M : List Cl, cl4 (y :: M) = .int .u8 y.k :: .int .u8 y.c :: .int .u64 y.a :: .int .u64 y.b :: cl4 M := fun _ => rfl
    rw [List.set_cons_succ, e, e, this, show (j + 1) * 4 + 1 = j * 4 + 1 + 1 + 1 + 1 + 1 by omega, List.set_cons_succ, List.set_cons_succ, List.set_cons_succ, List.set_cons_succ]
theorem SX.turn {w0 W : World} {g bk Ni j : Nat} {H : List Cl} {vi : Value} {Vi : Nat → Value} {x : Cl} (h : SX w0 W g bk H vi Ni Vi) (hx : H[j]? = some x) (c : Int) (hc : 0 ≤ c ∧ c ≤ 255) : SX w0 (W.setCell ⟨g, j * 4 + 1, none⟩ (.int .u8 c)) g bk (H.set j ⟨x.k, c, x.a, x.b⟩) vi Ni Vi := by
  have hj := (List.getElem?_eq_some_iff.1 hx).1
  obtain ⟨cs, h1, hg, _⟩ := lent_at h.lent
  refine ⟨?_, h.book.kept (fun k hk => Below.heap_setCell _ _ _ _ (fun e => h.far (by rw [← show k = g from e]; exact hk))), h.low, h.bel.setCell (p := ⟨g, j * 4 + 1, none⟩) hg _, fun y hy => ?_⟩
  · have := own_set h.lent (k := j * 4 + 1) (by rw [List.length_append, cl4_len]; omega) (.int .u8 c)
    rw [List.set_append_left _ _ (by rw [cl4_len]; omega), ← cl4_set H j x c hx] at this
    unfold LentW
    rw [List.length_set]
    exact this
  · rcases List.mem_or_eq_of_mem_set hy with hy | rfl
    · exact h.ok y hy
    · have := h.ok x (List.mem_of_getElem? hx)
      exact ⟨this.k, hc, this.a, this.b⟩
/-- A list that is told, and where it lies. -/
def Tol (w0 W0 W : World) (v : Value) (l : List Int) : Prop := (∃ ra ca, v = .slice ra l.length ca ∧ RX (Value.int .i64) W ra l) ∧ W.ownsRow W0.heap.size 3 1 v l.length (l.map (Value.int .i64)) ∧ w0.heap.size ≤ W0.heap.size
theorem tol_of {w0 w w' : World} {l : List Int} {e : Ending} (h : OutI l e w w') (hb : w0.heap.size ≤ w.heap.size) : ∃ ra ca, e = .returned (.slice ra l.length ca) ∧ Tol w0 w w' (.slice ra l.length ca) l ∧ Below w.heap.size w w' := by
  obtain ⟨⟨v', rfl, ho⟩, hbb⟩ := h
  obtain ⟨ra, ca, rfl⟩ := own_sl ho
  exact ⟨ra, ca, rfl, ⟨⟨ra, ca, rfl, own_rx ho rfl⟩, ho, hb⟩, hbb⟩
theorem Tol.below {w0 W0 W W' : World} {v : Value} {l : List Int} (h : Tol w0 W0 W v l) (hb : Below W.heap.size W W') : Tol w0 W0 W' v l := by
  obtain ⟨⟨ra, ca, h1, h2⟩, h3, h4⟩ := h
  exact ⟨⟨ra, ca, h1, h2.below hb⟩, own_same h3 (fun k hk => hb.block k (h3.lt k hk).2), h4⟩
theorem Tol.rx {w0 W0 W : World} {ra : Option Addr} {n ca : Nat} {l : List Int} (h : Tol w0 W0 W (.slice ra n ca) l) : RX (Value.int .i64) W ra l := by
  obtain ⟨⟨ra', ca', h1, h2⟩, _⟩ := h
  cases h1
  exact h2
end Go.Proofs.YtigcpbndmiefhaaDoor
