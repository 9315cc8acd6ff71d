/- The chapter's examples. -/
import Derived.Test.YtomdbcddokaagaaDoorGI
import Derived.Deep.RegionWith
namespace Go.Proofs.YtomdbcddokaagaaDoor
open Go.RowKit

def cl4 (l : List Cl) : List Value := l.flatMap (fun x => [.int .u8 x.k, .int .u8 x.c, .int .u64 x.a, .int .u64 x.b])
theorem cl4_at : ∀ (l : List Cl) (j : Nat) (x : Cl), l[j]? = some x → (cl4 l)[j * 4]? = some (.int .u8 x.k) ∧ (cl4 l)[j * 4 + 1]? = some (.int .u8 x.c) ∧ (cl4 l)[j * 4 + 1 + 1]? = some (.int .u64 x.a) ∧ (cl4 l)[j * 4 + 1 + 1 + 1]? = some (.int .u64 x.b)
  | [], j, x, h => by simp at h
  | y :: r, 0, x, h => by
    have e : y = x := by simpa using h
    subst e
    exact ⟨rfl, rfl, rfl, rfl⟩
  | y :: r, j + 1, x, h => by
    have := cl4_at r j x (by simpa using h)
    have e : cl4 (y :: r) = .int .u8 y.k :: .int .u8 y.c :: .int .u64 y.a :: .int .u64 y.b :: cl4 r := rfl
    rw [e, show (j + 1) * 4 = j * 4 + 1 + 1 + 1 + 1 by omega]
    simpa using this
theorem hr_of {w : World} {g : Nat} {l : List Cl} (h : w.heap[g]? = some (.cells (cl4 l).toArray 59 (0, 0))) (hk : ∀ x ∈ l, OkK x) : HR w (some ⟨g, 0, none⟩) l := by
  refine ⟨g, 0, .inr rfl, fun j x hx => ⟨heap_lt h, ?_, hk x (List.mem_of_getElem? hx)⟩⟩
  obtain ⟨h0, h1, h2, h3⟩ := cl4_at l j x hx
  simp only [Nat.zero_add]
  exact ⟨heap_cell h (by simpa using h0), heap_cell h (by simpa using h1), heap_cell h (by simpa using h2), heap_cell h (by simpa using h3)⟩
theorem exOk : ∀ x ∈ exH, OkK x := by
  intro x hx
  simp only [exH, List.mem_cons, List.not_mem_nil, or_false] at hx
  rcases hx with rfl | rfl <;> exact ⟨by decide, by decide, by unfold Rng; decide, by unfold Rng; decide⟩
theorem exOkV : ∀ x ∈ exV.h, OkK x := by
  intro x hx
  simp only [exV, List.mem_cons, List.not_mem_nil, or_false] at hx
  rcases hx with rfl | rfl <;> exact ⟨by decide, by decide, by unfold Rng; decide, by unfold Rng; decide⟩
theorem exOkG : ∀ x ∈ exG.h, OkK x := by
  intro x hx
  simp only [exG, List.mem_cons, List.not_mem_nil, or_false] at hx
  rcases hx with rfl | rfl <;> exact ⟨by decide, by decide, by unfold Rng; decide, by unfold Rng; decide⟩
/-- A row of words that is new. -/
theorem wr_words {w : World} {g : Nat} {l : List Int} (h : w.heap[g]? = some (.cells (l.map (Value.int .u64)).toArray 57 (0, 0))) (hk : ∀ x ∈ l, Rng x) : WR w (some ⟨g, 0, none⟩) l :=
  ⟨g, 0, .inr rfl, fun j x hx => ⟨heap_lt h, by rw [Nat.zero_add]; exact heap_cell h (by simp [hx]), hk x (List.mem_of_getElem? hx)⟩⟩
theorem outI_rx {l : List Int} {e : Ending} {w w' : World} (h : OutI l e w w') : ∃ ra ca, e = .returned (.slice ra l.length ca) ∧ RX (Value.int .i64) w' ra l ∧ Below w.heap.size w w' := by
  obtain ⟨⟨v', rfl, ho⟩, hb⟩ := h
  obtain ⟨ra, ca, rfl⟩ := own_sl ho
  exact ⟨ra, ca, rfl, own_rx ho rfl, hb⟩
theorem ri_of {w : World} {g : Nat} {l : List Int} (h : w.heap[g]? = some (.cells (l.map (Value.int .i64)).toArray 3 (0, 0))) : RX (Value.int .i64) w (some ⟨g, 0, none⟩) l :=
  ⟨g, 0, .inr rfl, fun j x hx => ⟨heap_lt h, by rw [Nat.zero_add]; exact heap_cell h (by simp [hx])⟩⟩
theorem rb_of {w : World} {g : Nat} {l : List Bool} (h : w.heap[g]? = some (.cells (l.map Value.bool).toArray 4 (0, 0))) : RX Value.bool w (some ⟨g, 0, none⟩) l :=
  ⟨g, 0, .inr rfl, fun j x hx => ⟨heap_lt h, by rw [Nat.zero_add]; exact heap_cell h (by simp [hx])⟩⟩
/-- The three lists that Store and Fill tell are the ones. -/
def Told (w : World) (r1 r2 r3 : Option Addr) : Prop := RX (Value.int .i64) w r1 [0] ∧ RX (Value.int .i64) w r2 [0, 1] ∧ RX (Value.int .i64) w r3 [1, 0]
theorem Told.below {w w' : World} {r1 r2 r3 : Option Addr} (h : Told w r1 r2 r3) (hb : Below w.heap.size w w') : Told w' r1 r2 r3 := ⟨h.1.below hb, h.2.1.below hb, h.2.2.below hb⟩
theorem vl_mk {W : World} {gc gw gl : Nat} {cs : List Cl} {yr : Option Addr} {yc : Nat} {gy : List Int} (hc : W.heap[gc]? = some (.cells (cl4 cs).toArray 59 (0, 0))) (hk : ∀ x ∈ cs, OkK x) (hcl : cs.length ≤ 1000) (hw : W.heap[gw]? = some (.cells #[.int .u64 24, .int .u64 8] 57 (0, 0)))
    (hl : W.heap[gl]? = some (.cells #[.slice (some ⟨gw, 0, none⟩) 2 2, .bool false, .bool false] 61 (0, 0))) (hy : RX (Value.int .i64) W yr gy) (hyl : gy.length ≤ 1000) : VL W ⟨some ⟨gc, 0, none⟩, 2, yr, yc, none, 0, some ⟨gl, 0, none⟩, 1⟩ ⟨cs, 2, 0, gy, [], 0, [⟨[24, 8], false, false⟩]⟩ := by
  refine ⟨hr_of hc hk, by show cs.length ≤ _; omega, hy, by show gy.length ≤ _; omega, ⟨0, 0, .inl rfl, fun j x h => by simp at h⟩, Nat.zero_le _, ⟨gl, 0, .inr rfl, fun j x h => ?_⟩, by show 1 ≤ _; omega⟩
  have h0 : j = 0 := by
    have := (List.getElem?_eq_some_iff.1 h).1
    simp at this; omega
  subst h0
  have e : x = ⟨[24, 8], false, false⟩ := by simpa using h.symm
  subst e
  exact ⟨heap_lt hl, ⟨_, _, heap_cell hl rfl, wr_words (l := [24, 8]) hw (by intro x hx; simp at hx; rcases hx with rfl | rfl <;> (unfold Rng; decide)), by decide⟩, heap_cell hl rfl, heap_cell hl rfl⟩
/-- The example's view, in blocks of its own. -/
structure ES (W : World) (gc gw gl gv : Nat) : Prop where
  c : W.heap[gc]? = some (.cells #[.int .u8 1, .int .u8 0, .int .u64 21, .int .u64 5, .int .u8 1, .int .u8 2, .int .u64 8, .int .u64 5] 59 (0, 0))
  w : W.heap[gw]? = some (.cells #[.int .u64 24, .int .u64 8] 57 (0, 0))
  l : W.heap[gl]? = some (.cells #[.slice (some ⟨gw, 0, none⟩) 2 2, .bool false, .bool false] 61 (0, 0))
  v : W.heap[gv]? = some (.cells #[.slice (some ⟨gc, 0, none⟩) 2 2, .int .u8 2, .int .i64 0, .slice none 0 0, .slice none 0 0, .int .i64 0, .slice (some ⟨gl, 0, none⟩) 1 1] 28 (0, 0))
theorem ES.below {W W' : World} {gc gw gl gv : Nat} (h : ES W gc gw gl gv) (hb : Below W.heap.size W W') : ES W' gc gw gl gv :=
  ⟨(hb.block _ (heap_lt h.c)).trans h.c, (hb.block _ (heap_lt h.w)).trans h.w, (hb.block _ (heap_lt h.l)).trans h.l, (hb.block _ (heap_lt h.v)).trans h.v⟩
theorem ES.vl {W : World} {gc gw gl gv : Nat} (h : ES W gc gw gl gv) : VL W ⟨some ⟨gc, 0, none⟩, 2, none, 0, none, 0, some ⟨gl, 0, none⟩, 1⟩ exV :=
  vl_mk (cs := exV.h) h.c exOkV (by decide) h.w h.l ⟨0, 0, .inl rfl, fun j x h => by simp at h⟩ (by decide)
/-- What is read and written of it. -/
def ESr (gc gv : Nat) (W : World) : Prop := (W.cell? ⟨gv, 0, none⟩ = some (.slice (some ⟨gc, 0, none⟩) 2 2) ∧ (W.cell? ⟨gc, 4, none⟩ = some (.int .u8 1) ∧ W.cell? ⟨gc, 5, none⟩ = some (.int .u8 2) ∧ W.cell? ⟨gc, 6, none⟩ = some (.int .u64 8) ∧ W.cell? ⟨gc, 7, none⟩ = some (.int .u64 5)) ∧ (W.frozen? ⟨gc, 4, none⟩ = false ∧ W.frozen? ⟨gc, 5, none⟩ = false ∧ W.frozen? ⟨gc, 6, none⟩ = false ∧ W.frozen? ⟨gc, 7, none⟩ = false)) ∧ gv < W.heap.size ∧ gc < W.heap.size
theorem ES.reads {W : World} {gc gw gl gv : Nat} (h : ES W gc gw gl gv) : ESr gc gv W :=
  ⟨⟨heap_cell h.v rfl, ⟨heap_cell h.c rfl, heap_cell h.c rfl, heap_cell h.c rfl, heap_cell h.c rfl⟩, fz_of h.c 4, fz_of h.c 5, fz_of h.c 6, fz_of h.c 7⟩, heap_lt h.v, heap_lt h.c⟩
/-- .. and what stands behind the write. -/
structure EG (W : World) (gc gw gl gv : Nat) : Prop where
  c : W.heap[gc]? = some (.cells #[.int .u8 1, .int .u8 0, .int .u64 21, .int .u64 5, .int .u8 1, .int .u8 1, .int .u64 8, .int .u64 5] 59 (0, 0))
  w : W.heap[gw]? = some (.cells #[.int .u64 24, .int .u64 8] 57 (0, 0))
  l : W.heap[gl]? = some (.cells #[.slice (some ⟨gw, 0, none⟩) 2 2, .bool false, .bool false] 61 (0, 0))
  v : W.heap[gv]? = some (.cells #[.slice (some ⟨gc, 0, none⟩) 2 2, .int .u8 2, .int .i64 0, .slice none 0 0, .slice none 0 0, .int .i64 0, .slice (some ⟨gl, 0, none⟩) 1 1] 28 (0, 0))
theorem ES.write {W : World} {gc gw gl gv : Nat} (h : ES W gc gw gl gv) : EG ((((W.setCell ⟨gc, 4, none⟩ (.int .u8 1)).setCell ⟨gc, 5, none⟩ (.int .u8 1)).setCell ⟨gc, 6, none⟩ (.int .u64 8)).setCell ⟨gc, 7, none⟩ (.int .u64 5)) gc gw gl gv := by
  have ks : ∀ k, k ≠ gc → ((((W.setCell ⟨gc, 4, none⟩ (.int .u8 1)).setCell ⟨gc, 5, none⟩ (.int .u8 1)).setCell ⟨gc, 6, none⟩ (.int .u64 8)).setCell ⟨gc, 7, none⟩ (.int .u64 5)).heap[k]? = W.heap[k]? := fun k hk => by
    rw [Below.heap_setCell _ _ _ _ hk, Below.heap_setCell _ _ _ _ hk, Below.heap_setCell _ _ _ _ hk, Below.heap_setCell _ _ _ _ hk]
  exact ⟨set_atC (j := 7) (set_atC (j := 6) (set_atC (j := 5) (set_atC (j := 4) h.c _) _) _) _, (ks _ (ty_ne h.w h.c (by decide))).trans h.w, (ks _ (ty_ne h.l h.c (by decide))).trans h.l, (ks _ (ty_ne h.v h.c (by decide))).trans h.v⟩
theorem below_four {W0 W : World} {B gc : Nat} (h : Below B W0 W) (hg : B ≤ gc) (a b c d : Value) : Below B W0 ((((W.setCell ⟨gc, 4, none⟩ a).setCell ⟨gc, 5, none⟩ b).setCell ⟨gc, 6, none⟩ c).setCell ⟨gc, 7, none⟩ d) :=
  (((h.setCell (p := ⟨gc, 4, none⟩) hg _).setCell (p := ⟨gc, 5, none⟩) hg _).setCell (p := ⟨gc, 6, none⟩) hg _).setCell (p := ⟨gc, 7, none⟩) hg _
theorem rx_four {W : World} {g gc : Nat} {l : List Bool} (h : RX Value.bool W (some ⟨g, 0, none⟩) l) (hl : l.length ≠ 0) (hg : g ≠ gc) (a b c d : Value) : RX Value.bool ((((W.setCell ⟨gc, 4, none⟩ a).setCell ⟨gc, 5, none⟩ b).setCell ⟨gc, 6, none⟩ c).setCell ⟨gc, 7, none⟩ d) (some ⟨g, 0, none⟩) l := by
  obtain ⟨bb, o, h1, h2⟩ := h
  have e := h1.resolve_left hl
  cases e
  refine ⟨g, 0, .inr rfl, fun j x hx => ?_⟩
  obtain ⟨h3, h4⟩ := h2 j x hx
  refine ⟨by simp [World.size_setCell]; exact h3, ?_⟩
  simp only [World.cell?] at h4 ⊢
  rw [Below.heap_setCell _ _ _ _ hg, Below.heap_setCell _ _ _ _ hg, Below.heap_setCell _ _ _ _ hg, Below.heap_setCell _ _ _ _ hg]
  exact h4
theorem rx_one {W : World} {g gv j : Nat} {l : List Bool} (h : RX Value.bool W (some ⟨g, 0, none⟩) l) (hl : l.length ≠ 0) (hg : g ≠ gv) (a : Value) : RX Value.bool (W.setCell ⟨gv, j, none⟩ a) (some ⟨g, 0, none⟩) l := by
  obtain ⟨bb, o, h1, h2⟩ := h
  have e := h1.resolve_left hl
  cases e
  refine ⟨g, 0, .inr rfl, fun j x hx => ?_⟩
  obtain ⟨h3, h4⟩ := h2 j x hx
  refine ⟨by simp [World.size_setCell]; exact h3, ?_⟩
  simp only [World.cell?] at h4 ⊢
  rw [Below.heap_setCell _ _ _ _ hg]
  exact h4
theorem es_after {w w22 w23 : World} {gc gw gl gv g1 g2 : Nat} (h : ES w22 gc gw gl gv) (hb0 : Below w.heap.size w w22) (hg : RX Value.bool w22 (some ⟨g1, 0, none⟩) [true, false] ∧ RX Value.bool w22 (some ⟨g2, 0, none⟩) [false, false]) (hb : Below w22.heap.size w22 w23) (hl : w.heap.size ≤ gc) (hne : g1 ≠ gc ∧ g2 ≠ gc) :
    EG ((((w23.setCell ⟨gc, 4, none⟩ (.int .u8 1)).setCell ⟨gc, 5, none⟩ (.int .u8 1)).setCell ⟨gc, 6, none⟩ (.int .u64 8)).setCell ⟨gc, 7, none⟩ (.int .u64 5)) gc gw gl gv ∧ Below w.heap.size w ((((w23.setCell ⟨gc, 4, none⟩ (.int .u8 1)).setCell ⟨gc, 5, none⟩ (.int .u8 1)).setCell ⟨gc, 6, none⟩ (.int .u64 8)).setCell ⟨gc, 7, none⟩ (.int .u64 5)) ∧ RX Value.bool ((((w23.setCell ⟨gc, 4, none⟩ (.int .u8 1)).setCell ⟨gc, 5, none⟩ (.int .u8 1)).setCell ⟨gc, 6, none⟩ (.int .u64 8)).setCell ⟨gc, 7, none⟩ (.int .u64 5)) (some ⟨g1, 0, none⟩) [true, false] ∧ RX Value.bool ((((w23.setCell ⟨gc, 4, none⟩ (.int .u8 1)).setCell ⟨gc, 5, none⟩ (.int .u8 1)).setCell ⟨gc, 6, none⟩ (.int .u64 8)).setCell ⟨gc, 7, none⟩ (.int .u64 5)) (some ⟨g2, 0, none⟩) [false, false] :=
  ⟨(h.below hb).write, below_four (hb0.trans (hb.mono hb0.size)) hl _ _ _ _, rx_four (hg.1.below hb) (by decide) hne.1 _ _ _ _, rx_four (hg.2.below hb) (by decide) hne.2 _ _ _ _⟩
set_option maxRecDepth 100000 in
set_option maxHeartbeats 16000000 in
theorem known_any (w : World) (hT : Tab w) : Calls Tryd.prog 7 #[] w fun e w' => e = .returned (.bool true) ∧ Below w.heap.size w w' := by
  have HT : Hid (Tab w) := hT
  have H0 : Hid (∀ w, Calls Tryd.prog 16 #[.int .i64 0] w fun e w' => e = .returned (.int .u64 8) ∧ w' = w) := fun w => refRef_any 0 w
  have H1 : Hid (∀ w, Calls Tryd.prog 16 #[.int .i64 1] w fun e w' => e = .returned (.int .u64 24) ∧ w' = w) := fun w => refRef_any 1 w
  have I1 : Hid (∀ w, Calls Tryd.prog 18 #[.int .i64 1] w fun e w' => e = .returned (.int .u64 21) ∧ w' = w) := fun w => refInt_any 1 w
  have I2 : Hid (∀ w, Calls Tryd.prog 18 #[.int .i64 2] w fun e w' => e = .returned (.int .u64 37) ∧ w' = w) := fun w => refInt_any 2 w
  clear hT
  go_enter Tryd.func7, Tryd.ntmps7
  go_wp2_with (first | (go_at_call_of 16 (Value.int IntKind.i64 0); refine (H0.out _).mono ?_; rintro e w99 ⟨rfl, hw99⟩; rw [hw99]; clear hw99) | (go_at_call_of 16 (Value.int IntKind.i64 1); refine (H1.out _).mono ?_; rintro e w99 ⟨rfl, hw99⟩; rw [hw99]; clear hw99) | (go_at_call_of 18 (Value.int IntKind.i64 1); refine (I1.out _).mono ?_; rintro e w99 ⟨rfl, hw99⟩; rw [hw99]; clear hw99) | (go_at_call_of 18 (Value.int IntKind.i64 2); refine (I2.out _).mono ?_; rintro e w99 ⟨rfl, hw99⟩; rw [hw99]; clear hw99))
  refine Calls.mono (pair_any 0 21 _) ?_
  rintro e w1 ⟨rfl, hb1⟩
  have HB1 : Hid (Below w.heap.size w w1) := hb1
  clear hb1
  go_wp2_with (first | (go_at_call_of 16 (Value.int IntKind.i64 0); refine (H0.out _).mono ?_; rintro e w99 ⟨rfl, hw99⟩; rw [hw99]; clear hw99) | (go_at_call_of 16 (Value.int IntKind.i64 1); refine (H1.out _).mono ?_; rintro e w99 ⟨rfl, hw99⟩; rw [hw99]; clear hw99) | (go_at_call_of 18 (Value.int IntKind.i64 1); refine (I1.out _).mono ?_; rintro e w99 ⟨rfl, hw99⟩; rw [hw99]; clear hw99) | (go_at_call_of 18 (Value.int IntKind.i64 2); refine (I2.out _).mono ?_; rintro e w99 ⟨rfl, hw99⟩; rw [hw99]; clear hw99))
  refine Calls.mono (pair_any 0 37 _) ?_
  rintro e w2 ⟨rfl, hb2⟩
  have HB2 : Hid (Below w.heap.size w w2) := HB1.out.trans (hb2.mono HB1.out.size)
  clear hb2 HB1
  have o3 := heap_alloc_new w2 (.cells #[.int .u8 1, .int .u8 0, .int .u64 21, .int .u64 5, .int .u8 1, .int .u8 0, .int .u64 37, .int .u64 5] 59)
  have HB3 : Hid (Below w.heap.size w (w2.alloc (.cells #[.int .u8 1, .int .u8 0, .int .u64 21, .int .u64 5, .int .u8 1, .int .u8 0, .int .u64 37, .int .u64 5] 59))) := HB2.out.alloc HB2.out.size _
  have HH3 : Hid (HR (w2.alloc (.cells #[.int .u8 1, .int .u8 0, .int .u64 21, .int .u64 5, .int .u8 1, .int .u8 0, .int .u64 37, .int .u64 5] 59)) (some ⟨w2.heap.size, 0, none⟩) exH) := hr_of (l := exH) o3 exOk
  clear o3
  go_upto_region 4 with (first | (go_at_call_of 16 (Value.int IntKind.i64 0); refine (H0.out _).mono ?_; rintro e w99 ⟨rfl, hw99⟩; rw [hw99]; clear hw99) | (go_at_call_of 16 (Value.int IntKind.i64 1); refine (H1.out _).mono ?_; rintro e w99 ⟨rfl, hw99⟩; rw [hw99]; clear hw99) | (go_at_call_of 18 (Value.int IntKind.i64 1); refine (I1.out _).mono ?_; rintro e w99 ⟨rfl, hw99⟩; rw [hw99]; clear hw99) | (go_at_call_of 18 (Value.int IntKind.i64 2); refine (I2.out _).mono ?_; rintro e w99 ⟨rfl, hw99⟩; rw [hw99]; clear hw99))
  generalize w2.alloc (.cells #[.int .u8 1, .int .u8 0, .int .u64 21, .int .u64 5, .int .u8 1, .int .u8 0, .int .u64 37, .int .u64 5] 59) = W3 at *
  generalize w2.heap.size = gh at *
  have r8 : Rng 8 := by unfold Rng; decide
  have r24 : Rng 24 := by unfold Rng; decide
  have HC : Hid _ := store_any 2 true 8 24 exH (some ⟨gh, 0, none⟩) 2 W3 (by decide) HH3.out r8 r24 (HT.out.below HB3.out)
  rw [ex_s1] at HC
  go_wp2_with (first | (go_at_call_of 16 (Value.int IntKind.i64 0); refine (H0.out _).mono ?_; rintro e w99 ⟨rfl, hw99⟩; rw [hw99]; clear hw99) | (go_at_call_of 16 (Value.int IntKind.i64 1); refine (H1.out _).mono ?_; rintro e w99 ⟨rfl, hw99⟩; rw [hw99]; clear hw99) | (go_at_call_of 18 (Value.int IntKind.i64 1); refine (I1.out _).mono ?_; rintro e w99 ⟨rfl, hw99⟩; rw [hw99]; clear hw99) | (go_at_call_of 18 (Value.int IntKind.i64 2); refine (I2.out _).mono ?_; rintro e w99 ⟨rfl, hw99⟩; rw [hw99]; clear hw99))
  refine Calls.mono HC.out ?_
  intro e w4 ho4
  obtain ⟨ra1, ca1, rfl, hr1, hb4⟩ := outI_rx ho4
  have HB4 : Hid (Below w.heap.size w w4) := HB3.out.trans (hb4.mono HB3.out.size)
  have HH4 : Hid (HR w4 (some ⟨gh, 0, none⟩) exH) := HH3.out.below hb4
  have HR1 : Hid (RX (Value.int .i64) w4 ra1 [0]) := hr1
  clear ho4 hb4 hr1 HC HH3
  have HC : Hid _ := store_any 2 false 8 24 exH (some ⟨gh, 0, none⟩) 2 w4 (by decide) HH4.out r8 r24 (HT.out.below HB4.out)
  rw [ex_s2] at HC
  go_wp2_with (first | (go_at_call_of 16 (Value.int IntKind.i64 0); refine (H0.out _).mono ?_; rintro e w99 ⟨rfl, hw99⟩; rw [hw99]; clear hw99) | (go_at_call_of 16 (Value.int IntKind.i64 1); refine (H1.out _).mono ?_; rintro e w99 ⟨rfl, hw99⟩; rw [hw99]; clear hw99) | (go_at_call_of 18 (Value.int IntKind.i64 1); refine (I1.out _).mono ?_; rintro e w99 ⟨rfl, hw99⟩; rw [hw99]; clear hw99) | (go_at_call_of 18 (Value.int IntKind.i64 2); refine (I2.out _).mono ?_; rintro e w99 ⟨rfl, hw99⟩; rw [hw99]; clear hw99))
  refine Calls.mono HC.out ?_
  intro e w5 ho5
  obtain ⟨ra2, ca2, rfl, hr2, hb5⟩ := outI_rx ho5
  have HB5 : Hid (Below w.heap.size w w5) := HB4.out.trans (hb5.mono HB4.out.size)
  have HH5 : Hid (HR w5 (some ⟨gh, 0, none⟩) exH) := HH4.out.below hb5
  have HR15 : Hid (RX (Value.int .i64) w5 ra1 [0]) := HR1.out.below hb5
  have HR2 : Hid (RX (Value.int .i64) w5 ra2 [0, 1]) := hr2
  clear ho5 hb5 hr2 HC HH4 HR1
  have HC : Hid _ := fill_any 1 false 24 8 exH (some ⟨gh, 0, none⟩) 2 w5 (by decide) HH5.out r24 r8 (HT.out.below HB5.out)
  rw [ex_f] at HC
  go_wp2_with (first | (go_at_call_of 16 (Value.int IntKind.i64 0); refine (H0.out _).mono ?_; rintro e w99 ⟨rfl, hw99⟩; rw [hw99]; clear hw99) | (go_at_call_of 16 (Value.int IntKind.i64 1); refine (H1.out _).mono ?_; rintro e w99 ⟨rfl, hw99⟩; rw [hw99]; clear hw99) | (go_at_call_of 18 (Value.int IntKind.i64 1); refine (I1.out _).mono ?_; rintro e w99 ⟨rfl, hw99⟩; rw [hw99]; clear hw99) | (go_at_call_of 18 (Value.int IntKind.i64 2); refine (I2.out _).mono ?_; rintro e w99 ⟨rfl, hw99⟩; rw [hw99]; clear hw99))
  refine Calls.mono HC.out ?_
  intro e w6 ho6
  obtain ⟨ra3, ca3, rfl, hr3, hb6⟩ := outI_rx ho6
  have HB6 : Hid (Below w.heap.size w w6) := HB5.out.trans (hb6.mono HB5.out.size)
  have HTl : Hid (Told w6 ra1 ra2 ra3) := ⟨HR15.out.below hb6, HR2.out.below hb6, hr3⟩
  clear ho6 hb6 hr3 HC HH5 HR15 HR2
  have HC : Hid _ := birth_any 3 3 3 w6
  rw [ex_b] at HC
  go_wp2_with (first | (go_at_call_of 16 (Value.int IntKind.i64 0); refine (H0.out _).mono ?_; rintro e w99 ⟨rfl, hw99⟩; rw [hw99]; clear hw99) | (go_at_call_of 16 (Value.int IntKind.i64 1); refine (H1.out _).mono ?_; rintro e w99 ⟨rfl, hw99⟩; rw [hw99]; clear hw99) | (go_at_call_of 18 (Value.int IntKind.i64 1); refine (I1.out _).mono ?_; rintro e w99 ⟨rfl, hw99⟩; rw [hw99]; clear hw99) | (go_at_call_of 18 (Value.int IntKind.i64 2); refine (I2.out _).mono ?_; rintro e w99 ⟨rfl, hw99⟩; rw [hw99]; clear hw99))
  refine Calls.mono HC.out ?_
  rintro e w7 ⟨rfl, rfl⟩
  clear HC
  have a1 := (Below.refl _ w7).alloc (Nat.le_refl w7.heap.size) (.cells #[.int .i64 0] 3)
  have HC : Hid _ := sameI_any [0] [0] ra1 (some ⟨w7.heap.size, 0, none⟩) ca1 1 _ (by decide) (by decide) (HTl.out.1.below a1) (ri_of (l := [0]) (heap_alloc_new w7 (.cells #[.int .i64 0] 3)))
  have HB8 : Hid _ := HB6.out.trans (a1.mono HB6.out.size)
  have HT8 : Hid (Told _ ra1 ra2 ra3) := HTl.out.below a1
  clear a1 HTl HB6
  go_wp2_with (first | (go_at_call_of 16 (Value.int IntKind.i64 0); refine (H0.out _).mono ?_; rintro e w99 ⟨rfl, hw99⟩; rw [hw99]; clear hw99) | (go_at_call_of 16 (Value.int IntKind.i64 1); refine (H1.out _).mono ?_; rintro e w99 ⟨rfl, hw99⟩; rw [hw99]; clear hw99) | (go_at_call_of 18 (Value.int IntKind.i64 1); refine (I1.out _).mono ?_; rintro e w99 ⟨rfl, hw99⟩; rw [hw99]; clear hw99) | (go_at_call_of 18 (Value.int IntKind.i64 2); refine (I2.out _).mono ?_; rintro e w99 ⟨rfl, hw99⟩; rw [hw99]; clear hw99))
  refine Calls.mono HC.out ?_
  rintro e w8 ⟨rfl, hb8⟩
  have HB9 : Hid (Below w.heap.size w w8) := HB8.out.trans (hb8.mono HB8.out.size)
  have HT9 : Hid (Told w8 ra1 ra2 ra3) := HT8.out.below hb8
  clear hb8 HC HB8 HT8
  have a1 := (Below.refl _ w8).alloc (Nat.le_refl w8.heap.size) (.cells #[.int .i64 0, .int .i64 1] 3)
  have HC : Hid _ := sameI_any [0, 1] [0, 1] ra2 (some ⟨w8.heap.size, 0, none⟩) ca2 2 _ (by decide) (by decide) (HT9.out.2.1.below a1) (ri_of (l := [0, 1]) (heap_alloc_new w8 (.cells #[.int .i64 0, .int .i64 1] 3)))
  have HB10 : Hid _ := HB9.out.trans (a1.mono HB9.out.size)
  have HT10 : Hid (Told _ ra1 ra2 ra3) := HT9.out.below a1
  clear a1 HT9 HB9
  go_wp2_with (first | (go_at_call_of 16 (Value.int IntKind.i64 0); refine (H0.out _).mono ?_; rintro e w99 ⟨rfl, hw99⟩; rw [hw99]; clear hw99) | (go_at_call_of 16 (Value.int IntKind.i64 1); refine (H1.out _).mono ?_; rintro e w99 ⟨rfl, hw99⟩; rw [hw99]; clear hw99) | (go_at_call_of 18 (Value.int IntKind.i64 1); refine (I1.out _).mono ?_; rintro e w99 ⟨rfl, hw99⟩; rw [hw99]; clear hw99) | (go_at_call_of 18 (Value.int IntKind.i64 2); refine (I2.out _).mono ?_; rintro e w99 ⟨rfl, hw99⟩; rw [hw99]; clear hw99))
  refine Calls.mono HC.out ?_
  rintro e w9 ⟨rfl, hb9⟩
  have HB11 : Hid (Below w.heap.size w w9) := HB10.out.trans (hb9.mono HB10.out.size)
  have HT11 : Hid (Told w9 ra1 ra2 ra3) := HT10.out.below hb9
  clear hb9 HC HB10 HT10
  have a1 := (Below.refl _ w9).alloc (Nat.le_refl w9.heap.size) (.cells #[.int .i64 1, .int .i64 0] 3)
  have HC : Hid _ := sameI_any [1, 0] [1, 0] ra3 (some ⟨w9.heap.size, 0, none⟩) ca3 2 _ (by decide) (by decide) (HT11.out.2.2.below a1) (ri_of (l := [1, 0]) (heap_alloc_new w9 (.cells #[.int .i64 1, .int .i64 0] 3)))
  have HB12 : Hid _ := HB11.out.trans (a1.mono HB11.out.size)
  clear a1 HT11 HB11
  go_wp2_with (first | (go_at_call_of 16 (Value.int IntKind.i64 0); refine (H0.out _).mono ?_; rintro e w99 ⟨rfl, hw99⟩; rw [hw99]; clear hw99) | (go_at_call_of 16 (Value.int IntKind.i64 1); refine (H1.out _).mono ?_; rintro e w99 ⟨rfl, hw99⟩; rw [hw99]; clear hw99) | (go_at_call_of 18 (Value.int IntKind.i64 1); refine (I1.out _).mono ?_; rintro e w99 ⟨rfl, hw99⟩; rw [hw99]; clear hw99) | (go_at_call_of 18 (Value.int IntKind.i64 2); refine (I2.out _).mono ?_; rintro e w99 ⟨rfl, hw99⟩; rw [hw99]; clear hw99))
  refine Calls.mono HC.out ?_
  rintro e w10 ⟨rfl, hb10⟩
  have HB13 : Hid (Below w.heap.size w w10) := HB12.out.trans (hb10.mono HB12.out.size)
  clear hb10 HC HB12
  go_wp2_with (first | (go_at_call_of 16 (Value.int IntKind.i64 0); refine (H0.out _).mono ?_; rintro e w99 ⟨rfl, hw99⟩; rw [hw99]; clear hw99) | (go_at_call_of 16 (Value.int IntKind.i64 1); refine (H1.out _).mono ?_; rintro e w99 ⟨rfl, hw99⟩; rw [hw99]; clear hw99) | (go_at_call_of 18 (Value.int IntKind.i64 1); refine (I1.out _).mono ?_; rintro e w99 ⟨rfl, hw99⟩; rw [hw99]; clear hw99) | (go_at_call_of 18 (Value.int IntKind.i64 2); refine (I2.out _).mono ?_; rintro e w99 ⟨rfl, hw99⟩; rw [hw99]; clear hw99))
  refine Calls.mono (pair_any 0 21 _) ?_
  rintro e w11 ⟨rfl, hb11⟩
  have HB14 : Hid (Below w.heap.size w w11) := HB13.out.trans (hb11.mono HB13.out.size)
  clear hb11 HB13
  go_wp2_with (first | (go_at_call_of 16 (Value.int IntKind.i64 0); refine (H0.out _).mono ?_; rintro e w99 ⟨rfl, hw99⟩; rw [hw99]; clear hw99) | (go_at_call_of 16 (Value.int IntKind.i64 1); refine (H1.out _).mono ?_; rintro e w99 ⟨rfl, hw99⟩; rw [hw99]; clear hw99) | (go_at_call_of 18 (Value.int IntKind.i64 1); refine (I1.out _).mono ?_; rintro e w99 ⟨rfl, hw99⟩; rw [hw99]; clear hw99) | (go_at_call_of 18 (Value.int IntKind.i64 2); refine (I2.out _).mono ?_; rintro e w99 ⟨rfl, hw99⟩; rw [hw99]; clear hw99))
  refine Calls.mono (pair_any 2 8 _) ?_
  rintro e w12 ⟨rfl, hb12⟩
  have HB15 : Hid (Below w.heap.size w w12) := HB14.out.trans (hb12.mono HB14.out.size)
  clear hb12 HB14
  have HES : Hid (ES ((((w12.alloc (.cells #[.int .u8 1, .int .u8 0, .int .u64 21, .int .u64 5, .int .u8 1, .int .u8 2, .int .u64 8, .int .u64 5] 59)).alloc (.cells #[.int .u64 24, .int .u64 8] 57)).alloc (.cells #[.slice (some ⟨w12.heap.size + 1, 0, none⟩) 2 2, .bool false, .bool false] 61)).alloc (.cells #[.slice (some ⟨w12.heap.size, 0, none⟩) 2 2, .int .u8 2, .int .i64 0, .slice none 0 0, .slice none 0 0, .int .i64 0, .slice (some ⟨w12.heap.size + 1 + 1, 0, none⟩) 1 1] 28)) w12.heap.size (w12.heap.size + 1) (w12.heap.size + 1 + 1) (w12.heap.size + 1 + 1 + 1) ∧ Below w.heap.size w ((((w12.alloc (.cells #[.int .u8 1, .int .u8 0, .int .u64 21, .int .u64 5, .int .u8 1, .int .u8 2, .int .u64 8, .int .u64 5] 59)).alloc (.cells #[.int .u64 24, .int .u64 8] 57)).alloc (.cells #[.slice (some ⟨w12.heap.size + 1, 0, none⟩) 2 2, .bool false, .bool false] 61)).alloc (.cells #[.slice (some ⟨w12.heap.size, 0, none⟩) 2 2, .int .u8 2, .int .i64 0, .slice none 0 0, .slice none 0 0, .int .i64 0, .slice (some ⟨w12.heap.size + 1 + 1, 0, none⟩) 1 1] 28))) := by
    have y1 : (w12.alloc (.cells #[.int .u8 1, .int .u8 0, .int .u64 21, .int .u64 5, .int .u8 1, .int .u8 2, .int .u64 8, .int .u64 5] 59)).heap.size = w12.heap.size + 1 := World.size_alloc ..
    have y2 : ((w12.alloc (.cells #[.int .u8 1, .int .u8 0, .int .u64 21, .int .u64 5, .int .u8 1, .int .u8 2, .int .u64 8, .int .u64 5] 59)).alloc (.cells #[.int .u64 24, .int .u64 8] 57)).heap.size = w12.heap.size + 1 + 1 := by rw [World.size_alloc, y1]
    have y3 : (((w12.alloc (.cells #[.int .u8 1, .int .u8 0, .int .u64 21, .int .u64 5, .int .u8 1, .int .u8 2, .int .u64 8, .int .u64 5] 59)).alloc (.cells #[.int .u64 24, .int .u64 8] 57)).alloc (.cells #[.slice (some ⟨w12.heap.size + 1, 0, none⟩) 2 2, .bool false, .bool false] 61)).heap.size = w12.heap.size + 1 + 1 + 1 := by rw [World.size_alloc, y2]
    have b0 := HB15.out.size
    refine ⟨⟨?_, ?_, ?_, ?_⟩, (((HB15.out.alloc b0 _).alloc (by rw [y1]; omega) _).alloc (by rw [y2]; omega) _).alloc (by rw [y3]; omega) _⟩
    · exact (Below.heap_alloc _ _ _ (by rw [y3]; omega)).trans ((Below.heap_alloc _ _ _ (by rw [y2]; omega)).trans ((Below.heap_alloc _ _ _ (by rw [y1]; omega)).trans (heap_alloc_new _ _)))
    · refine (Below.heap_alloc _ _ _ (by rw [y3]; omega)).trans ((Below.heap_alloc _ _ _ (by rw [y2]; omega)).trans ?_)
      have := heap_alloc_new (w12.alloc (.cells #[.int .u8 1, .int .u8 0, .int .u64 21, .int .u64 5, .int .u8 1, .int .u8 2, .int .u64 8, .int .u64 5] 59)) (.cells #[.int .u64 24, .int .u64 8] 57)
      rw [y1] at this
      exact this
    · refine (Below.heap_alloc _ _ _ (by rw [y3]; omega)).trans ?_
      have := heap_alloc_new ((w12.alloc (.cells #[.int .u8 1, .int .u8 0, .int .u64 21, .int .u64 5, .int .u8 1, .int .u8 2, .int .u64 8, .int .u64 5] 59)).alloc (.cells #[.int .u64 24, .int .u64 8] 57)) (.cells #[.slice (some ⟨w12.heap.size + 1, 0, none⟩) 2 2, .bool false, .bool false] 61)
      rw [y2] at this
      exact this
    · have := heap_alloc_new (((w12.alloc (.cells #[.int .u8 1, .int .u8 0, .int .u64 21, .int .u64 5, .int .u8 1, .int .u8 2, .int .u64 8, .int .u64 5] 59)).alloc (.cells #[.int .u64 24, .int .u64 8] 57)).alloc (.cells #[.slice (some ⟨w12.heap.size + 1, 0, none⟩) 2 2, .bool false, .bool false] 61)) (.cells #[.slice (some ⟨w12.heap.size, 0, none⟩) 2 2, .int .u8 2, .int .i64 0, .slice none 0 0, .slice none 0 0, .int .i64 0, .slice (some ⟨w12.heap.size + 1 + 1, 0, none⟩) 1 1] 28)
      rw [y3] at this
      exact this
  have HLow : Hid (w.heap.size ≤ w12.heap.size) := HB15.out.size
  have HLv : Hid (w.heap.size ≤ w12.heap.size + 1 + 1 + 1) := by have := HB15.out.size; show _ ≤ _; omega
  clear HB15
  go_upto_region 10 with (first | (go_at_call_of 16 (Value.int IntKind.i64 0); refine (H0.out _).mono ?_; rintro e w99 ⟨rfl, hw99⟩; rw [hw99]; clear hw99) | (go_at_call_of 16 (Value.int IntKind.i64 1); refine (H1.out _).mono ?_; rintro e w99 ⟨rfl, hw99⟩; rw [hw99]; clear hw99) | (go_at_call_of 18 (Value.int IntKind.i64 1); refine (I1.out _).mono ?_; rintro e w99 ⟨rfl, hw99⟩; rw [hw99]; clear hw99) | (go_at_call_of 18 (Value.int IntKind.i64 2); refine (I2.out _).mono ?_; rintro e w99 ⟨rfl, hw99⟩; rw [hw99]; clear hw99))
  generalize ((((w12.alloc (.cells #[.int .u8 1, .int .u8 0, .int .u64 21, .int .u64 5, .int .u8 1, .int .u8 2, .int .u64 8, .int .u64 5] 59)).alloc (.cells #[.int .u64 24, .int .u64 8] 57)).alloc (.cells #[.slice (some ⟨w12.heap.size + 1, 0, none⟩) 2 2, .bool false, .bool false] 61)).alloc (.cells #[.slice (some ⟨w12.heap.size, 0, none⟩) 2 2, .int .u8 2, .int .i64 0, .slice none 0 0, .slice none 0 0, .int .i64 0, .slice (some ⟨w12.heap.size + 1 + 1, 0, none⟩) 1 1] 28)) = W20 at *
  generalize w12.heap.size + 1 + 1 + 1 = gv at *
  generalize w12.heap.size + 1 + 1 = gl at *
  generalize w12.heap.size + 1 = gw at *
  generalize w12.heap.size = gc at *
  have v0 := heap_cell (j := 0) HES.out.1.v rfl
  have v1 := heap_cell (j := 1) HES.out.1.v rfl
  have v2 := heap_cell (j := 2) HES.out.1.v rfl
  have v3 := heap_cell (j := 3) HES.out.1.v rfl
  have v4 := heap_cell (j := 4) HES.out.1.v rfl
  have v5 := heap_cell (j := 5) HES.out.1.v rfl
  have v6 := heap_cell (j := 6) HES.out.1.v rfl
  have lv := heap_lt HES.out.1.v
  have lc0 := heap_lt HES.out.1.c
  have HC : Hid (Calls Tryd.prog 23 #[.agg #[.slice (some ⟨gc, 0, none⟩) 2 2, .int .u8 2, .int .i64 0, .slice none 0 0, .slice none 0 0, .int .i64 0, .slice (some ⟨gl, 0, none⟩) 1 1]] W20 fun e w' => GuR exV e W20 w') := guarded_any ⟨some ⟨gc, 0, none⟩, 2, none, 0, none, 0, some ⟨gl, 0, none⟩, 1⟩ exV W20 HES.out.1.vl (HT.out.below HES.out.2) (by decide)
  go_wp2_with (first | (go_at_call_of 16 (Value.int IntKind.i64 0); refine (H0.out _).mono ?_; rintro e w99 ⟨rfl, hw99⟩; rw [hw99]; clear hw99) | (go_at_call_of 16 (Value.int IntKind.i64 1); refine (H1.out _).mono ?_; rintro e w99 ⟨rfl, hw99⟩; rw [hw99]; clear hw99) | (go_at_call_of 18 (Value.int IntKind.i64 1); refine (I1.out _).mono ?_; rintro e w99 ⟨rfl, hw99⟩; rw [hw99]; clear hw99) | (go_at_call_of 18 (Value.int IntKind.i64 2); refine (I2.out _).mono ?_; rintro e w99 ⟨rfl, hw99⟩; rw [hw99]; clear hw99))
  refine Calls.mono HC.out ?_
  rintro e w21 ⟨hb21, hor⟩
  rcases hor with ⟨hm, _⟩ | ⟨_, g1, g2, rfl, hd1, hd2, hge1, hge2, _⟩
  · rw [ex_may] at hm; cases hm
  have HES2 : Hid (ES w21 gc gw gl gv ∧ Below w.heap.size w w21) := ⟨HES.out.1.below hb21, HES.out.2.trans (hb21.mono HES.out.2.size)⟩
  have HG1 : Hid (RX Value.bool w21 (some ⟨g1, 0, none⟩) [true, false]) := by
    have := dr_rx hd1
    rw [show exV.h.length = 2 from rfl, ex_by] at this
    exact this
  have HG2 : Hid (RX Value.bool w21 (some ⟨g2, 0, none⟩) [false, false]) := by
    have := dr_rx hd2
    rw [show exV.h.length = 2 from rfl, ex_well] at this
    exact this
  have HNe : Hid (g1 ≠ gc ∧ g2 ≠ gc) := ⟨by omega, by omega⟩
  have HNv : Hid (g1 ≠ gv ∧ g2 ≠ gv) := ⟨by omega, by omega⟩
  clear hb21 hd1 hd2 hge1 hge2 lc0 HC v0 v1 v2 v3 v4 v5 v6 lv HES
  rw [show exV.h.length = 2 from rfl]
  have v0 := heap_cell (j := 0) HES2.out.1.v rfl
  have v1 := heap_cell (j := 1) HES2.out.1.v rfl
  have v2 := heap_cell (j := 2) HES2.out.1.v rfl
  have v3 := heap_cell (j := 3) HES2.out.1.v rfl
  have v4 := heap_cell (j := 4) HES2.out.1.v rfl
  have v5 := heap_cell (j := 5) HES2.out.1.v rfl
  have v6 := heap_cell (j := 6) HES2.out.1.v rfl
  have lv := heap_lt HES2.out.1.v
  have HC : Hid (Calls Tryd.prog 12 #[.agg #[.slice (some ⟨gc, 0, none⟩) 2 2, .int .u8 2, .int .i64 0, .slice none 0 0, .slice none 0 0, .int .i64 0, .slice (some ⟨gl, 0, none⟩) 1 1]] w21 fun e w' => e = .returned (hoE exV) ∧ Below w21.heap.size w21 w') := holds_any ⟨some ⟨gc, 0, none⟩, 2, none, 0, none, 0, some ⟨gl, 0, none⟩, 1⟩ exV w21 HES2.out.1.vl (HT.out.below HES2.out.2) (by decide)
  rw [ex_ho] at HC
  go_wp2_with (first | (go_at_call_of 16 (Value.int IntKind.i64 0); refine (H0.out _).mono ?_; rintro e w99 ⟨rfl, hw99⟩; rw [hw99]; clear hw99) | (go_at_call_of 16 (Value.int IntKind.i64 1); refine (H1.out _).mono ?_; rintro e w99 ⟨rfl, hw99⟩; rw [hw99]; clear hw99) | (go_at_call_of 18 (Value.int IntKind.i64 1); refine (I1.out _).mono ?_; rintro e w99 ⟨rfl, hw99⟩; rw [hw99]; clear hw99) | (go_at_call_of 18 (Value.int IntKind.i64 2); refine (I2.out _).mono ?_; rintro e w99 ⟨rfl, hw99⟩; rw [hw99]; clear hw99))
  refine Calls.mono HC.out ?_
  rintro e w22 ⟨rfl, hb22⟩
  have HES3 : Hid (ES w22 gc gw gl gv ∧ Below w.heap.size w w22) := ⟨HES2.out.1.below hb22, HES2.out.2.trans (hb22.mono HES2.out.2.size)⟩
  have HG13 : Hid (RX Value.bool w22 (some ⟨g1, 0, none⟩) [true, false] ∧ RX Value.bool w22 (some ⟨g2, 0, none⟩) [false, false]) := ⟨HG1.out.below hb22, HG2.out.below hb22⟩
  clear hb22 HC v0 v1 v2 v3 v4 v5 v6 lv HES2 HG1 HG2
  have HGC : Hid (w.heap.size ≤ gc) := HLow.out
  have HG1C : Hid (g1 ≠ gc ∧ g2 ≠ gc) := HNe.out
  have hmx : Tryd.prog.follows .mixedOrders = true := by kernel_rfl
  go_upto_region 12 with (first | (go_at_call_of 16 (Value.int IntKind.i64 0); refine (H0.out _).mono ?_; rintro e w99 ⟨rfl, hw99⟩; rw [hw99]; clear hw99) | (go_at_call_of 16 (Value.int IntKind.i64 1); refine (H1.out _).mono ?_; rintro e w99 ⟨rfl, hw99⟩; rw [hw99]; clear hw99) | (go_at_call_of 18 (Value.int IntKind.i64 1); refine (I1.out _).mono ?_; rintro e w99 ⟨rfl, hw99⟩; rw [hw99]; clear hw99) | (go_at_call_of 18 (Value.int IntKind.i64 2); refine (I2.out _).mono ?_; rintro e w99 ⟨rfl, hw99⟩; rw [hw99]; clear hw99))
  have v0 := heap_cell (j := 0) HES3.out.1.v rfl
  have lv := heap_lt HES3.out.1.v
  go_cut [80] from 128 (fun v wx => Hid (EG wx gc gw gl gv ∧ Below w.heap.size w wx ∧ RX Value.bool wx (some ⟨g1, 0, none⟩) [true, false] ∧ RX Value.bool wx (some ⟨g2, 0, none⟩) [false, false]))
  case first =>
    go_region_with (first | (go_at_call 17; refine (pair_any 1 8 _).mono ?_; rintro e w23 ⟨rfl, hb23⟩; have hb := (below_d w22).trans hb23; have hr := (HES3.out.1.below hb).reads; obtain ⟨⟨u0, ⟨u1, u2, u3, u4⟩, z1, z2, z3, z4⟩, lv2, lc2⟩ := hr))
    all_goals
      go_wp2_with fail
      go_meet
      exact es_after HES3.out.1 HES3.out.2 HG13.out hb HGC.out HG1C.out
  case rest =>
    obtain ⟨heg, hbc, hx1, hx2⟩ := hcut.out
    have a1 := (Below.refl _ wc).alloc (Nat.le_refl wc.heap.size) (.cells #[.int .i64 1] 3)
    have ogv : (wc.alloc (.cells #[.int .i64 1] 3)).heap[gv]? = _ := (a1.block _ (heap_lt heg.v)).trans heg.v
    have y3 := heap_cell (j := 3) ogv rfl
    have z3 := fz_of ogv 3
    have lgv := heap_lt ogv
    have hvc : gv ≠ gc ∧ gv ≠ gw ∧ gv ≠ gl := ⟨ty_ne heg.v heg.c (by decide), ty_ne heg.v heg.w (by decide), ty_ne heg.v heg.l (by decide)⟩
    have sN : (wc.alloc (.cells #[.int .i64 1] 3)).heap.size = wc.heap.size + 1 := World.size_alloc ..
    have lgv0 := heap_lt heg.v
    have ks : ∀ k, k ≠ gv → k < wc.heap.size → ((wc.alloc (.cells #[.int .i64 1] 3)).setCell ⟨gv, 3, none⟩ (.slice (some ⟨wc.heap.size, 0, none⟩) 1 1)).heap[k]? = wc.heap[k]? := fun k hk hl => (Below.heap_setCell _ _ _ _ hk).trans (a1.block k hl)
    have HV3 : Hid (VL ((wc.alloc (.cells #[.int .i64 1] 3)).setCell ⟨gv, 3, none⟩ (.slice (some ⟨wc.heap.size, 0, none⟩) 1 1)) ⟨some ⟨gc, 0, none⟩, 2, some ⟨wc.heap.size, 0, none⟩, 1, none, 0, some ⟨gl, 0, none⟩, 1⟩ exG) := by
      refine vl_mk (cs := exG.h) ((ks gc (fun e => hvc.1 e.symm) (heap_lt heg.c)).trans heg.c) exOkG (by decide) ((ks gw (fun e => hvc.2.1 e.symm) (heap_lt heg.w)).trans heg.w) ((ks gl (fun e => hvc.2.2 e.symm) (heap_lt heg.l)).trans heg.l) (ri_of (l := [1]) ?_) (by decide)
      exact (Below.heap_setCell _ _ _ _ (show wc.heap.size ≠ gv by omega)).trans (heap_alloc_new wc (.cells #[.int .i64 1] 3))
    have HB3' : Hid (Below w.heap.size w ((wc.alloc (.cells #[.int .i64 1] 3)).setCell ⟨gv, 3, none⟩ (.slice (some ⟨wc.heap.size, 0, none⟩) 1 1))) := (hbc.trans (a1.mono hbc.size)).setCell (p := ⟨gv, 3, none⟩) HLv.out _
    have ov3 := set_atC (j := 3) ogv (.slice (some ⟨wc.heap.size, 0, none⟩) 1 1)
    have HX1 : Hid (RX Value.bool ((wc.alloc (.cells #[.int .i64 1] 3)).setCell ⟨gv, 3, none⟩ (.slice (some ⟨wc.heap.size, 0, none⟩) 1 1)) (some ⟨g1, 0, none⟩) [true, false]) := rx_one (hx1.below a1) (by decide) HNv.out.1 _
    have HX2 : Hid (RX Value.bool ((wc.alloc (.cells #[.int .i64 1] 3)).setCell ⟨gv, 3, none⟩ (.slice (some ⟨wc.heap.size, 0, none⟩) 1 1)) (some ⟨g2, 0, none⟩) [false, false]) := rx_one (hx2.below a1) (by decide) HNv.out.2 _
    have w0 := heap_cell (j := 0) ov3 rfl
    have w1 := heap_cell (j := 1) ov3 rfl
    have w2 := heap_cell (j := 2) ov3 rfl
    have w3 := heap_cell (j := 3) ov3 rfl
    have w4 := heap_cell (j := 4) ov3 rfl
    have w5 := heap_cell (j := 5) ov3 rfl
    have w6 := heap_cell (j := 6) ov3 rfl
    have lw := heap_lt ov3
    clear heg hbc hx1 hx2 hcut a1 ogv hvc ks ov3 lgv0 sN
    go_upto_region 14 with fail
    generalize ((wc.alloc (.cells #[.int .i64 1] 3)).setCell ⟨gv, 3, none⟩ (.slice (some ⟨wc.heap.size, 0, none⟩) 1 1)) = W30 at *
    clear y3 z3 lgv
    generalize wc.heap.size = gy at *
    have HC : Hid (Calls Tryd.prog 12 #[.agg #[.slice (some ⟨gc, 0, none⟩) 2 2, .int .u8 2, .int .i64 0, .slice (some ⟨gy, 0, none⟩) 1 1, .slice none 0 0, .int .i64 0, .slice (some ⟨gl, 0, none⟩) 1 1]] W30 fun e w' => e = .returned (hoE exG) ∧ Below W30.heap.size W30 w') := holds_any ⟨some ⟨gc, 0, none⟩, 2, some ⟨gy, 0, none⟩, 1, none, 0, some ⟨gl, 0, none⟩, 1⟩ exG W30 HV3.out (HT.out.below HB3'.out) (by decide)
    rw [ex_hg] at HC
    go_wp2_with fail
    refine Calls.mono HC.out ?_
    rintro e w31 ⟨rfl, hb31⟩
    have HB31 : Hid (Below w.heap.size w w31) := HB3'.out.trans (hb31.mono HB3'.out.size)
    have HX31 : Hid (RX Value.bool w31 (some ⟨g1, 0, none⟩) [true, false]) := HX1.out.below hb31
    have HX32 : Hid (RX Value.bool w31 (some ⟨g2, 0, none⟩) [false, false]) := HX2.out.below hb31
    clear hb31 HC w0 w1 w2 w3 w4 w5 w6 lw HV3 HB3' HX1 HX2
    have a1 := (Below.refl _ w31).alloc (Nat.le_refl w31.heap.size) (.cells #[.bool true, .bool false] 4)
    have HC : Hid _ := sameB_any [true, false] [true, false] (some ⟨g1, 0, none⟩) (some ⟨w31.heap.size, 0, none⟩) 2 2 _ (by decide) (by decide) (HX31.out.below a1) (rb_of (l := [true, false]) (heap_alloc_new w31 (.cells #[.bool true, .bool false] 4)))
    have HB32 : Hid _ := HB31.out.trans (a1.mono HB31.out.size)
    have HX33 : Hid (RX Value.bool _ (some ⟨g2, 0, none⟩) [false, false]) := HX32.out.below a1
    clear a1 HX31 HX32 HB31
    go_wp2_with fail
    refine Calls.mono HC.out ?_
    rintro e w33 ⟨rfl, hb33⟩
    have HB33 : Hid (Below w.heap.size w w33) := HB32.out.trans (hb33.mono HB32.out.size)
    have HX34 : Hid (RX Value.bool w33 (some ⟨g2, 0, none⟩) [false, false]) := HX33.out.below hb33
    clear hb33 HC HB32 HX33
    have a1 := (Below.refl _ w33).alloc (Nat.le_refl w33.heap.size) (.cells #[.bool false, .bool false] 4)
    have HC : Hid _ := sameB_any [false, false] [false, false] (some ⟨g2, 0, none⟩) (some ⟨w33.heap.size, 0, none⟩) 2 2 _ (by decide) (by decide) (HX34.out.below a1) (rb_of (l := [false, false]) (heap_alloc_new w33 (.cells #[.bool false, .bool false] 4)))
    have HB34 : Hid _ := HB33.out.trans (a1.mono HB33.out.size)
    clear a1 HX34 HB33
    go_wp2_with fail
    refine Calls.mono HC.out ?_
    rintro e w35 ⟨rfl, hb35⟩
    have HB35 : Hid (Below w.heap.size w w35) := HB34.out.trans (hb35.mono HB34.out.size)
    clear hb35 HC HB34
    go_wp2
    go_ret
    exact ⟨rfl, HB35.out⟩
end Go.Proofs.YtomdbcddokaagaaDoor
