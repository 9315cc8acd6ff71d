/- The chapter's example: its heap.; The example, reckoned.; known: the chapter's first example. -/
import Derived.Test.YtdcmkifljcdmmaaGreatDoorHGRefs
import Derived.Test.YtdcmkifljcdmmaaGreatDoorHGRev
import Derived.Test.YtdcmkifljcdmmaaGreatDoorHGSame
import Derived.BigQuiet
/- The chapter's example: its heap. -/
namespace Go.Proofs.YtdcmkifljcdmmaaGreatDoor
open Go.RowKit

abbrev pairV (a b : Int) : Value := .agg #[.int .u8 1, .int .u8 0, .int .u64 a, .int .u64 b]
set_option maxRecDepth 100000 in
set_option maxHeartbeats 4000000 in
theorem pair_any (a b : Int) (w : World) :
    Calls Tryz.prog 59 #[.int .u64 a, .int .u64 b] w fun e w' => e = .returned (pairV a b) ∧ Below w.heap.size w w' := by
  have hz : (w.alloc (.cells #[.int .u8 0, .int .u8 0, .int .u64 0, .int .u64 0] 55)).heap[w.heap.size]? = some (.cells #[.int .u8 0, .int .u8 0, .int .u64 0, .int .u64 0] 55) := heap_alloc_new _ _
  have HX : Hid (∀ k, (((((w.alloc (.cells #[.int .u8 0, .int .u8 0, .int .u64 0, .int .u64 0] 55)).setCell ⟨w.heap.size, 0, none⟩ (.int .u8 1)).setCell ⟨w.heap.size, 1, none⟩ (.int .u8 0)).setCell ⟨w.heap.size, 2, none⟩ (.int .u64 a)).setCell ⟨w.heap.size, 3, none⟩ (.int .u64 b)).cell? ⟨w.heap.size, k, none⟩ = [Value.int .u8 1, Value.int .u8 0, Value.int .u64 a, Value.int .u64 b][k]?) := fun k => four_cells hz _ _ _ _ k
  have HB : Hid (Below w.heap.size w (((((w.alloc (.cells #[.int .u8 0, .int .u8 0, .int .u64 0, .int .u64 0] 55)).setCell ⟨w.heap.size, 0, none⟩ (.int .u8 1)).setCell ⟨w.heap.size, 1, none⟩ (.int .u8 0)).setCell ⟨w.heap.size, 2, none⟩ (.int .u64 a)).setCell ⟨w.heap.size, 3, none⟩ (.int .u64 b))) := (((((Below.refl _ w).alloc (Nat.le_refl _) _).setCell (p := ⟨w.heap.size, 0, none⟩) (Nat.le_refl _) _).setCell (p := ⟨w.heap.size, 1, none⟩) (Nat.le_refl _) _).setCell (p := ⟨w.heap.size, 2, none⟩) (Nat.le_refl _) _).setCell (p := ⟨w.heap.size, 3, none⟩) (Nat.le_refl _) _
  have z0 := heap_cell (j := 0) hz rfl
  have z1 := heap_cell (j := 1) hz rfl
  have z2 := heap_cell (j := 2) hz rfl
  have z3 := heap_cell (j := 3) hz rfl
  have f0 := fz_of hz 0
  have f1 := fz_of hz 1
  have f2 := fz_of hz 2
  have f3 := fz_of hz 3
  have hs := heap_lt hz
  clear hz
  go_enter Tryz.func59, Tryz.ntmps59
  go_upto_region 1 with fail
  generalize w.alloc (.cells #[.int .u8 0, .int .u8 0, .int .u64 0, .int .u64 0] 55) = W at *
  go_wp2
  have x0 := HX.out 0
  have x1 := HX.out 1
  have x2 := HX.out 2
  have x3 := HX.out 3
  generalize ((((W.setCell ⟨w.heap.size, 0, none⟩ (.int .u8 1)).setCell ⟨w.heap.size, 1, none⟩ (.int .u8 0)).setCell ⟨w.heap.size, 2, none⟩ (.int .u64 a)).setCell ⟨w.heap.size, 3, none⟩ (.int .u64 b)) = wE at *
  exact bodyPost_ret (v := .agg #[.int .u8 1, .int .u8 0, .int .u64 a, .int .u64 b]) (by simp [results, Tryz.results59, go_sem] at *; simp [x0, x1, x2, x3]) rfl ⟨rfl, HB.out⟩
/-- The example's heap. -/
def exH : List Cl := [⟨1, 0, 40, 1⟩, ⟨1, 0, 1, 1⟩, ⟨1, 0, 8, 56⟩, ⟨1, 0, 21, 1⟩]
theorem row_kept {w w' : World} {b : Nat} {o : Obj} {P : Prop} (_ : P) (h : w.heap[b]? = some o) (hb : Below w.heap.size w w') : w'.heap[b]? = some o := (hb.block b (heap_lt h)).trans h
theorem keepE {w W W' : World} (hb : Below W.heap.size W W') (h : (W.cell? ⟨w.heap.size, 0, none⟩ = some (.int .u64 8) ∧ W.cell? ⟨w.heap.size, 2, none⟩ = some (.int .u64 40) ∧ W.cell? ⟨w.heap.size, 3, none⟩ = some (.int .u64 56)) ∧ w.heap.size < W.heap.size ∧ Below w.heap.size w W) : (W'.cell? ⟨w.heap.size, 0, none⟩ = some (.int .u64 8) ∧ W'.cell? ⟨w.heap.size, 2, none⟩ = some (.int .u64 40) ∧ W'.cell? ⟨w.heap.size, 3, none⟩ = some (.int .u64 56)) ∧ w.heap.size < W'.heap.size ∧ Below w.heap.size w W' := by
  obtain ⟨⟨h1, h2, h3⟩, h4, h5⟩ := h
  have e := fun q => hb.cell (p := ⟨w.heap.size, q, none⟩) h4
  exact ⟨⟨(e 0).trans h1, (e 2).trans h2, (e 3).trans h3⟩, Nat.lt_of_lt_of_le h4 hb.size, h5.trans (hb.mono (by omega))⟩
set_option maxRecDepth 100000 in
set_option maxHeartbeats 8000000 in
theorem example_any (w : World) :
    Calls Tryz.prog 19 #[] w fun e w' => (∃ g, w.heap.size ≤ g ∧ e = .returned (.slice (some ⟨g, 0, none⟩) 4 4) ∧ w'.heap[g]? = some (.cells (clCells exH).toArray 55 (0, 0))) ∧ Below w.heap.size w w' := by
  have HM : Hid (∀ w, Calls Tryz.prog 58 #[.int .u8 1, .int .i64 0] w fun e w' => e = .returned (.tuple #[.int .u64 1, .int .i64 0]) ∧ w' = w) := fun w => refMake_any 1 0 w (by omega) (by omega)
  have H0 : Hid (∀ w, Calls Tryz.prog 20 #[.int .i64 0] w fun e w' => e = .returned (.int .u64 8) ∧ w' = w) := fun w => refRef_any 0 w
  have H1 : Hid (∀ w, Calls Tryz.prog 20 #[.int .i64 1] w fun e w' => e = .returned (.int .u64 24) ∧ w' = w) := fun w => refRef_any 1 w
  have H2 : Hid (∀ w, Calls Tryz.prog 20 #[.int .i64 2] w fun e w' => e = .returned (.int .u64 40) ∧ w' = w) := fun w => refRef_any 2 w
  have H3 : Hid (∀ w, Calls Tryz.prog 20 #[.int .i64 3] w fun e w' => e = .returned (.int .u64 56) ∧ w' = w) := fun w => refRef_any 3 w
  have HI : Hid (∀ w, Calls Tryz.prog 60 #[.int .i64 1] w fun e w' => e = .returned (.int .u64 21) ∧ w' = w) := fun w => refInt_any 1 w
  go_enter Tryz.func19, Tryz.ntmps19
  go_wp2_with (first
    | (go_at_call_of 58 (Value.int IntKind.u8 1); refine (HM.out _).mono ?_; rintro e w9 ⟨rfl, hw9⟩; rw [hw9]; clear hw9)
    | (go_at_call_of 20 (Value.int IntKind.i64 0); refine (H0.out _).mono ?_; rintro e w9 ⟨rfl, hw9⟩; rw [hw9]; clear hw9)
    | (go_at_call_of 20 (Value.int IntKind.i64 1); refine (H1.out _).mono ?_; rintro e w9 ⟨rfl, hw9⟩; rw [hw9]; clear hw9)
    | (go_at_call_of 20 (Value.int IntKind.i64 2); refine (H2.out _).mono ?_; rintro e w9 ⟨rfl, hw9⟩; rw [hw9]; clear hw9)
    | (go_at_call_of 20 (Value.int IntKind.i64 3); refine (H3.out _).mono ?_; rintro e w9 ⟨rfl, hw9⟩; rw [hw9]; clear hw9))
  have hn := heap_alloc_new w (.cells #[.int .u64 8, .int .u64 24, .int .u64 40, .int .u64 56] 53)
  have hW : Below w.heap.size w (w.alloc (.cells #[.int .u64 8, .int .u64 24, .int .u64 40, .int .u64 56] 53)).drew := ((Below.refl _ w).alloc (Nat.le_refl _) _).drew
  have r0 : (w.alloc (.cells #[.int .u64 8, .int .u64 24, .int .u64 40, .int .u64 56] 53)).drew.cell? ⟨w.heap.size, 0, none⟩ = some (.int .u64 8) := heap_cell hn rfl
  have r2 : (w.alloc (.cells #[.int .u64 8, .int .u64 24, .int .u64 40, .int .u64 56] 53)).drew.cell? ⟨w.heap.size, 2, none⟩ = some (.int .u64 40) := heap_cell hn rfl
  have r3 : (w.alloc (.cells #[.int .u64 8, .int .u64 24, .int .u64 40, .int .u64 56] 53)).drew.cell? ⟨w.heap.size, 3, none⟩ = some (.int .u64 56) := heap_cell hn rfl
  have rs : w.heap.size < (w.alloc (.cells #[.int .u64 8, .int .u64 24, .int .u64 40, .int .u64 56] 53)).drew.heap.size := heap_lt hn
  clear hn
  go_region_held3 (fun wx => (wx.cell? ⟨w.heap.size, 0, none⟩ = some (.int .u64 8) ∧ wx.cell? ⟨w.heap.size, 2, none⟩ = some (.int .u64 40) ∧ wx.cell? ⟨w.heap.size, 3, none⟩ = some (.int .u64 56)) ∧ w.heap.size < wx.heap.size ∧ Below w.heap.size w wx) (first | exact ⟨⟨r0, r2, r3⟩, rs, hW⟩ | exact keepE hb1 (by go_keep) | exact keepE hb2 (by go_keep) | exact keepE hb3 (by go_keep) | exact keepE hb4 (by go_keep) | exact keepE (w := w) ((Below.refl _ w1).alloc (Nat.le_refl _) _) (by go_keep) | exact keepE (w := w) ((Below.refl _ w2).alloc (Nat.le_refl _) _) (by go_keep) | exact keepE (w := w) ((Below.refl _ w3).alloc (Nat.le_refl _) _) (by go_keep) | exact keepE (w := w) ((Below.refl _ w4).alloc (Nat.le_refl _) _) (by go_keep) | go_keep)
    (first
      | (go_at_call_of 59 (Value.int IntKind.u64 40); refine (pair_any 40 1 _).mono ?_; rintro e w1 ⟨rfl, hb1⟩)
      | (go_at_call_of 59 (Value.int IntKind.u64 8); refine (pair_any 8 56 _).mono ?_; rintro e w3 ⟨rfl, hb3⟩)
      | (go_at_call_of 59 (Value.int IntKind.u64 21); refine (pair_any 21 1 _).mono ?_; rintro e w4 ⟨rfl, hb4⟩)
      | (go_at_call_of 60 (Value.int IntKind.i64 1); refine (HI.out _).mono ?_; rintro e w9 ⟨rfl, hw9⟩; rw [hw9]; clear hw9)
      | (go_at_call_of 59 (Value.int IntKind.u64 1); refine (pair_any 1 1 _).mono ?_; rintro e w2 ⟨rfl, hb2⟩))
  have b1 := hW.trans (hb1.mono hW.size)
  have b2 := b1.trans (hb2.mono b1.size)
  have b3 := b2.trans (hb3.mono b2.size)
  have b4 := b3.trans (hb4.mono b3.size)
  have HE : Hid ((w4.alloc (.cells (clCells exH).toArray 55)).heap[w4.heap.size]? = some (.cells (clCells exH).toArray 55 (0, 0)) ∧ Below w.heap.size w (w4.alloc (.cells (clCells exH).toArray 55))) := ⟨heap_alloc_new _ _, b4.alloc b4.size _⟩
  have hs4 := b4.size
  clear hb1 hb2 hb3 hb4 b1 b2 b3 b4 r0 r2 r3 rs hW
  go_wp2
  go_ret
  exact ⟨⟨w4.heap.size, hs4, rfl, HE.out.1⟩, HE.out.2⟩
end Go.Proofs.YtdcmkifljcdmmaaGreatDoor

/- The example, reckoned. -/
namespace Go.Proofs.YtdcmkifljcdmmaaGreatDoor
open Go.RowKit

theorem ex_walk : walkM exH false [8] = [(0, -1), (2, 0), (3, 2)] := by kernel_rfl
theorem ex_walkT : walkM exH true [8] = [(0, -1), (2, 0), (3, 2)] := by kernel_rfl
theorem ex_heap : heapB exH [8] = true := by kernel_rfl
theorem ex_bad : chkV 2 (exH.take 2) 0 = .tuple #[.int .i64 100, .int .i64 0] := by kernel_rfl
theorem ex_form : clCells (formH exH [(0, -1), (2, 0), (3, 2)]) = clCells [⟨1, 0, 24, 1⟩, ⟨1, 0, 8, 40⟩, ⟨1, 0, 21, 1⟩] := by kernel_rfl
theorem ex_root : movedM ([(0, -1), (2, 0), (3, 2)].map (fun p : Nat × Int => p.1)) 8 = 8 := by kernel_rfl
theorem ex_chain : chain [(0, -1), (2, 0), (3, 2)] 4 3 = [3, 2, 0] := by kernel_rfl
theorem ex_not : aheadM [(0, -1), (2, 0), (3, 2)] 1 = -2 := by kernel_rfl
theorem ex_is : aheadM [(0, -1), (2, 0), (3, 2)] 3 = 2 := by kernel_rfl
theorem ex_met : (List.range 4).map (metB [(0, -1), (2, 0), (3, 2)]) = [true, false, true, true] := by kernel_rfl
end Go.Proofs.YtdcmkifljcdmmaaGreatDoor

/- known: the chapter's first example. -/
namespace Go.Proofs.YtdcmkifljcdmmaaGreatDoor
open Go.RowKit

/-- The example's heap lies there. -/
def ExW (w : World) (g : Nat) : Prop := w.heap[g]? = some (.cells (clCells exH).toArray 55 (0, 0)) ∧ Tab w
theorem ExW.below {w w' : World} {g : Nat} (h : ExW w g) (hb : Below w.heap.size w w') : ExW w' g := ⟨(hb.block _ (heap_lt h.1)).trans h.1, h.2.below hb⟩
theorem exOk : ∀ x ∈ exH, OkK x := by
  intro x hx
  simp only [exH, List.mem_cons, List.not_mem_nil, or_false] at hx
  rcases hx with rfl | rfl | rfl | rfl <;> exact ⟨by decide, by decide, by unfold Rng; decide, by unfold Rng; decide⟩
theorem hr_cells {w : World} {g : Nat} {l : List Cl} (h : w.heap[g]? = some (.cells (clCells l).toArray 55 (0, 0))) : HX w (some ⟨g, 0, none⟩) l := by
  refine ⟨g, 0, .inr rfl, fun j x hx => ⟨heap_lt h, ?_⟩⟩
  obtain ⟨h0, h1, h2, h3⟩ := clCells_at l j x hx
  simp only [Nat.zero_add]
  exact ⟨heap_cell h (by simpa using h0), heap_cell h (by simpa using h1), heap_cell h (by simpa using h2), heap_cell h (by simpa using h3)⟩
theorem HX.hr {w : World} {ra : Option Addr} {l : List Cl} (h : HX w ra l) (hk : ∀ x ∈ l, OkK x) : HR w ra l := by
  obtain ⟨b, o, h1, h2⟩ := h
  exact ⟨b, o, h1, fun j x hx => ⟨(h2 j x hx).1, (h2 j x hx).2, hk x (List.mem_of_getElem? hx)⟩⟩
theorem ExW.hr {w : World} {g : Nat} (h : ExW w g) : HR w (some ⟨g, 0, none⟩) exH := (hr_cells h.1).hr exOk
theorem ExW.hr2 {w : World} {g : Nat} (h : ExW w g) : HR w (some ⟨g, 0, none⟩) (exH.take 2) := by
  obtain ⟨b, o, h1, h2⟩ := h.hr
  refine ⟨b, o, .inr (h1.resolve_left (by decide)), fun j x hx => h2 j x ?_⟩
  have := (List.getElem?_eq_some_iff.1 hx).1
  rw [List.length_take] at this
  rw [List.getElem?_take_of_lt (by omega)] at hx
  exact hx
theorem wr_new (w : World) : WR (w.alloc (.cells #[.int .u64 8] 53)) (some ⟨w.heap.size, 0, none⟩) [8] :=
  ⟨w.heap.size, 0, .inr rfl, fun j x hx => ⟨by simp, by rw [Nat.zero_add]; exact new_cell _ _ _ j _ (by
    match j, hx with
    | 0, hx => simpa using hx
    | j + 1, hx => simp at hx), by
    have : x = 8 := by
      match j, hx with
      | 0, hx => simpa using hx.symm
      | j + 1, hx => simp at hx
    subst this; unfold Rng; decide⟩⟩
theorem al_below (w : World) (o : Obj) : Below w.heap.size w (w.alloc o) := (Below.refl _ w).alloc (Nat.le_refl _) _
abbrev RO : Obj := .cells #[.int .u64 8] 53
theorem dr_rx {α : Type} {enc : α → Value} {w : World} {t g n : Nat} {P : Nat → Value → Prop} {l : List α} (h : DR w t g n P) (hl : l.length ≤ n) (hP : ∀ k u x, P k u → l[k]? = some x → u = enc x) : RX enc w (some ⟨g, 0, none⟩) l := by
  refine ⟨g, 0, .inr rfl, fun j x hx => ⟨h.lt, ?_⟩⟩
  have := (List.getElem?_eq_some_iff.1 hx).1
  obtain ⟨u, hu, hu2⟩ := h.cell (j := j) (by omega)
  rw [Nat.zero_add, hu, hP j u x hu2 hx]
theorem own_rx {α : Type} {enc : α → Value} {w : World} {B t n c : Nat} {ra : Option Addr} {l : List α} (h : w.ownsRow B t 1 (.slice ra n c) n (l.map enc)) (hl : l.length = n) : RX enc w ra l := by
  rcases h.2 with ⟨h0, h1⟩ | ⟨g, cap, cur, hv, _⟩
  · exact ⟨0, 0, .inl (by omega), fun j x hx => by
      have := (List.getElem?_eq_some_iff.1 hx).1
      omega⟩
  · cases hv
    refine ⟨g, 0, .inr rfl, fun j x hx => ⟨(h.lt g rfl).2, ?_⟩⟩
    have := h.cells rfl j (enc x) (by rw [List.getElem?_map, hx]; rfl)
    rwa [ad_add] at this
theorem known_reach {w : World} {g : Nat} (h : ExW w g) : Calls Tryz.prog 21 #[.slice (some ⟨g, 0, none⟩) 4 4, .slice (some ⟨w.heap.size, 0, none⟩) 1 1] (w.alloc RO) fun e w' => (∃ gr, e = .returned (.tuple #[.slice (some ⟨gr, 0, none⟩) 4 4, .int .i64 0]) ∧ RX Value.bool w' (some ⟨gr, 0, none⟩) [true, false, true, true]) ∧ Below w.heap.size w w' := by
  have hx := h.below (al_below w RO)
  refine (reach_any exH [8] _ _ 4 1 _ hx.hr (wr_new w) hx.2 (by decide) (by decide)).mono ?_
  rintro e w' ⟨hr, hb⟩
  refine ⟨?_, (al_below w RO).trans (hb.mono (al_below w RO).size)⟩
  rcases hr with ⟨h1, _⟩ | ⟨_, gr, _, rfl, hd⟩
  · rw [ex_heap] at h1; cases h1
  · refine ⟨gr, rfl, dr_rx hd (by decide) (fun k u x hu hx => ?_)⟩
    rw [ex_walk] at hu
    have hk := (List.getElem?_eq_some_iff.1 hx).1
    have e2 : ((List.range 4).map (metB [(0, -1), (2, 0), (3, 2)]))[k]? = some x := by rw [ex_met]; exact hx
    rw [List.getElem?_map, List.getElem?_range (by simpa using hk)] at e2
    rw [hu, ← Option.some.inj e2]
theorem known_order {w : World} {g : Nat} (h : ExW w g) : Calls Tryz.prog 22 #[.slice (some ⟨g, 0, none⟩) 4 4, .slice (some ⟨w.heap.size, 0, none⟩) 1 1] (w.alloc RO) fun e w' => (∃ rv cv, e = .returned (.tuple #[.slice rv 3 cv, .int .i64 0]) ∧ RX (Value.int .i64) w' rv [0, 2, 3]) ∧ Below w.heap.size w w' := by
  have hx := h.below (al_below w RO)
  refine (order_any exH [8] _ _ 4 1 _ hx.hr (wr_new w) hx.2 (by decide) (by decide)).mono ?_
  rintro e w' ⟨hr, hb⟩
  refine ⟨?_, (al_below w RO).trans (hb.mono (al_below w RO).size)⟩
  rcases hr with ⟨h1, _⟩ | ⟨_, rv, cv, rfl, ho⟩
  · rw [ex_heap] at h1; cases h1
  · rw [ex_walk] at ho ⊢
    exact ⟨rv, cv, rfl, own_rx (l := [0, 2, 3]) ho rfl⟩
theorem known_form {w : World} {g : Nat} (h : ExW w g) : Calls Tryz.prog 23 #[.slice (some ⟨g, 0, none⟩) 4 4, .slice (some ⟨w.heap.size, 0, none⟩) 1 1] (w.alloc RO) fun e w' => (∃ g1 g2, e = .returned (.tuple #[.slice (some ⟨g1, 0, none⟩) 3 3, .slice (some ⟨g2, 0, none⟩) 1 1, .int .i64 0]) ∧ HX w' (some ⟨g1, 0, none⟩) [⟨1, 0, 24, 1⟩, ⟨1, 0, 8, 40⟩, ⟨1, 0, 21, 1⟩] ∧ RX (Value.int .u64) w' (some ⟨g2, 0, none⟩) [8]) ∧ Below w.heap.size w w' := by
  have hx := h.below (al_below w RO)
  refine (form_any exH [8] _ _ 4 1 _ hx.hr (wr_new w) hx.2 (by decide) (by decide)).mono ?_
  rintro e w' ⟨hr, hb⟩
  refine ⟨?_, (al_below w RO).trans (hb.mono (al_below w RO).size)⟩
  rcases hr with ⟨h1, _⟩ | ⟨_, g1, g2, _, rfl, hd1, hd2⟩
  · rw [ex_heap] at h1; cases h1
  · rw [ex_walk] at hd1 hd2 ⊢
    rw [ex_form] at hd1
    refine ⟨g1, g2, rfl, ?_, dr_rx hd2 (by decide) (fun k u x hu hx => ?_)⟩
    · refine ⟨g1, 0, .inr rfl, fun j x hx => ⟨hd1.lt, ?_⟩⟩
      have hj := (List.getElem?_eq_some_iff.1 hx).1
      simp only [List.length_cons, List.length_nil] at hj
      obtain ⟨h0, h1, h2, h3⟩ := clCells_at _ j x hx
      simp only [Nat.zero_add]
      have e := fun q (v : Value) (hq : (clCells [⟨1, 0, 24, 1⟩, ⟨1, 0, 8, 40⟩, ⟨1, 0, 21, 1⟩])[q]? = some v) => show w'.cell? ⟨g1, q, none⟩ = some v by
        obtain ⟨u, hu, hu2⟩ := hd1.cell (j := q) (by have := (List.getElem?_eq_some_iff.1 hq).1; simpa [clCells] using this)
        rw [hu]; rw [hq] at hu2; exact hu2.symm
      exact ⟨e _ _ h0, e _ _ h1, e _ _ h2, e _ _ h3⟩
    · have := hu x hx
      rw [this]
      have h8 : x = 8 := by
        match k, hx with
        | 0, hx => simpa using hx.symm
        | k + 1, hx => simp at hx
      subst h8
      rw [ex_root]
theorem known_path {w : World} {g : Nat} (h : ExW w g) : Calls Tryz.prog 15 #[.slice (some ⟨g, 0, none⟩) 4 4, .int .i64 3, .slice (some ⟨w.heap.size, 0, none⟩) 1 1] (w.alloc RO) fun e w' => (∃ gp cp, e = .returned (.tuple #[.slice (some ⟨gp, 0, none⟩) 3 cp, .bool true, .int .i64 0]) ∧ RX (Value.int .i64) w' (some ⟨gp, 0, none⟩) [0, 2, 3]) ∧ Below w.heap.size w w' := by
  have hx := h.below (al_below w RO)
  refine (path_any exH [8] [8] 3 _ _ 4 1 _ (sortOk_few [8] (by decide) len_ok) mul_ok rev_ok hx.hr (wr_new w) hx.2 (by decide) (by decide) [(0, -1), (2, 0), (3, 2)] ex_walkT.symm).mono ?_
  rintro e w' ⟨hr, hb⟩
  refine ⟨?_, (al_below w RO).trans (hb.mono (al_below w RO).size)⟩
  rcases hr with ⟨h1, _⟩ | ⟨_, h1, _⟩ | ⟨_, _, gp, cp, _, hc, rfl, hd⟩
  · exact absurd ⟨ex_heap, by decide, by decide⟩ h1
  · rw [show (3 : Int).toNat = 3 from rfl, ex_is] at h1; cases h1
  · rw [show [((0 : Nat), (-1 : Int)), (2, 0), (3, 2)].length + 1 = 4 from rfl, ex_chain] at hc hd ⊢
    exact ⟨gp, cp, rfl, dr_rx hd hc (fun k u x hu hx => hu x hx)⟩
theorem known_none {w : World} {g : Nat} (h : ExW w g) : Calls Tryz.prog 15 #[.slice (some ⟨g, 0, none⟩) 4 4, .int .i64 1, .slice (some ⟨w.heap.size, 0, none⟩) 1 1] (w.alloc RO) fun e w' => e = .returned (.tuple #[.slice none 0 0, .bool false, .int .i64 0]) ∧ Below w.heap.size w w' := by
  have hx := h.below (al_below w RO)
  refine (path_any exH [8] [8] 1 _ _ 4 1 _ (sortOk_few [8] (by decide) len_ok) mul_ok rev_ok hx.hr (wr_new w) hx.2 (by decide) (by decide) [(0, -1), (2, 0), (3, 2)] ex_walkT.symm).mono ?_
  rintro e w' ⟨hr, hb⟩
  refine ⟨?_, (al_below w RO).trans (hb.mono (al_below w RO).size)⟩
  rcases hr with ⟨h1, _⟩ | ⟨_, _, he⟩ | ⟨_, h1, _⟩
  · exact absurd ⟨ex_heap, by decide, by decide⟩ h1
  · exact he
  · exact absurd ex_not h1
theorem known_check {w : World} {g : Nat} (h : ExW w g) : Calls Tryz.prog 24 #[.slice (some ⟨g, 0, none⟩) 2 4] w fun e w' => e = .returned (.tuple #[.int .i64 100, .int .i64 0]) ∧ Below w.heap.size w w' := by
  refine (check_any (exH.take 2) _ 4 w h.hr2 (by decide) h.2).mono ?_
  rintro e w' ⟨he, hb⟩
  exact ⟨he.trans (congrArg Ending.returned ex_bad), hb⟩
end Go.Proofs.YtdcmkifljcdmmaaGreatDoor
