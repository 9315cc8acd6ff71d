/- The chapter's example: its heap. -/
import Derived.Test.YteekfahpbnbalaaDoorHGRev
import Derived.Test.YteekfahpbnbalaaDoorHGRefs
import Derived.Test.YteekfahpbnbalaaDoorHGSame
namespace Go.Proofs.YteekfahpbnbalaaDoor
open Go.RowKit

abbrev pairV (a b : Int) : Value := .agg #[.int .u8 1, .int .u8 0, .int .u64 a, .int .u64 b]
set_option maxRecDepth 100000 in
set_option maxHeartbeats 4000000 in
theorem pair_any (a b : Int) (w : World) :
    Calls Tryd.prog 17 #[.int .u64 a, .int .u64 b] w fun e w' => e = .returned (pairV a b) ∧ Below w.heap.size w w' := by
  have hz : (w.alloc (.cells #[.int .u8 0, .int .u8 0, .int .u64 0, .int .u64 0] 39)).heap[w.heap.size]? = some (.cells #[.int .u8 0, .int .u8 0, .int .u64 0, .int .u64 0] 39) := heap_alloc_new _ _
  have HX : Hid (∀ k, (((((w.alloc (.cells #[.int .u8 0, .int .u8 0, .int .u64 0, .int .u64 0] 39)).setCell ⟨w.heap.size, 0, none⟩ (.int .u8 1)).setCell ⟨w.heap.size, 1, none⟩ (.int .u8 0)).setCell ⟨w.heap.size, 2, none⟩ (.int .u64 a)).setCell ⟨w.heap.size, 3, none⟩ (.int .u64 b)).cell? ⟨w.heap.size, k, none⟩ = [Value.int .u8 1, Value.int .u8 0, Value.int .u64 a, Value.int .u64 b][k]?) := fun k => four_cells hz _ _ _ _ k
  have HB : Hid (Below w.heap.size w (((((w.alloc (.cells #[.int .u8 0, .int .u8 0, .int .u64 0, .int .u64 0] 39)).setCell ⟨w.heap.size, 0, none⟩ (.int .u8 1)).setCell ⟨w.heap.size, 1, none⟩ (.int .u8 0)).setCell ⟨w.heap.size, 2, none⟩ (.int .u64 a)).setCell ⟨w.heap.size, 3, none⟩ (.int .u64 b))) := (((((Below.refl _ w).alloc (Nat.le_refl _) _).setCell (p := ⟨w.heap.size, 0, none⟩) (Nat.le_refl _) _).setCell (p := ⟨w.heap.size, 1, none⟩) (Nat.le_refl _) _).setCell (p := ⟨w.heap.size, 2, none⟩) (Nat.le_refl _) _).setCell (p := ⟨w.heap.size, 3, none⟩) (Nat.le_refl _) _
  have z0 := heap_cell (j := 0) hz rfl
  have z1 := heap_cell (j := 1) hz rfl
  have z2 := heap_cell (j := 2) hz rfl
  have z3 := heap_cell (j := 3) hz rfl
  have f0 := fz_of hz 0
  have f1 := fz_of hz 1
  have f2 := fz_of hz 2
  have f3 := fz_of hz 3
  have hs := heap_lt hz
  clear hz
  go_enter Tryd.func17, Tryd.ntmps17
  go_upto_region 1 with fail
  generalize w.alloc (.cells #[.int .u8 0, .int .u8 0, .int .u64 0, .int .u64 0] 39) = W at *
  go_wp2
  have x0 := HX.out 0
  have x1 := HX.out 1
  have x2 := HX.out 2
  have x3 := HX.out 3
  generalize ((((W.setCell ⟨w.heap.size, 0, none⟩ (.int .u8 1)).setCell ⟨w.heap.size, 1, none⟩ (.int .u8 0)).setCell ⟨w.heap.size, 2, none⟩ (.int .u64 a)).setCell ⟨w.heap.size, 3, none⟩ (.int .u64 b)) = wE at *
  exact bodyPost_ret (v := .agg #[.int .u8 1, .int .u8 0, .int .u64 a, .int .u64 b]) (by simp [results, Tryd.results17, go_sem] at *; simp [x0, x1, x2, x3]) rfl ⟨rfl, HB.out⟩
/-- The example's heap. -/
def exH : List Cl := [⟨1, 0, 40, 1⟩, ⟨1, 0, 1, 1⟩, ⟨1, 0, 8, 56⟩, ⟨1, 0, 21, 1⟩]
theorem row_kept {w w' : World} {b : Nat} {o : Obj} {P : Prop} (_ : P) (h : w.heap[b]? = some o) (hb : Below w.heap.size w w') : w'.heap[b]? = some o := (hb.block b (heap_lt h)).trans h
theorem keepE {w W W' : World} (hb : Below W.heap.size W W') (h : (W.cell? ⟨w.heap.size, 0, none⟩ = some (.int .u64 8) ∧ W.cell? ⟨w.heap.size, 2, none⟩ = some (.int .u64 40) ∧ W.cell? ⟨w.heap.size, 3, none⟩ = some (.int .u64 56)) ∧ w.heap.size < W.heap.size ∧ Below w.heap.size w W) : (W'.cell? ⟨w.heap.size, 0, none⟩ = some (.int .u64 8) ∧ W'.cell? ⟨w.heap.size, 2, none⟩ = some (.int .u64 40) ∧ W'.cell? ⟨w.heap.size, 3, none⟩ = some (.int .u64 56)) ∧ w.heap.size < W'.heap.size ∧ Below w.heap.size w W' := by
  obtain ⟨⟨h1, h2, h3⟩, h4, h5⟩ := h
  have e := fun q => hb.cell (p := ⟨w.heap.size, q, none⟩) h4
  exact ⟨⟨(e 0).trans h1, (e 2).trans h2, (e 3).trans h3⟩, Nat.lt_of_lt_of_le h4 hb.size, h5.trans (hb.mono (by omega))⟩
set_option maxRecDepth 100000 in
set_option maxHeartbeats 8000000 in
theorem example_any (w : World) :
    Calls Tryd.prog 20 #[] w fun e w' => (∃ g, w.heap.size ≤ g ∧ e = .returned (.slice (some ⟨g, 0, none⟩) 4 4) ∧ w'.heap[g]? = some (.cells (clCells exH).toArray 39 (0, 0))) ∧ Below w.heap.size w w' := by
  have HM : Hid (∀ w, Calls Tryd.prog 35 #[.int .u8 1, .int .i64 0] w fun e w' => e = .returned (.tuple #[.int .u64 1, .int .i64 0]) ∧ w' = w) := fun w => refMake_any 1 0 w (by omega) (by omega)
  have H0 : Hid (∀ w, Calls Tryd.prog 18 #[.int .i64 0] w fun e w' => e = .returned (.int .u64 8) ∧ w' = w) := fun w => refRef_any 0 w
  have H1 : Hid (∀ w, Calls Tryd.prog 18 #[.int .i64 1] w fun e w' => e = .returned (.int .u64 24) ∧ w' = w) := fun w => refRef_any 1 w
  have H2 : Hid (∀ w, Calls Tryd.prog 18 #[.int .i64 2] w fun e w' => e = .returned (.int .u64 40) ∧ w' = w) := fun w => refRef_any 2 w
  have H3 : Hid (∀ w, Calls Tryd.prog 18 #[.int .i64 3] w fun e w' => e = .returned (.int .u64 56) ∧ w' = w) := fun w => refRef_any 3 w
  have HI : Hid (∀ w, Calls Tryd.prog 19 #[.int .i64 1] w fun e w' => e = .returned (.int .u64 21) ∧ w' = w) := fun w => refInt_any 1 w
  go_enter Tryd.func20, Tryd.ntmps20
  go_wp2_with (first
    | (go_at_call_of 35 (Value.int IntKind.u8 1); refine (HM.out _).mono ?_; rintro e w9 ⟨rfl, hw9⟩; rw [hw9]; clear hw9)
    | (go_at_call_of 18 (Value.int IntKind.i64 0); refine (H0.out _).mono ?_; rintro e w9 ⟨rfl, hw9⟩; rw [hw9]; clear hw9)
    | (go_at_call_of 18 (Value.int IntKind.i64 1); refine (H1.out _).mono ?_; rintro e w9 ⟨rfl, hw9⟩; rw [hw9]; clear hw9)
    | (go_at_call_of 18 (Value.int IntKind.i64 2); refine (H2.out _).mono ?_; rintro e w9 ⟨rfl, hw9⟩; rw [hw9]; clear hw9)
    | (go_at_call_of 18 (Value.int IntKind.i64 3); refine (H3.out _).mono ?_; rintro e w9 ⟨rfl, hw9⟩; rw [hw9]; clear hw9))
  have hn := heap_alloc_new w (.cells #[.int .u64 8, .int .u64 24, .int .u64 40, .int .u64 56] 35)
  have hW : Below w.heap.size w (w.alloc (.cells #[.int .u64 8, .int .u64 24, .int .u64 40, .int .u64 56] 35)).drew := ((Below.refl _ w).alloc (Nat.le_refl _) _).drew
  have r0 : (w.alloc (.cells #[.int .u64 8, .int .u64 24, .int .u64 40, .int .u64 56] 35)).drew.cell? ⟨w.heap.size, 0, none⟩ = some (.int .u64 8) := heap_cell hn rfl
  have r2 : (w.alloc (.cells #[.int .u64 8, .int .u64 24, .int .u64 40, .int .u64 56] 35)).drew.cell? ⟨w.heap.size, 2, none⟩ = some (.int .u64 40) := heap_cell hn rfl
  have r3 : (w.alloc (.cells #[.int .u64 8, .int .u64 24, .int .u64 40, .int .u64 56] 35)).drew.cell? ⟨w.heap.size, 3, none⟩ = some (.int .u64 56) := heap_cell hn rfl
  have rs : w.heap.size < (w.alloc (.cells #[.int .u64 8, .int .u64 24, .int .u64 40, .int .u64 56] 35)).drew.heap.size := heap_lt hn
  clear hn
  go_region_held3 (fun wx => (wx.cell? ⟨w.heap.size, 0, none⟩ = some (.int .u64 8) ∧ wx.cell? ⟨w.heap.size, 2, none⟩ = some (.int .u64 40) ∧ wx.cell? ⟨w.heap.size, 3, none⟩ = some (.int .u64 56)) ∧ w.heap.size < wx.heap.size ∧ Below w.heap.size w wx) (first | exact ⟨⟨r0, r2, r3⟩, rs, hW⟩ | exact keepE hb1 (by go_keep) | exact keepE hb2 (by go_keep) | exact keepE hb3 (by go_keep) | exact keepE hb4 (by go_keep) | exact keepE (w := w) ((Below.refl _ w1).alloc (Nat.le_refl _) _) (by go_keep) | exact keepE (w := w) ((Below.refl _ w2).alloc (Nat.le_refl _) _) (by go_keep) | exact keepE (w := w) ((Below.refl _ w3).alloc (Nat.le_refl _) _) (by go_keep) | exact keepE (w := w) ((Below.refl _ w4).alloc (Nat.le_refl _) _) (by go_keep) | go_keep)
    (first
      | (go_at_call_of 17 (Value.int IntKind.u64 40); refine (pair_any 40 1 _).mono ?_; rintro e w1 ⟨rfl, hb1⟩)
      | (go_at_call_of 17 (Value.int IntKind.u64 8); refine (pair_any 8 56 _).mono ?_; rintro e w3 ⟨rfl, hb3⟩)
      | (go_at_call_of 17 (Value.int IntKind.u64 21); refine (pair_any 21 1 _).mono ?_; rintro e w4 ⟨rfl, hb4⟩)
      | (go_at_call_of 19 (Value.int IntKind.i64 1); refine (HI.out _).mono ?_; rintro e w9 ⟨rfl, hw9⟩; rw [hw9]; clear hw9)
      | (go_at_call_of 17 (Value.int IntKind.u64 1); refine (pair_any 1 1 _).mono ?_; rintro e w2 ⟨rfl, hb2⟩))
  have b1 := hW.trans (hb1.mono hW.size)
  have b2 := b1.trans (hb2.mono b1.size)
  have b3 := b2.trans (hb3.mono b2.size)
  have b4 := b3.trans (hb4.mono b3.size)
  have HE : Hid ((w4.alloc (.cells (clCells exH).toArray 39)).heap[w4.heap.size]? = some (.cells (clCells exH).toArray 39 (0, 0)) ∧ Below w.heap.size w (w4.alloc (.cells (clCells exH).toArray 39))) := ⟨heap_alloc_new _ _, b4.alloc b4.size _⟩
  have hs4 := b4.size
  clear hb1 hb2 hb3 hb4 b1 b2 b3 b4 r0 r2 r3 rs hW
  go_wp2
  go_ret
  exact ⟨⟨w4.heap.size, hs4, rfl, HE.out.1⟩, HE.out.2⟩
end Go.Proofs.YteekfahpbnbalaaDoor
