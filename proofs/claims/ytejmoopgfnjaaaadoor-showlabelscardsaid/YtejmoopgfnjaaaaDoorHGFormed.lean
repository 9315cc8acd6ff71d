/- A cell as it stands in a heap of what is reached alone: formed. -/
import Derived.Test.YtejmoopgfnjaaaaDoorK03
namespace Go.Proofs.YtejmoopgfnjaaaaDoor
open Go.RowKit

def formedM (row : List Nat) (x : Cl) : Cl := if x.k = 0 then ⟨0, 0, 0, 0⟩ else ⟨x.k, 0, movedM row x.a, movedM row x.b⟩
theorem four_cells {W : World} {b : Nat} (h : W.heap[b]? = some (.cells #[.int .u8 0, .int .u8 0, .int .u64 0, .int .u64 0] 39)) (u0 u1 u2 u3 : Value) (k : Nat) : ((((W.setCell ⟨b, 0, none⟩ u0).setCell ⟨b, 1, none⟩ u1).setCell ⟨b, 2, none⟩ u2).setCell ⟨b, 3, none⟩ u3).cell? ⟨b, k, none⟩ = [u0, u1, u2, u3][k]? := by
  have h3 := set_atC (j := 3) (set_atC (j := 2) (set_atC (j := 1) (set_atC (j := 0) h u0) u1) u2) u3
  simp only [World.cell?, h3]
  simp
set_option maxRecDepth 100000 in
set_option maxHeartbeats 8000000 in
theorem formed_any {pb g n : Nat} (row : List Nat) (x : Cl) (w : World) (hV : MV w pb g n row) (hk : OkK x) (hok : okCl n x = true) (hT : Tab w) :
    Calls Tryd.prog 45 #[cellV4 x, .func (.func 59) #[] #[.pointer (some ⟨pb, 0, none⟩)]] w fun e w' => e = .returned (cellV4 (formedM row x)) ∧ Below w.heap.size w w' := by
  have hal : Below w.heap.size w ((w.alloc (KO x)).alloc (.cells #[.int .u8 0, .int .u8 0, .int .u64 0, .int .u64 0] 39)) := ((Below.refl _ w).alloc (Nat.le_refl _) _).alloc (by simp) _
  have hz : ((w.alloc (KO x)).alloc (.cells #[.int .u8 0, .int .u8 0, .int .u64 0, .int .u64 0] 39)).heap[w.heap.size + 1]? = some (.cells #[.int .u8 0, .int .u8 0, .int .u64 0, .int .u64 0] 39) := by
    have := heap_alloc_new (w.alloc (KO x)) (.cells #[.int .u8 0, .int .u8 0, .int .u64 0, .int .u64 0] 39)
    rwa [World.size_alloc] at this
  have hb0 : ((w.alloc (KO x)).alloc (.cells #[.int .u8 0, .int .u8 0, .int .u64 0, .int .u64 0] 39)).heap[w.heap.size]? = some (KO x) := (Below.heap_alloc _ _ _ (by simp)).trans (heap_alloc_new _ _)
  have HW : Hid (Below w.heap.size w ((w.alloc (KO x)).alloc (.cells #[.int .u8 0, .int .u8 0, .int .u64 0, .int .u64 0] 39))) := hal
  have HZ : Hid (((w.alloc (KO x)).alloc (.cells #[.int .u8 0, .int .u8 0, .int .u64 0, .int .u64 0] 39)).heap[w.heap.size + 1]? = some (.cells #[.int .u8 0, .int .u8 0, .int .u64 0, .int .u64 0] 39)) := hz
  have a0 : ((w.alloc (KO x)).alloc (.cells #[.int .u8 0, .int .u8 0, .int .u64 0, .int .u64 0] 39)).cell? ⟨w.heap.size, 0, none⟩ = some (.int .u8 x.k) := heap_cell hb0 rfl
  have a2 : ((w.alloc (KO x)).alloc (.cells #[.int .u8 0, .int .u8 0, .int .u64 0, .int .u64 0] 39)).cell? ⟨w.heap.size, 2, none⟩ = some (.int .u64 x.a) := heap_cell hb0 rfl
  have a3 : ((w.alloc (KO x)).alloc (.cells #[.int .u8 0, .int .u8 0, .int .u64 0, .int .u64 0] 39)).cell? ⟨w.heap.size, 3, none⟩ = some (.int .u64 x.b) := heap_cell hb0 rfl
  have z0 : ((w.alloc (KO x)).alloc (.cells #[.int .u8 0, .int .u8 0, .int .u64 0, .int .u64 0] 39)).cell? ⟨w.heap.size + 1, 0, none⟩ = some (.int .u8 0) := heap_cell hz rfl
  have z1 : ((w.alloc (KO x)).alloc (.cells #[.int .u8 0, .int .u8 0, .int .u64 0, .int .u64 0] 39)).cell? ⟨w.heap.size + 1, 1, none⟩ = some (.int .u8 0) := heap_cell hz rfl
  have z2 : ((w.alloc (KO x)).alloc (.cells #[.int .u8 0, .int .u8 0, .int .u64 0, .int .u64 0] 39)).cell? ⟨w.heap.size + 1, 2, none⟩ = some (.int .u64 0) := heap_cell hz rfl
  have z3 : ((w.alloc (KO x)).alloc (.cells #[.int .u8 0, .int .u8 0, .int .u64 0, .int .u64 0] 39)).cell? ⟨w.heap.size + 1, 3, none⟩ = some (.int .u64 0) := heap_cell hz rfl
  have f0 := fz_of hz 0
  have f1 := fz_of hz 1
  have f2 := fz_of hz 2
  have f3 := fz_of hz 3
  have hs : w.heap.size + 1 < ((w.alloc (KO x)).alloc (.cells #[.int .u8 0, .int .u8 0, .int .u64 0, .int .u64 0] 39)).heap.size := heap_lt hz
  have HA : Hid (x.k ≠ 0 → ∀ w5 : World, Below w.heap.size w w5 → Calls Tryd.prog 59 #[.int .u64 x.a, .pointer (some ⟨pb, 0, none⟩)] w5 fun e w' => e = .returned (.int .u64 (movedM row x.a)) ∧ w' = w5) := fun h0 w5 h5 => mover1_any row x.a w5 (hV.below h5) (own_fits false hok h0).1 hk.a (hT.below h5)
  have HB : Hid (x.k ≠ 0 → ∀ w5 : World, Below w.heap.size w w5 → Calls Tryd.prog 59 #[.int .u64 x.b, .pointer (some ⟨pb, 0, none⟩)] w5 fun e w' => e = .returned (.int .u64 (movedM row x.b)) ∧ w' = w5) := fun h0 w5 h5 => mover1_any row x.b w5 (hV.below h5) (own_fits false hok h0).2 hk.b (hT.below h5)
  have hmx : Tryd.prog.follows .mixedOrders = true := by kernel_rfl
  clear hal hz hb0 hV hk hok hT
  unfold cellV4
  cases h0 : (x.k == 0)
  · have HF : Hid (formedM row x = ⟨x.k, 0, movedM row x.a, movedM row x.b⟩) := by show _ = _; unfold formedM; rw [if_neg (by simpa using h0)]
    have hne : x.k ≠ 0 := by simpa using h0
    have HA' := HA.out hne
    have HB' := HB.out hne
    have HA2 : Hid (∀ w5 : World, Below w.heap.size w w5 → Calls Tryd.prog 59 #[.int .u64 x.a, .pointer (some ⟨pb, 0, none⟩)] w5 fun e w' => e = .returned (.int .u64 (movedM row x.a)) ∧ w' = w5) := HA'
    have HB2 : Hid (∀ w5 : World, Below w.heap.size w w5 → Calls Tryd.prog 59 #[.int .u64 x.b, .pointer (some ⟨pb, 0, none⟩)] w5 fun e w' => e = .returned (.int .u64 (movedM row x.b)) ∧ w' = w5) := HB'
    clear HA HB HA' HB' hne
    rw [HF.out]
    generalize movedM row x.a = A at *
    generalize movedM row x.b = B at *
    clear HF
    go_enter Tryd.func45, Tryd.ntmps45
    go_upto_region 1 with fail
    generalize ((w.alloc (KO x)).alloc (.cells #[.int .u8 0, .int .u8 0, .int .u64 0, .int .u64 0] 39)) = W at *
    have HX : Hid (∀ k, ((((W.setCell ⟨w.heap.size + 1, 0, none⟩ (.int .u8 x.k)).setCell ⟨w.heap.size + 1, 1, none⟩ (.int .u8 0)).setCell ⟨w.heap.size + 1, 2, none⟩ (.int .u64 A)).setCell ⟨w.heap.size + 1, 3, none⟩ (.int .u64 B)).cell? ⟨w.heap.size + 1, k, none⟩ = [Value.int .u8 x.k, Value.int .u8 0, Value.int .u64 A, Value.int .u64 B][k]?) := fun k => four_cells HZ.out _ _ _ _ k
    have HBe : Hid (Below w.heap.size w ((((W.setCell ⟨w.heap.size + 1, 0, none⟩ (.int .u8 x.k)).setCell ⟨w.heap.size + 1, 1, none⟩ (.int .u8 0)).setCell ⟨w.heap.size + 1, 2, none⟩ (.int .u64 A)).setCell ⟨w.heap.size + 1, 3, none⟩ (.int .u64 B))) := (((HW.out.setCell (p := ⟨w.heap.size + 1, 0, none⟩) (Nat.le_succ _) _).setCell (p := ⟨w.heap.size + 1, 1, none⟩) (Nat.le_succ _) _).setCell (p := ⟨w.heap.size + 1, 2, none⟩) (Nat.le_succ _) _).setCell (p := ⟨w.heap.size + 1, 3, none⟩) (Nat.le_succ _) _
    go_wp2_with fail
    go_region_held3 (fun wx => wx.cell? ⟨w.heap.size, 0, none⟩ = some (.int .u8 x.k) ∧ wx.cell? ⟨w.heap.size, 2, none⟩ = some (.int .u64 x.a) ∧ wx.cell? ⟨w.heap.size, 3, none⟩ = some (.int .u64 x.b)) (first | go_keep)
      (first | (go_at_call_of 59 (Value.int IntKind.u64 x.a); refine (HA2.out _ HW.out.drew).mono ?_; rintro e w' ⟨rfl, rfl⟩) | (go_at_call_of 59 (Value.int IntKind.u64 x.b); refine (HB2.out _ HW.out.drew).mono ?_; rintro e w' ⟨rfl, rfl⟩))
    all_goals
      have x0 := HX.out 0
      have x1 := HX.out 1
      have x2 := HX.out 2
      have x3 := HX.out 3
      generalize ((((W.setCell ⟨w.heap.size + 1, 0, none⟩ (.int .u8 x.k)).setCell ⟨w.heap.size + 1, 1, none⟩ (.int .u8 0)).setCell ⟨w.heap.size + 1, 2, none⟩ (.int .u64 A)).setCell ⟨w.heap.size + 1, 3, none⟩ (.int .u64 B)) = wE at *
      go_wp2
      exact bodyPost_ret (v := .agg #[.int .u8 x.k, .int .u8 0, .int .u64 A, .int .u64 B]) (by simp [results, Tryd.results45, go_sem] at *; simp [x0, x1, x2, x3]) rfl ⟨rfl, HBe.out.drew⟩
  · have HF : Hid (formedM row x = ⟨0, 0, 0, 0⟩) := by show _ = _; unfold formedM; rw [if_pos (by simpa using h0)]
    clear HA HB
    rw [HF.out]
    go_enter Tryd.func45, Tryd.ntmps45
    go_upto_region 1 with fail
    generalize ((w.alloc (KO x)).alloc (.cells #[.int .u8 0, .int .u8 0, .int .u64 0, .int .u64 0] 39)) = W at *
    have HX : Hid (∀ k, ((((W.setCell ⟨w.heap.size + 1, 0, none⟩ (.int .u8 0)).setCell ⟨w.heap.size + 1, 1, none⟩ (.int .u8 0)).setCell ⟨w.heap.size + 1, 2, none⟩ (.int .u64 0)).setCell ⟨w.heap.size + 1, 3, none⟩ (.int .u64 0)).cell? ⟨w.heap.size + 1, k, none⟩ = [Value.int .u8 0, Value.int .u8 0, Value.int .u64 0, Value.int .u64 0][k]?) := fun k => four_cells HZ.out _ _ _ _ k
    have HBe : Hid (Below w.heap.size w ((((W.setCell ⟨w.heap.size + 1, 0, none⟩ (.int .u8 0)).setCell ⟨w.heap.size + 1, 1, none⟩ (.int .u8 0)).setCell ⟨w.heap.size + 1, 2, none⟩ (.int .u64 0)).setCell ⟨w.heap.size + 1, 3, none⟩ (.int .u64 0))) := (((HW.out.setCell (p := ⟨w.heap.size + 1, 0, none⟩) (Nat.le_succ _) _).setCell (p := ⟨w.heap.size + 1, 1, none⟩) (Nat.le_succ _) _).setCell (p := ⟨w.heap.size + 1, 2, none⟩) (Nat.le_succ _) _).setCell (p := ⟨w.heap.size + 1, 3, none⟩) (Nat.le_succ _) _
    go_wp2
    have x0 := HX.out 0
    have x1 := HX.out 1
    have x2 := HX.out 2
    have x3 := HX.out 3
    generalize ((((W.setCell ⟨w.heap.size + 1, 0, none⟩ (.int .u8 0)).setCell ⟨w.heap.size + 1, 1, none⟩ (.int .u8 0)).setCell ⟨w.heap.size + 1, 2, none⟩ (.int .u64 0)).setCell ⟨w.heap.size + 1, 3, none⟩ (.int .u64 0)) = wE at *
    exact bodyPost_ret (v := .agg #[.int .u8 0, .int .u8 0, .int .u64 0, .int .u64 0]) (by simp [results, Tryd.results45, go_sem] at *; simp [x0, x1, x2, x3]) rfl ⟨rfl, HBe.out⟩
end Go.Proofs.YtejmoopgfnjaaaaDoor
