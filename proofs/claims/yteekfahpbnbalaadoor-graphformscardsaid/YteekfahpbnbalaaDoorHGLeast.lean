/- A cell's lesser word first; who is ahead. -/
import Derived.Test.YteekfahpbnbalaaDoorHGWalk
namespace Go.Proofs.YteekfahpbnbalaaDoor
open Go.RowKit

set_option maxRecDepth 100000 in
set_option maxHeartbeats 4000000 in
theorem least_lt (x : Cl) (w : World) (hle : x.a < x.b) :
    Calls Tryd.prog 44 #[cellV4 x] w fun e w' => e = .returned (.agg #[.int .u64 x.a, .int .u64 x.b]) ∧ Below w.heap.size w w' := by
  have hal : Below w.heap.size w ((w.alloc (KO x)).alloc Z2) := ((Below.refl _ w).alloc (Nat.le_refl _) _).alloc (by simp) _
  have hz : ((w.alloc (KO x)).alloc Z2).heap[w.heap.size + 1]? = some Z2 := by
    have := heap_alloc_new (w.alloc (KO x)) Z2
    rwa [World.size_alloc] at this
  have hb0 : ((w.alloc (KO x)).alloc Z2).heap[w.heap.size]? = some (KO x) := (Below.heap_alloc _ _ _ (by simp)).trans (heap_alloc_new _ _)
  have x0 := two_cells hz (.int .u64 x.a) (.int .u64 x.b) 0
  have x1 := two_cells hz (.int .u64 x.a) (.int .u64 x.b) 1
  have HX : Hid ((((((w.alloc (KO x)).alloc Z2).setCell ⟨w.heap.size + 1, 0, none⟩ (.int .u64 x.a)).setCell ⟨w.heap.size + 1, 1, none⟩ (.int .u64 x.b)).cell? ⟨w.heap.size + 1, 0, none⟩ = some (.int .u64 x.a)) ∧ (((((w.alloc (KO x)).alloc Z2).setCell ⟨w.heap.size + 1, 0, none⟩ (.int .u64 x.a)).setCell ⟨w.heap.size + 1, 1, none⟩ (.int .u64 x.b)).cell? ⟨w.heap.size + 1, 1, none⟩ = some (.int .u64 x.b))) := ⟨x0, x1⟩
  have HB : Hid (Below w.heap.size w ((((w.alloc (KO x)).alloc Z2).setCell ⟨w.heap.size + 1, 0, none⟩ (.int .u64 x.a)).setCell ⟨w.heap.size + 1, 1, none⟩ (.int .u64 x.b))) := (hal.setCell (p := ⟨w.heap.size + 1, 0, none⟩) (Nat.le_succ _) _).setCell (p := ⟨w.heap.size + 1, 1, none⟩) (Nat.le_succ _) _
  have a2 : ((w.alloc (KO x)).alloc Z2).cell? ⟨w.heap.size, 2, none⟩ = some (.int .u64 x.a) := heap_cell hb0 rfl
  have a3 : ((w.alloc (KO x)).alloc Z2).cell? ⟨w.heap.size, 3, none⟩ = some (.int .u64 x.b) := heap_cell hb0 rfl
  have z0 : ((w.alloc (KO x)).alloc Z2).cell? ⟨w.heap.size + 1, 0, none⟩ = some (.int .u64 0) := heap_cell hz rfl
  have z1 : ((w.alloc (KO x)).alloc Z2).cell? ⟨w.heap.size + 1, 1, none⟩ = some (.int .u64 0) := heap_cell hz rfl
  have f0 : ((w.alloc (KO x)).alloc Z2).frozen? ⟨w.heap.size + 1, 0, none⟩ = false := fz_of hz 0
  have f1 : ((w.alloc (KO x)).alloc Z2).frozen? ⟨w.heap.size + 1, 1, none⟩ = false := fz_of hz 1
  have hs : w.heap.size + 1 < ((w.alloc (KO x)).alloc Z2).heap.size := heap_lt hz
  clear hal hz hb0 x0 x1
  unfold cellV4
  go_enter Tryd.func44, Tryd.ntmps44
  go_upto_region 1 with fail
  generalize (w.alloc (KO x)).alloc Z2 = W at *
  go_wp2
  obtain ⟨x0, x1⟩ := HX.out
  generalize (W.setCell ⟨w.heap.size + 1, 0, none⟩ (.int .u64 x.a)).setCell ⟨w.heap.size + 1, 1, none⟩ (.int .u64 x.b) = wE at *
  exact bodyPost_ret (v := .agg #[.int .u64 x.a, .int .u64 x.b]) (by simp [results, Tryd.results44, go_sem, x0, x1]) rfl ⟨rfl, HB.out⟩
set_option maxRecDepth 100000 in
set_option maxHeartbeats 4000000 in
theorem least_gt (x : Cl) (w : World) (hle : x.b < x.a) :
    Calls Tryd.prog 44 #[cellV4 x] w fun e w' => e = .returned (.agg #[.int .u64 x.b, .int .u64 x.a]) ∧ Below w.heap.size w w' := by
  have hal : Below w.heap.size w ((w.alloc (KO x)).alloc Z2) := ((Below.refl _ w).alloc (Nat.le_refl _) _).alloc (by simp) _
  have hz : ((w.alloc (KO x)).alloc Z2).heap[w.heap.size + 1]? = some Z2 := by
    have := heap_alloc_new (w.alloc (KO x)) Z2
    rwa [World.size_alloc] at this
  have hb0 : ((w.alloc (KO x)).alloc Z2).heap[w.heap.size]? = some (KO x) := (Below.heap_alloc _ _ _ (by simp)).trans (heap_alloc_new _ _)
  have x0 := two_cells hz (.int .u64 x.b) (.int .u64 x.a) 0
  have x1 := two_cells hz (.int .u64 x.b) (.int .u64 x.a) 1
  have HX : Hid ((((((w.alloc (KO x)).alloc Z2).setCell ⟨w.heap.size + 1, 0, none⟩ (.int .u64 x.b)).setCell ⟨w.heap.size + 1, 1, none⟩ (.int .u64 x.a)).cell? ⟨w.heap.size + 1, 0, none⟩ = some (.int .u64 x.b)) ∧ (((((w.alloc (KO x)).alloc Z2).setCell ⟨w.heap.size + 1, 0, none⟩ (.int .u64 x.b)).setCell ⟨w.heap.size + 1, 1, none⟩ (.int .u64 x.a)).cell? ⟨w.heap.size + 1, 1, none⟩ = some (.int .u64 x.a))) := ⟨x0, x1⟩
  have HB : Hid (Below w.heap.size w ((((w.alloc (KO x)).alloc Z2).setCell ⟨w.heap.size + 1, 0, none⟩ (.int .u64 x.b)).setCell ⟨w.heap.size + 1, 1, none⟩ (.int .u64 x.a))) := (hal.setCell (p := ⟨w.heap.size + 1, 0, none⟩) (Nat.le_succ _) _).setCell (p := ⟨w.heap.size + 1, 1, none⟩) (Nat.le_succ _) _
  have a2 : ((w.alloc (KO x)).alloc Z2).cell? ⟨w.heap.size, 2, none⟩ = some (.int .u64 x.a) := heap_cell hb0 rfl
  have a3 : ((w.alloc (KO x)).alloc Z2).cell? ⟨w.heap.size, 3, none⟩ = some (.int .u64 x.b) := heap_cell hb0 rfl
  have z0 : ((w.alloc (KO x)).alloc Z2).cell? ⟨w.heap.size + 1, 0, none⟩ = some (.int .u64 0) := heap_cell hz rfl
  have z1 : ((w.alloc (KO x)).alloc Z2).cell? ⟨w.heap.size + 1, 1, none⟩ = some (.int .u64 0) := heap_cell hz rfl
  have f0 : ((w.alloc (KO x)).alloc Z2).frozen? ⟨w.heap.size + 1, 0, none⟩ = false := fz_of hz 0
  have f1 : ((w.alloc (KO x)).alloc Z2).frozen? ⟨w.heap.size + 1, 1, none⟩ = false := fz_of hz 1
  have hs : w.heap.size + 1 < ((w.alloc (KO x)).alloc Z2).heap.size := heap_lt hz
  clear hal hz hb0 x0 x1
  unfold cellV4
  go_enter Tryd.func44, Tryd.ntmps44
  go_upto_region 1 with fail
  generalize (w.alloc (KO x)).alloc Z2 = W at *
  go_wp2
  obtain ⟨x0, x1⟩ := HX.out
  generalize (W.setCell ⟨w.heap.size + 1, 0, none⟩ (.int .u64 x.b)).setCell ⟨w.heap.size + 1, 1, none⟩ (.int .u64 x.a) = wE at *
  exact bodyPost_ret (v := .agg #[.int .u64 x.b, .int .u64 x.a]) (by simp [results, Tryd.results44, go_sem, x0, x1]) rfl ⟨rfl, HB.out⟩
set_option maxRecDepth 100000 in
set_option maxHeartbeats 4000000 in
theorem least_eq (x : Cl) (w : World) (hle : x.a = x.b) :
    Calls Tryd.prog 44 #[cellV4 x] w fun e w' => e = .returned (.agg #[.int .u64 x.a, .int .u64 x.a]) ∧ Below w.heap.size w w' := by
  have hal : Below w.heap.size w ((w.alloc (KO x)).alloc Z2) := ((Below.refl _ w).alloc (Nat.le_refl _) _).alloc (by simp) _
  have hz : ((w.alloc (KO x)).alloc Z2).heap[w.heap.size + 1]? = some Z2 := by
    have := heap_alloc_new (w.alloc (KO x)) Z2
    rwa [World.size_alloc] at this
  have hb0 : ((w.alloc (KO x)).alloc Z2).heap[w.heap.size]? = some (KO x) := (Below.heap_alloc _ _ _ (by simp)).trans (heap_alloc_new _ _)
  have x0 := two_cells hz (.int .u64 x.a) (.int .u64 x.a) 0
  have x1 := two_cells hz (.int .u64 x.a) (.int .u64 x.a) 1
  have HX : Hid ((((((w.alloc (KO x)).alloc Z2).setCell ⟨w.heap.size + 1, 0, none⟩ (.int .u64 x.a)).setCell ⟨w.heap.size + 1, 1, none⟩ (.int .u64 x.a)).cell? ⟨w.heap.size + 1, 0, none⟩ = some (.int .u64 x.a)) ∧ (((((w.alloc (KO x)).alloc Z2).setCell ⟨w.heap.size + 1, 0, none⟩ (.int .u64 x.a)).setCell ⟨w.heap.size + 1, 1, none⟩ (.int .u64 x.a)).cell? ⟨w.heap.size + 1, 1, none⟩ = some (.int .u64 x.a))) := ⟨x0, x1⟩
  have HB : Hid (Below w.heap.size w ((((w.alloc (KO x)).alloc Z2).setCell ⟨w.heap.size + 1, 0, none⟩ (.int .u64 x.a)).setCell ⟨w.heap.size + 1, 1, none⟩ (.int .u64 x.a))) := (hal.setCell (p := ⟨w.heap.size + 1, 0, none⟩) (Nat.le_succ _) _).setCell (p := ⟨w.heap.size + 1, 1, none⟩) (Nat.le_succ _) _
  have a2 : ((w.alloc (KO x)).alloc Z2).cell? ⟨w.heap.size, 2, none⟩ = some (.int .u64 x.a) := heap_cell hb0 rfl
  have a3 : ((w.alloc (KO x)).alloc Z2).cell? ⟨w.heap.size, 3, none⟩ = some (.int .u64 x.b) := heap_cell hb0 rfl
  have z0 : ((w.alloc (KO x)).alloc Z2).cell? ⟨w.heap.size + 1, 0, none⟩ = some (.int .u64 0) := heap_cell hz rfl
  have z1 : ((w.alloc (KO x)).alloc Z2).cell? ⟨w.heap.size + 1, 1, none⟩ = some (.int .u64 0) := heap_cell hz rfl
  have f0 : ((w.alloc (KO x)).alloc Z2).frozen? ⟨w.heap.size + 1, 0, none⟩ = false := fz_of hz 0
  have f1 : ((w.alloc (KO x)).alloc Z2).frozen? ⟨w.heap.size + 1, 1, none⟩ = false := fz_of hz 1
  have hs : w.heap.size + 1 < ((w.alloc (KO x)).alloc Z2).heap.size := heap_lt hz
  clear hal hz hb0 x0 x1
  have h1 : ¬ x.b < x.a := by omega
  have h2 : x.b ≤ x.a := by omega
  have h3 : ¬ x.a < x.b := by omega
  have h4 : x.a ≤ x.b := by omega
  clear hle
  unfold cellV4
  go_enter Tryd.func44, Tryd.ntmps44
  go_upto_region 1 with fail
  generalize (w.alloc (KO x)).alloc Z2 = W at *
  go_wp2
  obtain ⟨x0, x1⟩ := HX.out
  generalize (W.setCell ⟨w.heap.size + 1, 0, none⟩ (.int .u64 x.a)).setCell ⟨w.heap.size + 1, 1, none⟩ (.int .u64 x.a) = wE at *
  exact bodyPost_ret (v := .agg #[.int .u64 x.a, .int .u64 x.a]) (by simp [results, Tryd.results44, go_sem, x0, x1]) rfl ⟨rfl, HB.out⟩
theorem leastFirst_any (x : Cl) (w : World) :
    Calls Tryd.prog 44 #[cellV4 x] w fun e w' => e = .returned (.agg #[.int .u64 (min x.a x.b), .int .u64 (max x.a x.b)]) ∧ Below w.heap.size w w' := by
  rcases Int.lt_trichotomy x.a x.b with h | h | h
  · rw [Int.min_eq_left (Int.le_of_lt h), Int.max_eq_right (Int.le_of_lt h)]; exact least_lt x w h
  · have := least_eq x w h
    rw [← h, Int.min_self, Int.max_self]; exact this
  · rw [Int.min_eq_right (Int.le_of_lt h), Int.max_eq_left (Int.le_of_lt h)]; exact least_gt x w h
theorem leastFirst_ok : OwnOk true 44 := ⟨fun args w => by go_simp, fun x w => leastFirst_any x w⟩
/-- Who is ahead of a cell: -1 nobody, -2 it is not met. -/
def aheadM (r : St) (k : Nat) : Int := r.foldl (fun a p => if p.1 = k then p.2 else a) (-2)
theorem ahead_snoc (r : St) (c k : Nat) (q : Int) : aheadM (r ++ [(c, q)]) k = if c = k then q else aheadM r k := by
  unfold aheadM
  rw [List.foldl_append]; rfl
def IA (n vb g : Nat) (r : St) (w : World) (A : Nat → Prop) : Prop :=
  w.heap[vb]? = some (.cells #[.slice (some ⟨g, 0, none⟩) n n] 29 (0, 0)) ∧ DR w 3 g n (fun k u => u = .int .i64 (aheadM r k)) ∧ ¬ A vb ∧ ¬ A g ∧ vb ≠ g
set_option maxRecDepth 100000 in
set_option maxHeartbeats 4000000 in
theorem ahead1_any {n vb g : Nat} (r : St) (c : Nat) (q : Int) (w : World) (A : Nat → Prop) (hI : IA n vb g r w A) (hc : c < n) :
    Calls Tryd.prog 45 #[.int .i64 c, .int .i64 q, .pointer (some ⟨vb, 0, none⟩)] w fun e w' => e = .returned (.tuple #[]) ∧ IA n vb g (r ++ [(c, q)]) w' A ∧ Fr A w w' := by
  obtain ⟨h1, h2, h3, h4, h5⟩ := hI
  have v0 : w.cell? ⟨vb, 0, none⟩ = some (.slice (some ⟨g, 0, none⟩) n n) := heap_cell h1 rfl
  have lv := heap_lt h1
  have lg := h2.lt
  obtain ⟨u, hu, _⟩ := h2.cell hc
  have hfz := h2.fz c
  have i1 : (c : Int) < (n : Int) := by omega
  have HE : Hid (IA n vb g (r ++ [(c, q)]) (w.setCell ⟨g, c, none⟩ (.int .i64 q)) A ∧ Fr A w (w.setCell ⟨g, c, none⟩ (.int .i64 q))) := by
    refine ⟨⟨(Below.heap_setCell _ _ _ _ h5).trans h1, h2.set (fun k u hk hh => ?_) ?_, h3, h4, h5⟩, (Below.refl 0 w).setCell (p := ⟨g, c, none⟩) (Nat.zero_le _) _, fun k hk _ => Below.heap_setCell _ _ _ _ (fun e => h4 (by have e2 : k = g := e; rw [← e2]; exact hk))⟩
    · rw [hh, ahead_snoc, if_neg (fun e => hk e.symm)]
    · rw [ahead_snoc, if_pos rfl]
  clear h1 h2 h3 h4 h5 hc
  go_enter Tryd.func45, Tryd.ntmps45
  go_wp2
  go_end0
  exact ⟨rfl, HE.out.1, HE.out.2⟩
theorem ahead_ok (n vb g : Nat) : MeetOk n 45 vb (IA n vb g) where
  enter := fun args w => by go_simp
  call := fun r c q w A hI hc _ _ => ahead1_any r c q w A hI hc
  stab := fun r w w' A A' ⟨h1, h2, h3, h4, h5⟩ hs hk hA _ => by
    have lv := heap_lt h1
    have lg := h2.lt
    exact ⟨(hk _ lv h3).trans h1, h2.kept (hk _ lg h4), fun h => by rcases hA _ h with h | h; exact h3 h; omega, fun h => by rcases hA _ h with h | h; exact h4 h; omega, h5⟩
end Go.Proofs.YteekfahpbnbalaaDoor
