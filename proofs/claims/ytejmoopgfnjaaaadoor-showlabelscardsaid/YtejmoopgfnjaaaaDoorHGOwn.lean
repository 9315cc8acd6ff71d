/- A cell's words in the order in which they are met: asLaid, leastFirst. -/
import Derived.Test.YtejmoopgfnjaaaaDoorK02
import Derived.Deep.DeepCutAuto
namespace Go.Proofs.YtejmoopgfnjaaaaDoor
open Go.RowKit

def cellV4 (x : Cl) : Value := .agg #[.int .u8 x.k, .int .u8 x.c, .int .u64 x.a, .int .u64 x.b]
structure OwnOk (s : Bool) (fo : Nat) : Prop where
  enter : ∀ (args : Array Value) (w : World), (callFunc fo args).run Tryd.prog w = .ok (.enter fo args) w
  call : ∀ (x : Cl) (w : World), Calls Tryd.prog fo #[cellV4 x] w fun e w' => e = .returned (.agg #[.int .u64 (ownW s x).1, .int .u64 (ownW s x).2]) ∧ Below w.heap.size w w'
theorem fz_of {W : World} {b : Nat} {cs : Array Value} {t : TypeId} (h : W.heap[b]? = some (.cells cs t (0, 0))) (k : Nat) : W.frozen? ⟨b, k, none⟩ = false := by simp [World.frozen?, h]
abbrev Z2 : Obj := .cells #[.int .u64 0, .int .u64 0] 131
theorem two_cells {W : World} {b : Nat} (h : W.heap[b]? = some Z2) (u0 u1 : Value) (k : Nat) : ((W.setCell ⟨b, 0, none⟩ u0).setCell ⟨b, 1, none⟩ u1).cell? ⟨b, k, none⟩ = [u0, u1][k]? := by
  have h3 := set_atC (j := 1) (set_atC (j := 0) h u0) u1
  simp only [World.cell?, h3]
  simp
set_option maxRecDepth 100000 in
set_option maxHeartbeats 4000000 in
theorem asLaid_any (x : Cl) (w : World) :
    Calls Tryd.prog 57 #[cellV4 x] w fun e w' => e = .returned (.agg #[.int .u64 x.a, .int .u64 x.b]) ∧ Below w.heap.size w w' := by
  have hal : Below w.heap.size w ((w.alloc (KO x)).alloc Z2) := ((Below.refl _ w).alloc (Nat.le_refl _) _).alloc (by simp) _
  have hz : ((w.alloc (KO x)).alloc Z2).heap[w.heap.size + 1]? = some Z2 := by
    have := heap_alloc_new (w.alloc (KO x)) Z2
    rwa [World.size_alloc] at this
  have hb0 : ((w.alloc (KO x)).alloc Z2).heap[w.heap.size]? = some (KO x) := (Below.heap_alloc _ _ _ (by simp)).trans (heap_alloc_new _ _)
  have x0 := two_cells hz (.int .u64 x.a) (.int .u64 x.b) 0
  have x1 := two_cells hz (.int .u64 x.a) (.int .u64 x.b) 1
  have HX : Hid ((((((w.alloc (KO x)).alloc Z2).setCell ⟨w.heap.size + 1, 0, none⟩ (.int .u64 x.a)).setCell ⟨w.heap.size + 1, 1, none⟩ (.int .u64 x.b)).cell? ⟨w.heap.size + 1, 0, none⟩ = some (.int .u64 x.a)) ∧ (((((w.alloc (KO x)).alloc Z2).setCell ⟨w.heap.size + 1, 0, none⟩ (.int .u64 x.a)).setCell ⟨w.heap.size + 1, 1, none⟩ (.int .u64 x.b)).cell? ⟨w.heap.size + 1, 1, none⟩ = some (.int .u64 x.b))) := ⟨x0, x1⟩
  have HB : Hid (Below w.heap.size w ((((w.alloc (KO x)).alloc Z2).setCell ⟨w.heap.size + 1, 0, none⟩ (.int .u64 x.a)).setCell ⟨w.heap.size + 1, 1, none⟩ (.int .u64 x.b))) := (hal.setCell (p := ⟨w.heap.size + 1, 0, none⟩) (Nat.le_succ _) _).setCell (p := ⟨w.heap.size + 1, 1, none⟩) (Nat.le_succ _) _
  have a2 : ((w.alloc (KO x)).alloc Z2).cell? ⟨w.heap.size, 2, none⟩ = some (.int .u64 x.a) := heap_cell hb0 rfl
  have a3 : ((w.alloc (KO x)).alloc Z2).cell? ⟨w.heap.size, 3, none⟩ = some (.int .u64 x.b) := heap_cell hb0 rfl
  have z0 : ((w.alloc (KO x)).alloc Z2).cell? ⟨w.heap.size + 1, 0, none⟩ = some (.int .u64 0) := heap_cell hz rfl
  have z1 : ((w.alloc (KO x)).alloc Z2).cell? ⟨w.heap.size + 1, 1, none⟩ = some (.int .u64 0) := heap_cell hz rfl
  have f0 : ((w.alloc (KO x)).alloc Z2).frozen? ⟨w.heap.size + 1, 0, none⟩ = false := fz_of hz 0
  have f1 : ((w.alloc (KO x)).alloc Z2).frozen? ⟨w.heap.size + 1, 1, none⟩ = false := fz_of hz 1
  have hs : w.heap.size + 1 < ((w.alloc (KO x)).alloc Z2).heap.size := heap_lt hz
  clear hal hz hb0 x0 x1
  unfold cellV4
  go_enter Tryd.func57, Tryd.ntmps57
  go_upto_region 1 with fail
  generalize (w.alloc (KO x)).alloc Z2 = W at *
  go_wp2
  obtain ⟨x0, x1⟩ := HX.out
  generalize (W.setCell ⟨w.heap.size + 1, 0, none⟩ (.int .u64 x.a)).setCell ⟨w.heap.size + 1, 1, none⟩ (.int .u64 x.b) = wE at *
  exact bodyPost_ret (v := .agg #[.int .u64 x.a, .int .u64 x.b]) (by simp [results, Tryd.results57, go_sem, x0, x1]) rfl ⟨rfl, HB.out⟩
theorem index_0 (a b : Int) (w : World) : (Instr.index 131 (.agg #[.int .u64 a, .int .u64 b]) (.int .i64 0)).run Tryd.prog w = .ok (.int .u64 a) w := by
  have u1 := Tryd.underlying131
  unfold Instr.index
  go_simp
theorem index_1 (a b : Int) (w : World) : (Instr.index 131 (.agg #[.int .u64 a, .int .u64 b]) (.int .i64 1)).run Tryd.prog w = .ok (.int .u64 b) w := by
  have u1 := Tryd.underlying131
  unfold Instr.index
  go_simp
theorem asLaid_ok : OwnOk false 57 := ⟨fun args w => by go_simp, fun x w => asLaid_any x w⟩
end Go.Proofs.YtejmoopgfnjaaaaDoor
