/- The chapter's example in memory. -/
import Derived.Test.YtpkohocjgnodnaaGreatDoorGJ
import Derived.Test.YtpkohocjgnodnaaGreatDoorGN
namespace Go.Proofs.YtpkohocjgnodnaaGreatDoor
open Go.RowKit

def exK (k : Nat) : Cd := ⟨[mk 5 5, mk 1 0], [⟨0, [⟨1, 0⟩, ⟨5, 0⟩, ⟨12, 0⟩]⟩, ⟨1, [⟨2, 0⟩, ⟨12, 0⟩].take k⟩], [[120]]⟩
def exV (b1 b5 b2 : Nat) : Value := .agg #[.slice (some ⟨b1, 0, none⟩) 2 2, .slice (some ⟨b5, 0, none⟩) 2 2, .slice (some ⟨b2, 0, none⟩) 1 1]
structure ExM (w : World) (b1 b2 b3 b4 b5 k : Nat) : Prop where
  h1 : w.heap[b1]? = some (.cells #[.int .u64 (mk 5 5), .int .u64 (mk 1 0)] 70 (0, 0))
  h2 : w.heap[b2]? = some (.cells #[S [120]] 9 (0, 0))
  h3 : w.heap[b3]? = some (.cells #[.int .u8 1, .int .i64 0, .int .u8 5, .int .i64 0, .int .u8 12, .int .i64 0] 79 (0, 0))
  h4 : w.heap[b4]? = some (.cells #[.int .u8 2, .int .i64 0, .int .u8 12, .int .i64 0] 79 (0, 0))
  h5 : w.heap[b5]? = some (.cells #[.int .i64 0, .slice (some ⟨b3, 0, none⟩) 3 3, .int .i64 1, .slice (some ⟨b4, 0, none⟩) k 2] 64 (0, 0))
theorem heap_lt {w : World} {b : Nat} {o : Obj} (h : w.heap[b]? = some o) : b < w.heap.size := (Array.getElem?_eq_some_iff.1 h).1
theorem heap_cell {w : World} {b j : Nat} {cs : Array Value} {t : TypeId} {v : Value} (h : w.heap[b]? = some (.cells cs t (0, 0))) (hv : cs[j]? = some v) : w.cell? ⟨b, j, none⟩ = some v := by
  simp only [World.cell?, h]; exact hv
theorem ExM.below {w w' : World} {b1 b2 b3 b4 b5 k : Nat} (h : ExM w b1 b2 b3 b4 b5 k) (hb : Below w.heap.size w w') : ExM w' b1 b2 b3 b4 b5 k :=
  ⟨(hb.block _ (heap_lt h.h1)).trans h.h1, (hb.block _ (heap_lt h.h2)).trans h.h2, (hb.block _ (heap_lt h.h3)).trans h.h3, (hb.block _ (heap_lt h.h4)).trans h.h4, (hb.block _ (heap_lt h.h5)).trans h.h5⟩
theorem ExM.cv {w : World} {b1 b2 b3 b4 b5 k : Nat} (h : ExM w b1 b2 b3 b4 b5 k) (hk : k = 1 ∨ k = 2) : CV w (exV b1 b5 b2) (exK k) := by
  refine ⟨⟨_, 2, _, 2, _, 1, rfl, ⟨b1, 0, .inr rfl, fun j x hx => ?_⟩, ⟨b5, 0, .inr rfl, fun j x hx => ?_⟩, ⟨b2, 0, .inr rfl, fun j x hx => ?_⟩, Nat.le_refl _⟩, ⟨by show 2 ≤ maxLen; decide, by show 2 ≤ maxLen; decide, by show 1 ≤ maxLen; decide⟩⟩
  · refine ⟨heap_lt h.h1, ?_⟩
    match j, hx with
    | 0, hx => cases hx; exact ⟨heap_cell h.h1 rfl, mk_rng _ _⟩
    | 1, hx => cases hx; exact ⟨heap_cell h.h1 rfl, mk_rng _ _⟩
    | j + 2, hx => simp [exK] at hx
  · refine ⟨heap_lt h.h5, ?_⟩
    match j, hx with
    | 0, hx =>
      cases hx
      refine ⟨heap_cell h.h5 rfl, ⟨_, 3, heap_cell h.h5 rfl, b3, 0, .inr rfl, fun i y hy => ?_⟩, by decide⟩
      refine ⟨heap_lt h.h3, ?_⟩
      match i, hy with
      | 0, hy => cases hy; exact ⟨heap_cell h.h3 rfl, heap_cell h.h3 rfl, by decide, by decide⟩
      | 1, hy => cases hy; exact ⟨heap_cell h.h3 rfl, heap_cell h.h3 rfl, by decide, by decide⟩
      | 2, hy => cases hy; exact ⟨heap_cell h.h3 rfl, heap_cell h.h3 rfl, by decide, by decide⟩
      | i + 3, hy => simp at hy
    | 1, hx =>
      cases hx
      have hlen : ([⟨2, 0⟩, ⟨12, 0⟩] : List Ins).take k = [⟨2, 0⟩, ⟨12, 0⟩].take k := rfl
      rcases hk with rfl | rfl
      · refine ⟨heap_cell h.h5 rfl, ⟨_, 2, heap_cell h.h5 rfl, b4, 0, .inr rfl, fun i y hy => ?_⟩, by decide⟩
        refine ⟨heap_lt h.h4, ?_⟩
        match i, hy with
        | 0, hy => cases hy; exact ⟨heap_cell h.h4 rfl, heap_cell h.h4 rfl, by decide, by decide⟩
        | i + 1, hy => simp at hy
      · refine ⟨heap_cell h.h5 rfl, ⟨_, 2, heap_cell h.h5 rfl, b4, 0, .inr rfl, fun i y hy => ?_⟩, by decide⟩
        refine ⟨heap_lt h.h4, ?_⟩
        match i, hy with
        | 0, hy => cases hy; exact ⟨heap_cell h.h4 rfl, heap_cell h.h4 rfl, by decide, by decide⟩
        | 1, hy => cases hy; exact ⟨heap_cell h.h4 rfl, heap_cell h.h4 rfl, by decide, by decide⟩
        | i + 2, hy => simp at hy
    | j + 2, hx => simp [exK] at hx
  · refine ⟨heap_lt h.h2, ?_⟩
    match j, hx with
    | 0, hx => cases hx; exact ⟨heap_cell h.h2 rfl, by decide⟩
    | j + 1, hx => simp [exK] at hx
theorem six (w : World) (o0 o1 o2 o3 o4 o5 : Obj) : ((((((w.alloc o0).alloc o1).alloc o2).alloc o3).alloc o4).alloc o5).heap[w.heap.size]? = some o0 ∧ ((((((w.alloc o0).alloc o1).alloc o2).alloc o3).alloc o4).alloc o5).heap[w.heap.size + 1]? = some o1 ∧ ((((((w.alloc o0).alloc o1).alloc o2).alloc o3).alloc o4).alloc o5).heap[w.heap.size + 1 + 1]? = some o2 ∧ ((((((w.alloc o0).alloc o1).alloc o2).alloc o3).alloc o4).alloc o5).heap[w.heap.size + 1 + 1 + 1]? = some o3 ∧ ((((((w.alloc o0).alloc o1).alloc o2).alloc o3).alloc o4).alloc o5).heap[w.heap.size + 1 + 1 + 1 + 1]? = some o4 ∧ ((((((w.alloc o0).alloc o1).alloc o2).alloc o3).alloc o4).alloc o5).heap[w.heap.size + 1 + 1 + 1 + 1 + 1]? = some o5 ∧ Below w.heap.size w ((((((w.alloc o0).alloc o1).alloc o2).alloc o3).alloc o4).alloc o5) := by
  have e1 : (w.alloc o0).heap.size = w.heap.size + 1 := World.size_alloc ..
  have e2 : ((w.alloc o0).alloc o1).heap.size = w.heap.size + 2 := by rw [World.size_alloc, e1]
  have e3 : (((w.alloc o0).alloc o1).alloc o2).heap.size = w.heap.size + 3 := by rw [World.size_alloc, e2]
  have e4 : ((((w.alloc o0).alloc o1).alloc o2).alloc o3).heap.size = w.heap.size + 4 := by rw [World.size_alloc, e3]
  have e5 : (((((w.alloc o0).alloc o1).alloc o2).alloc o3).alloc o4).heap.size = w.heap.size + 5 := by rw [World.size_alloc, e4]
  refine ⟨?_, ?_, ?_, ?_, ?_, ?_, ?_⟩
  · rw [Below.heap_alloc _ _ _ (by omega), Below.heap_alloc _ _ _ (by omega), Below.heap_alloc _ _ _ (by omega), Below.heap_alloc _ _ _ (by omega), Below.heap_alloc _ _ _ (by omega)]; exact heap_alloc_new _ _
  · rw [Below.heap_alloc _ _ _ (by omega), Below.heap_alloc _ _ _ (by omega), Below.heap_alloc _ _ _ (by omega), Below.heap_alloc _ _ _ (by omega), ← e1]; exact heap_alloc_new _ _
  · rw [Below.heap_alloc _ _ _ (by omega), Below.heap_alloc _ _ _ (by omega), Below.heap_alloc _ _ _ (by omega), show w.heap.size + 1 + 1 = w.heap.size + 2 from rfl, ← e2]; exact heap_alloc_new _ _
  · rw [Below.heap_alloc _ _ _ (by omega), Below.heap_alloc _ _ _ (by omega), show w.heap.size + 1 + 1 + 1 = w.heap.size + 3 from rfl, ← e3]; exact heap_alloc_new _ _
  · rw [Below.heap_alloc _ _ _ (by omega), show w.heap.size + 1 + 1 + 1 + 1 = w.heap.size + 4 from rfl, ← e4]; exact heap_alloc_new _ _
  · rw [show w.heap.size + 1 + 1 + 1 + 1 + 1 = w.heap.size + 5 from rfl, ← e5]; exact heap_alloc_new _ _
  · exact ((((((Below.refl _ w).alloc (Nat.le_refl _) _).alloc (by omega) _).alloc (by omega) _).alloc (by omega) _).alloc (by omega) _).alloc (by omega) _
def ExR (w : World) (e : Ending) (w' : World) : Prop := ∃ b1 b2 b3 b4 b5, e = .returned (exV b1 b5 b2) ∧ ExM w' b1 b2 b3 b4 b5 2 ∧ w.heap.size ≤ b5
set_option maxRecDepth 100000 in
set_option maxHeartbeats 8000000 in
theorem example_any (w : World) (hE : Env w) :
    Calls Tryz.prog 19 #[] w fun e w' => ExR w e w' ∧ Below w.heap.size w w' := by
  have hal : Below w.heap.size w (w.alloc ZC) := (Below.refl _ w).alloc (Nat.le_refl _) _
  have hT := (hE.below hal).T
  have H1 : Hid (Calls Tryz.prog 66 #[.int .i64 5] (w.alloc ZC) fun e w' => e = .returned (.tuple #[.int .u64 (mk 5 5), .int .i64 0]) ∧ w' = w.alloc ZC) := int_any 5 _ hT
  have H2 : Hid (Calls Tryz.prog 67 #[.int .u8 1, .int .i64 0] (w.alloc ZC) fun e w' => e = .returned (.tuple #[.int .u64 (mk 1 0), .int .i64 0]) ∧ w' = w.alloc ZC) := make_any 1 0 _ (by decide) (by decide) hT
  have HA : Hid (Below w.heap.size w (w.alloc ZC)) := hal
  clear hE hal hT
  obtain ⟨m5, hm5⟩ : ∃ m, m = mk 5 5 := ⟨_, rfl⟩
  obtain ⟨m1, hm1⟩ : ∃ m, m = mk 1 0 := ⟨_, rfl⟩
  rw [← hm5] at H1
  rw [← hm1] at H2
  have HM : Hid (m5 = mk 5 5 ∧ m1 = mk 1 0) := ⟨hm5, hm1⟩
  clear hm5 hm1
  go_enter Tryz.func19, Tryz.ntmps19
  go_wp2_with fail
  refine Calls.mono H1.out ?_
  rintro e w1 ⟨rfl, hw1⟩
  rw [hw1]
  clear hw1
  go_wp2_with fail
  refine Calls.mono H2.out ?_
  rintro e w2 ⟨rfl, hw2⟩
  rw [hw2]
  clear hw2
  go_wp2
  obtain ⟨k0, k1, k2, k3, k4, k5, kb⟩ := six w (CO (.slice (some ⟨w.heap.size + 1, 0, none⟩) 2 2) (.slice (some ⟨w.heap.size + 1 + 1 + 1 + 1 + 1, 0, none⟩) 2 2) (.slice (some ⟨w.heap.size + 1 + 1, 0, none⟩) 1 1)) (.cells #[.int .u64 m5, .int .u64 m1] 70) (.cells #[.string ⟨#[120]⟩] 9) (.cells #[.int .u8 1, .int .i64 0, .int .u8 5, .int .i64 0, .int .u8 12, .int .i64 0] 79) (.cells #[.int .u8 2, .int .i64 0, .int .u8 12, .int .i64 0] 79) (.cells #[.int .i64 0, .slice (some ⟨w.heap.size + 1 + 1 + 1, 0, none⟩) 3 3, .int .i64 1, .slice (some ⟨w.heap.size + 1 + 1 + 1 + 1, 0, none⟩) 2 2] 64)
  generalize (((((w.alloc (CO (.slice (some ⟨w.heap.size + 1, 0, none⟩) 2 2) (.slice (some ⟨w.heap.size + 1 + 1 + 1 + 1 + 1, 0, none⟩) 2 2) (.slice (some ⟨w.heap.size + 1 + 1, 0, none⟩) 1 1))).alloc (.cells #[.int .u64 m5, .int .u64 m1] 70)).alloc (.cells #[.string ⟨#[120]⟩] 9)).alloc (.cells #[.int .u8 1, .int .i64 0, .int .u8 5, .int .i64 0, .int .u8 12, .int .i64 0] 79)).alloc (.cells #[.int .u8 2, .int .i64 0, .int .u8 12, .int .i64 0] 79)).alloc (.cells #[.int .i64 0, .slice (some ⟨w.heap.size + 1 + 1 + 1, 0, none⟩) 3 3, .int .i64 1, .slice (some ⟨w.heap.size + 1 + 1 + 1 + 1, 0, none⟩) 2 2] 64) = wE at *
  have x0 : wE.cell? ⟨w.heap.size, 0, none⟩ = some (.slice (some ⟨w.heap.size + 1, 0, none⟩) 2 2) := heap_cell k0 rfl
  have x1 : wE.cell? ⟨w.heap.size, 1, none⟩ = some (.slice (some ⟨w.heap.size + 1 + 1 + 1 + 1 + 1, 0, none⟩) 2 2) := heap_cell k0 rfl
  have x2 : wE.cell? ⟨w.heap.size, 2, none⟩ = some (.slice (some ⟨w.heap.size + 1 + 1, 0, none⟩) 1 1) := heap_cell k0 rfl
  rw [HM.out.1, HM.out.2] at k1
  refine bodyPost_ret (v := exV (w.heap.size + 1) (w.heap.size + 1 + 1 + 1 + 1 + 1) (w.heap.size + 1 + 1)) (by simp [exV, results, Tryz.results19, go_sem, x0, x1, x2]) rfl ⟨⟨_, _, _, _, _, rfl, ⟨k1, k2, k3, k4, k5⟩, by omega⟩, kb⟩
end Go.Proofs.YtpkohocjgnodnaaGreatDoor
