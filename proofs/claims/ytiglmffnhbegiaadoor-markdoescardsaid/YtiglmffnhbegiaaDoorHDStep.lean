/- One step with both markers: what others do to the heap. -/
import Derived.Test.YtiglmffnhbegiaaDoorHDPut
namespace Go.Proofs.YtiglmffnhbegiaaDoor
open Go.RowKit

abbrev opC (k : Int) (ws cs : Value) (i c d x : Int) : Array Value := #[.int .i64 k, ws, cs, .int .i64 i, .int .u8 c, .int .u8 d, .int .u64 x]
def StR (w0 : World) (mb hb ab db rb g b : Nat) (row : List Int) (Ni c : Nat) (e : Ending) (w' : World) : Prop := e = .returned (.bool true) ∧ ∃ rv' rd' row' h' vi' Ni' Vi', GT w0 w' mb hb ab db rb g b rv' rd' row' row' h' h' vi' Ni' Vi' ∧ row'.length ≤ row.length + c ∧ Ni' ≤ Ni + 2
theorem op_at (w : World) (k : Int) (ws cs : Value) (i c d x : Int) : (w.alloc (.cells (opC k ws cs i c d x) 31)).cell? ⟨w.heap.size, 0, none⟩ = some (.int .i64 k) ∧ (w.alloc (.cells (opC k ws cs i c d x) 31)).cell? ⟨w.heap.size, 1, none⟩ = some ws ∧ (w.alloc (.cells (opC k ws cs i c d x) 31)).cell? ⟨w.heap.size, 2, none⟩ = some cs ∧ (w.alloc (.cells (opC k ws cs i c d x) 31)).cell? ⟨w.heap.size, 3, none⟩ = some (.int .i64 i) ∧ (w.alloc (.cells (opC k ws cs i c d x) 31)).cell? ⟨w.heap.size, 4, none⟩ = some (.int .u8 c) ∧ (w.alloc (.cells (opC k ws cs i c d x) 31)).cell? ⟨w.heap.size, 5, none⟩ = some (.int .u8 d) ∧ (w.alloc (.cells (opC k ws cs i c d x) 31)).cell? ⟨w.heap.size, 6, none⟩ = some (.int .u64 x) :=
  ⟨new_cell _ _ _ 0 _ rfl, new_cell _ _ _ 1 _ rfl, new_cell _ _ _ 2 _ rfl, new_cell _ _ _ 3 _ rfl, new_cell _ _ _ 4 _ rfl, new_cell _ _ _ 5 _ rfl, new_cell _ _ _ 6 _ rfl⟩
section
variable {w0 w w' : World} {mb hb ab db rb g b Ni : Nat} {rv rd vi : Value} {row : List Int} {h : List Cl} {Vi : Nat → Value}
theorem ops_ex {w1 w2 : World} {o : Nat} {cs : Array Value} {hb ab : Nat} {h h2 : List Cl} (hc : w1.heap[o]? = some (.cells cs 31 (0, 0))) (C : CH w1 hb ab h) (hE : ExR hb ab h2 w1 w2) : w2.heap[o]? = some (.cells cs 31 (0, 0)) := by
  obtain ⟨c2, r1, _⟩ := C.r
  exact (hE.2.1.2 o (ty_ne hc r1 (by decide)) (heap_lt hc)).trans hc
theorem ops_rh {w1 w2 : World} {o : Nat} {cs : Array Value} {rb g : Nat} {h h2 : List Cl} (hc : w1.heap[o]? = some (.cells cs 31 (0, 0))) (R : RH w1 rb g h) (hE : RhR rb g h2 w1 w2) : w2.heap[o]? = some (.cells cs 31 (0, 0)) := by
  obtain ⟨c2, r1, _⟩ := R.r
  exact (hE.2.2 o (ty_ne hc r1 (by decide)) (heap_lt hc)).trans hc
theorem GT.below_drew {row' : List Int} {h' : List Cl} (H : GT w0 w mb hb ab db rb g b rv rd row row' h h' vi Ni Vi) : GT w0 w.drew mb hb ab db rb g b rv rd row row' h h' vi Ni Vi := H.below (Below.refl _ _).drew
set_option maxRecDepth 100000 in
set_option maxHeartbeats 16000000 in
theorem step_turn (H : GT w0 w mb hb ab db rb g b rv rd row row h h vi Ni Vi) (ws cs : Value) (i c d x : Int) (hd : 0 ≤ d ∧ d ≤ 255) :
    Calls Tryd.prog 9 #[.pointer (some ⟨mb, 0, none⟩), .pointer (some ⟨hb, 0, none⟩), .pointer (some ⟨db, 0, none⟩), .agg (opC 5 ws cs i c d x), .pointer (some ⟨b, 0, none⟩)] w fun e w' => StR w0 mb hb ab db rb g b row Ni 2 e w' := by
  obtain ⟨w1, hw1⟩ : ∃ w1, w1 = w.alloc (.cells (opC 5 ws cs i c d x) 31) := ⟨_, rfl⟩
  have hB1 : Below w.heap.size w w1 := hw1 ▸ (Below.refl _ w).alloc (Nat.le_refl _) _
  have ho1 : w1.heap[w.heap.size]? = some (.cells (opC 5 ws cs i c d x) 31 (0, 0)) := hw1 ▸ heap_alloc_new w _
  have H1 := H.below hB1
  have HH1 : Hid (GT w0 w1 mb hb ab db rb g b rv rd row row h h vi Ni Vi) := H1
  have HO1 : Hid (w1.heap[w.heap.size]? = some (.cells (opC 5 ws cs i c d x) 31 (0, 0))) := ho1
  have HC : Hid (Calls Tryd.prog 37 #[.pointer (some ⟨hb, 0, none⟩), .int .i64 i, .int .u8 c, .int .u8 d] w1 fun e w' => e = .returned (.bool (turnB h i c d)) ∧ ExR hb ab (turnH h i c d) w1 w') := turn_any i c d H1.m.c hd
  obtain ⟨q0, q1, q2, q3, q4, q5, q6⟩ := op_at w 5 ws cs i c d x
  rw [← hw1] at q0 q1 q2 q3 q4 q5 q6
  have HW1 : Hid (w1 = w.alloc (.cells (opC 5 ws cs i c d x) 31)) := hw1
  clear hw1 hB1 ho1 H1 H
  go_enter Tryd.func9, Tryd.ntmps9
  go_wp2_with fail
  rw [← HW1.out]
  refine Calls.mono HC.out ?_
  rintro e w2 ⟨rfl, hx⟩
  have HI2 : Hid (GT w0 w2 mb hb ab db rb g b rv rd row row (turnH h i c d) h vi Ni Vi) := HH1.out.mks (HH1.out.m.ex hx)
  have ho2 := ops_ex HO1.out HH1.out.m.c hx
  have HO2 : Hid (w2.heap[w.heap.size]? = some (.cells (opC 5 ws cs i c d x) 31 (0, 0))) := ho2
  have m0 : w2.cell? ⟨db, 0, none⟩ = some (.pointer (some ⟨rb, 0, none⟩)) := heap_cell HI2.out.d.m rfl
  have o3 : w2.cell? ⟨w.heap.size, 3, none⟩ = some (.int .i64 i) := heap_cell ho2 rfl
  have o4 : w2.cell? ⟨w.heap.size, 4, none⟩ = some (.int .u8 c) := heap_cell ho2 rfl
  have o5 : w2.cell? ⟨w.heap.size, 5, none⟩ = some (.int .u8 d) := heap_cell ho2 rfl
  have HR : Hid (Calls Tryd.prog 38 #[.pointer (some ⟨rb, 0, none⟩), .int .i64 i, .int .u8 c, .int .u8 d] w2.drew fun e w' => e = .returned (.bool (turnB h i c d)) ∧ RhR rb g (turnH h i c d) w2.drew w') := rturn_any i c d HI2.out.below_drew.d.r hd
  have HMk : Hid (∀ wx, RhR rb g (turnH h i c d) w2.drew wx → wx.cell? ⟨db, 0, none⟩ = some (.pointer (some ⟨rb, 0, none⟩)) ∧ wx.cell? ⟨w.heap.size, 3, none⟩ = some (.int .i64 i) ∧ wx.cell? ⟨w.heap.size, 4, none⟩ = some (.int .u8 c) ∧ wx.cell? ⟨w.heap.size, 5, none⟩ = some (.int .u8 d)) := fun wx hr => ⟨heap_cell (HI2.out.below_drew.dk (HI2.out.below_drew.d.rh hr)).d.m rfl, heap_cell (ops_rh (w1 := w2.drew) HO2.out HI2.out.below_drew.d.r hr) rfl, heap_cell (ops_rh (w1 := w2.drew) HO2.out HI2.out.below_drew.d.r hr) rfl, heap_cell (ops_rh (w1 := w2.drew) HO2.out HI2.out.below_drew.d.r hr) rfl⟩
  clear hx ho2 q0 q1 q2 q3 q4 q5 q6 HC HW1
  go_wp2_with fail
  go_region_held3 (fun wx => wx.cell? ⟨db, 0, none⟩ = some (.pointer (some ⟨rb, 0, none⟩)) ∧ wx.cell? ⟨w.heap.size, 3, none⟩ = some (.int .i64 i) ∧ wx.cell? ⟨w.heap.size, 4, none⟩ = some (.int .u8 c) ∧ wx.cell? ⟨w.heap.size, 5, none⟩ = some (.int .u8 d)) (first | (go_keep; done) | exact ⟨m0, o3, o4, o5⟩ | exact HMk.out _ hr) (first | (go_at_call 38; refine HR.out.mono ?_; rintro e w' ⟨rfl, hr⟩) | fail)
  have HF : Hid (StR w0 mb hb ab db rb g b row Ni 2 (.returned (.bool true)) w') := ⟨rfl, rv, rd, row, (turnH h i c d), vi, Ni, Vi, HI2.out.below_drew.dk (HI2.out.below_drew.d.rh hr), by omega, by omega⟩
  clear hr HR HMk m0
  go_wp2_with fail
  go_ret
  exact HF.out
set_option maxRecDepth 100000 in
set_option maxHeartbeats 16000000 in
theorem step_drop (H : GT w0 w mb hb ab db rb g b rv rd row row h h vi Ni Vi) (ws cs : Value) (i c d x : Int) :
    Calls Tryd.prog 9 #[.pointer (some ⟨mb, 0, none⟩), .pointer (some ⟨hb, 0, none⟩), .pointer (some ⟨db, 0, none⟩), .agg (opC 6 ws cs i c d x), .pointer (some ⟨b, 0, none⟩)] w fun e w' => StR w0 mb hb ab db rb g b row Ni 2 e w' := by
  obtain ⟨w1, hw1⟩ : ∃ w1, w1 = w.alloc (.cells (opC 6 ws cs i c d x) 31) := ⟨_, rfl⟩
  have hB1 : Below w.heap.size w w1 := hw1 ▸ (Below.refl _ w).alloc (Nat.le_refl _) _
  have ho1 : w1.heap[w.heap.size]? = some (.cells (opC 6 ws cs i c d x) 31 (0, 0)) := hw1 ▸ heap_alloc_new w _
  have H1 := H.below hB1
  have HH1 : Hid (GT w0 w1 mb hb ab db rb g b rv rd row row h h vi Ni Vi) := H1
  have HO1 : Hid (w1.heap[w.heap.size]? = some (.cells (opC 6 ws cs i c d x) 31 (0, 0))) := ho1
  have HC : Hid (Calls Tryd.prog 39 #[.pointer (some ⟨hb, 0, none⟩), .int .i64 i] w1 fun e w' => e = .returned (.int .i64 (dropE h i)) ∧ ExR hb ab (dropH h i) w1 w') := drop_any i H1.m.c
  obtain ⟨q0, q1, q2, q3, q4, q5, q6⟩ := op_at w 6 ws cs i c d x
  rw [← hw1] at q0 q1 q2 q3 q4 q5 q6
  have HW1 : Hid (w1 = w.alloc (.cells (opC 6 ws cs i c d x) 31)) := hw1
  clear hw1 hB1 ho1 H1 H
  go_enter Tryd.func9, Tryd.ntmps9
  go_wp2_with fail
  rw [← HW1.out]
  refine Calls.mono HC.out ?_
  rintro e w2 ⟨rfl, hx⟩
  have HI2 : Hid (GT w0 w2 mb hb ab db rb g b rv rd row row (dropH h i) h vi Ni Vi) := HH1.out.mks (HH1.out.m.ex hx)
  have ho2 := ops_ex HO1.out HH1.out.m.c hx
  have HO2 : Hid (w2.heap[w.heap.size]? = some (.cells (opC 6 ws cs i c d x) 31 (0, 0))) := ho2
  have m0 : w2.cell? ⟨db, 0, none⟩ = some (.pointer (some ⟨rb, 0, none⟩)) := heap_cell HI2.out.d.m rfl
  have o3 : w2.cell? ⟨w.heap.size, 3, none⟩ = some (.int .i64 i) := heap_cell ho2 rfl
  have HR : Hid (Calls Tryd.prog 40 #[.pointer (some ⟨rb, 0, none⟩), .int .i64 i] w2.drew fun e w' => e = .returned (.int .i64 (dropE h i)) ∧ RhR rb g (dropH h i) w2.drew w') := rdrop_any i HI2.out.below_drew.d.r
  have HMk : Hid (∀ wx, RhR rb g (dropH h i) w2.drew wx → wx.cell? ⟨db, 0, none⟩ = some (.pointer (some ⟨rb, 0, none⟩)) ∧ wx.cell? ⟨w.heap.size, 3, none⟩ = some (.int .i64 i)) := fun wx hr => ⟨heap_cell (HI2.out.below_drew.dk (HI2.out.below_drew.d.rh hr)).d.m rfl, heap_cell (ops_rh (w1 := w2.drew) HO2.out HI2.out.below_drew.d.r hr) rfl⟩
  clear hx ho2 q0 q1 q2 q3 q4 q5 q6 HC HW1
  go_wp2_with fail
  go_region_held3 (fun wx => wx.cell? ⟨db, 0, none⟩ = some (.pointer (some ⟨rb, 0, none⟩)) ∧ wx.cell? ⟨w.heap.size, 3, none⟩ = some (.int .i64 i)) (first | (go_keep; done) | exact ⟨m0, o3⟩ | exact HMk.out _ hr) (first | (go_at_call 40; refine HR.out.mono ?_; rintro e w' ⟨rfl, hr⟩) | fail)
  have HF : Hid (StR w0 mb hb ab db rb g b row Ni 2 (.returned (.bool true)) w') := ⟨rfl, rv, rd, row, (dropH h i), vi, Ni, Vi, HI2.out.below_drew.dk (HI2.out.below_drew.d.rh hr), by omega, by omega⟩
  clear hr HR HMk m0
  go_wp2_with fail
  go_ret
  exact HF.out
set_option maxRecDepth 100000 in
set_option maxHeartbeats 16000000 in
theorem step_swap (H : GT w0 w mb hb ab db rb g b rv rd row row h h vi Ni Vi) (ws cs : Value) (i c d x : Int) (hx0 : Rng x) :
    Calls Tryd.prog 9 #[.pointer (some ⟨mb, 0, none⟩), .pointer (some ⟨hb, 0, none⟩), .pointer (some ⟨db, 0, none⟩), .agg (opC 7 ws cs i c d x), .pointer (some ⟨b, 0, none⟩)] w fun e w' => StR w0 mb hb ab db rb g b row Ni 2 e w' := by
  obtain ⟨w1, hw1⟩ : ∃ w1, w1 = w.alloc (.cells (opC 7 ws cs i c d x) 31) := ⟨_, rfl⟩
  have hB1 : Below w.heap.size w w1 := hw1 ▸ (Below.refl _ w).alloc (Nat.le_refl _) _
  have ho1 : w1.heap[w.heap.size]? = some (.cells (opC 7 ws cs i c d x) 31 (0, 0)) := hw1 ▸ heap_alloc_new w _
  have H1 := H.below hB1
  have HH1 : Hid (GT w0 w1 mb hb ab db rb g b rv rd row row h h vi Ni Vi) := H1
  have HO1 : Hid (w1.heap[w.heap.size]? = some (.cells (opC 7 ws cs i c d x) 31 (0, 0))) := ho1
  have HC : Hid (Calls Tryd.prog 41 #[.pointer (some ⟨hb, 0, none⟩), .int .i64 i, .int .i64 0, .int .u64 x] w1 fun e w' => SwR hb ab (swapH h i x) w1 e w') := swap_any i x H1.m.c hx0
  obtain ⟨q0, q1, q2, q3, q4, q5, q6⟩ := op_at w 7 ws cs i c d x
  rw [← hw1] at q0 q1 q2 q3 q4 q5 q6
  have HW1 : Hid (w1 = w.alloc (.cells (opC 7 ws cs i c d x) 31)) := hw1
  clear hw1 hB1 ho1 H1 H
  go_enter Tryd.func9, Tryd.ntmps9
  go_wp2_with fail
  rw [← HW1.out]
  refine Calls.mono HC.out ?_
  rintro e w2 ⟨⟨sa, sb, rfl⟩, hx⟩
  have HI2 : Hid (GT w0 w2 mb hb ab db rb g b rv rd row row (swapH h i x) h vi Ni Vi) := HH1.out.mks (HH1.out.m.ex hx)
  have ho2 := ops_ex HO1.out HH1.out.m.c hx
  have HO2 : Hid (w2.heap[w.heap.size]? = some (.cells (opC 7 ws cs i c d x) 31 (0, 0))) := ho2
  have m0 : w2.cell? ⟨db, 0, none⟩ = some (.pointer (some ⟨rb, 0, none⟩)) := heap_cell HI2.out.d.m rfl
  have o3 : w2.cell? ⟨w.heap.size, 3, none⟩ = some (.int .i64 i) := heap_cell ho2 rfl
  have o6 : w2.cell? ⟨w.heap.size, 6, none⟩ = some (.int .u64 x) := heap_cell ho2 rfl
  have HR : Hid (Calls Tryd.prog 42 #[.pointer (some ⟨rb, 0, none⟩), .int .i64 i, .int .i64 0, .int .u64 x] w2.drew fun e w' => RSw rb g (swapH h i x) w2.drew e w') := rswap_any i x HI2.out.below_drew.d.r hx0
  have HMk : Hid (∀ wx, RhR rb g (swapH h i x) w2.drew wx → wx.cell? ⟨db, 0, none⟩ = some (.pointer (some ⟨rb, 0, none⟩)) ∧ wx.cell? ⟨w.heap.size, 3, none⟩ = some (.int .i64 i) ∧ wx.cell? ⟨w.heap.size, 6, none⟩ = some (.int .u64 x)) := fun wx hr => ⟨heap_cell (HI2.out.below_drew.dk (HI2.out.below_drew.d.rh hr)).d.m rfl, heap_cell (ops_rh (w1 := w2.drew) HO2.out HI2.out.below_drew.d.r hr) rfl, heap_cell (ops_rh (w1 := w2.drew) HO2.out HI2.out.below_drew.d.r hr) rfl⟩
  clear hx ho2 q0 q1 q2 q3 q4 q5 q6 HC HW1
  go_wp2_with fail
  go_region_held3 (fun wx => wx.cell? ⟨db, 0, none⟩ = some (.pointer (some ⟨rb, 0, none⟩)) ∧ wx.cell? ⟨w.heap.size, 3, none⟩ = some (.int .i64 i) ∧ wx.cell? ⟨w.heap.size, 6, none⟩ = some (.int .u64 x)) (first | (go_keep; done) | exact ⟨m0, o3, o6⟩ | exact HMk.out _ hr) (first | (go_at_call 42; refine HR.out.mono ?_; rintro e w' ⟨⟨sa, sb, rfl⟩, hr⟩) | fail)
  have HF : Hid (StR w0 mb hb ab db rb g b row Ni 2 (.returned (.bool true)) w') := ⟨rfl, rv, rd, row, (swapH h i x), vi, Ni, Vi, HI2.out.below_drew.dk (HI2.out.below_drew.d.rh hr), by omega, by omega⟩
  clear hr HR HMk m0
  go_wp2_with fail
  go_ret
  exact HF.out
end
end Go.Proofs.YtiglmffnhbegiaaDoor
