/- A lent heap: what is read of it; WholeCells. -/
import Derived.Test.YtigcpbndmiefhaaDoorHBSameK
namespace Go.Proofs.YtigcpbndmiefhaaDoor
open Go.RowKit

abbrev LentW (W : World) (B g : Nat) (H : List Cl) : Prop := W.ownsRow B 58 4 (.slice (some ⟨g, 0, none⟩) (H.length + 2) (H.length + 2)) (H.length + 2) (cl4 H ++ mkC)
theorem lent_at {W : World} {B g : Nat} {H : List Cl} (h : LentW W B g H) : ∃ cs, W.heap[g]? = some (.cells cs 58 (0, 0)) ∧ B ≤ g ∧ ∀ (k : Nat) (u : Value), (cl4 H ++ mkC)[k]? = some u → cs[k]? = some u := by
  obtain ⟨cs, h1, _, _, _, h5, _, h7⟩ := own_out h
  exact ⟨cs, h1, h5, h7⟩
theorem hr_lent {W : World} {B g : Nat} {H : List Cl} (h : LentW W B g H) (hk : ∀ x ∈ H, OkK x) : HR W (some ⟨g, 0, none⟩) H := by
  obtain ⟨cs, h1, _, h3⟩ := lent_at h
  refine ⟨g, 0, .inr rfl, fun j x hx => ⟨heap_lt h1, ?_, hk x (List.mem_of_getElem? hx)⟩⟩
  obtain ⟨q0, q1, q2, q3⟩ := cl4_at H j x hx
  have e : ∀ (k : Nat) (u : Value), (cl4 H)[k]? = some u → cs[k]? = some u := fun k u hu => h3 k u (by rw [List.getElem?_append_left (List.getElem?_eq_some_iff.1 hu).1]; exact hu)
  simp only [Nat.zero_add]
  exact ⟨heap_cell h1 (e _ _ q0), heap_cell h1 (e _ _ q1), heap_cell h1 (e _ _ q2), heap_cell h1 (e _ _ q3)⟩
theorem mark_at {W : World} {B g : Nat} {H : List Cl} (h : LentW W B g H) (j : Nat) (u : Value) (hu : mkC[j]? = some u) : W.cell? ⟨g, H.length * 4 + j, none⟩ = some u := by
  obtain ⟨cs, h1, _, h3⟩ := lent_at h
  refine heap_cell h1 (h3 _ _ ?_)
  rw [List.getElem?_append_right (by rw [cl4_len]; omega), cl4_len, Nat.add_sub_cancel_left]
  exact hu
theorem eqCl_same (a : Int) (w : World) : (binOp .eql 58 (.agg #[.int .u8 0, .int .u8 0, .int .u64 a, .int .u64 0]) (.agg #[.int .u8 0, .int .u8 0, .int .u64 a, .int .u64 0])).run Tryd.prog w = .ok (.bool true) w := by
  have u1 := Tryd.underlying56
  have u2 := Tryd.underlying55
  have u3 := Tryd.underlying24
  have hS : Tryd.prog.underlying 58 = some (.struct (Tryd.prog.fieldsOf 58)) := by kernel_rfl
  have hp : Tryd.prog.stoodInHeld 58 = false := by kernel_rfl
  rw [run_eql_struct, show (10000 : Nat) = 9999 + 1 from rfl, run_equalIn_agg w 9999 58 _ _ hS hp]
  simp only [Program.fieldsOf, Tryd.underlying58]
  have e : (a == a) = true := by simp
  go_simp
set_option maxRecDepth 100000 in
set_option maxHeartbeats 8000000 in
theorem wholeK_any (H : List Cl) (g B : Nat) (rb : Option Addr) (cb : Nat) (w : World) (hl : H.length ≤ 1000000) (h : LentW w B g H) (hk : ∀ x ∈ H, OkK x) (hR : HX w rb H) :
    Calls Tryd.prog 17 #[.slice (some ⟨g, 0, none⟩) H.length (H.length + 2), .slice rb H.length cb] w fun e w' => e = .returned (.bool true) ∧ Below w.heap.size w w' := by
  have HS : Hid _ := sameK_any H H (some ⟨g, 0, none⟩) rb (H.length + 2) cb w (by unfold maxLen; omega) (by unfold maxLen; omega) (hr_lent h hk).hx hR
  rw [decide_eq_true rfl] at HS
  have m0 := mark_at h 0 _ rfl
  have m1 := mark_at h 1 _ rfl
  have m2 := mark_at h 2 _ rfl
  have m3 := mark_at h 3 _ rfl
  have m4 := mark_at h 4 _ rfl
  have m5 := mark_at h 5 _ rfl
  have m6 := mark_at h 6 _ rfl
  have m7 := mark_at h 7 _ rfl
  rw [Nat.add_zero] at m0
  rw [show H.length * 4 + 2 = H.length * 4 + 1 + 1 by omega] at m2
  rw [show H.length * 4 + 3 = H.length * 4 + 1 + 1 + 1 by omega] at m3
  rw [show H.length * 4 + 4 = (H.length + 1) * 4 by omega] at m4
  rw [show H.length * 4 + 5 = (H.length + 1) * 4 + 1 by omega] at m5
  rw [show H.length * 4 + 6 = (H.length + 1) * 4 + 1 + 1 by omega] at m6
  rw [show H.length * 4 + 7 = (H.length + 1) * 4 + 1 + 1 + 1 by omega] at m7
  obtain ⟨cs, h1, _, _⟩ := lent_at h
  have lg := heap_lt h1
  have q1 := eqCl_same 77777771 w
  have q2 := eqCl_same 77777772 w
  clear h hk hR h1
  go_enter Tryd.func17, Tryd.ntmps17
  go_wp2_with fail
  refine Calls.mono HS.out ?_
  rintro e w1 ⟨rfl, hb⟩
  have HB : Hid (Below w.heap.size w w1) := hb
  clear hb HS
  go_wp2
  go_ret
  exact ⟨rfl, HB.out⟩
end Go.Proofs.YtigcpbndmiefhaaDoor
