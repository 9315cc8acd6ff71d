/- The document's text of a datum that is no list. -/
import Derived.Test.YtlpdfifjdlfpdaaGreatDoorHRefDig
namespace Go.Proofs.YtlpdfifjdlfpdaaGreatDoor
open Go.RowKit

set_option maxRecDepth 100000 in
set_option maxHeartbeats 4000000 in
theorem text_1 (n : Int) (h0 : -9223372036854775807 ≤ n) (h1 : n ≤ 9223372036854775807) (t : List UInt8) (v : Value) (d : Bool) (w : World) :
    Calls Tryz.prog 50 #[.agg #[.int .u8 1, .int .i64 n, S t, v, .bool d]] w fun e w' => e = .returned (S (Lib.itoa n)) ∧ Below w.heap.size w w' := by
  have Hal : Hid (Below w.heap.size w (w.alloc (.cells #[.int .u8 1, .int .i64 n, S t, v, .bool d] 58))) := (Below.refl _ w).alloc (Nat.le_refl _) _
  go_enter Tryz.func50, Tryz.ntmps50
  go_wp2_with fail
  refine (digits_any n h0 h1 _).mono ?_
  rintro e w2 ⟨rfl, hb2⟩
  have HB2 : Hid (Below w.heap.size w w2) := Hal.out.trans (hb2.mono Hal.out.size)
  clear hb2
  go_wp2
  go_ret
  exact ⟨rfl, HB2.out⟩

set_option maxRecDepth 100000 in
set_option maxHeartbeats 4000000 in
theorem text_2 (n : Int) (t : List UInt8) (v : Value) (d : Bool) (w : World) :
    Calls Tryz.prog 50 #[.agg #[.int .u8 2, .int .i64 n, S t, v, .bool d]] w fun e w' => e = .returned (S t) ∧ Below w.heap.size w w' := by
  have Hal : Hid (Below w.heap.size w (w.alloc (.cells #[.int .u8 2, .int .i64 n, S t, v, .bool d] 58))) := (Below.refl _ w).alloc (Nat.le_refl _) _
  go_enter Tryz.func50, Tryz.ntmps50
  go_wp2
  go_ret
  exact ⟨rfl, Hal.out⟩

set_option maxRecDepth 100000 in
set_option maxHeartbeats 4000000 in
theorem text_3 (n : Int) (t : List UInt8) (v : Value) (d : Bool) (w : World) :
    Calls Tryz.prog 50 #[.agg #[.int .u8 3, .int .i64 n, S t, v, .bool d]] w fun e w' => e = .returned (S [35, 102]) ∧ Below w.heap.size w w' := by
  have Hal : Hid (Below w.heap.size w (w.alloc (.cells #[.int .u8 3, .int .i64 n, S t, v, .bool d] 58))) := (Below.refl _ w).alloc (Nat.le_refl _) _
  go_enter Tryz.func50, Tryz.ntmps50
  go_wp2
  go_ret
  exact ⟨rfl, Hal.out⟩

set_option maxRecDepth 100000 in
set_option maxHeartbeats 4000000 in
theorem text_4 (n : Int) (t : List UInt8) (v : Value) (d : Bool) (w : World) :
    Calls Tryz.prog 50 #[.agg #[.int .u8 4, .int .i64 n, S t, v, .bool d]] w fun e w' => e = .returned (S [35, 116]) ∧ Below w.heap.size w w' := by
  have Hal : Hid (Below w.heap.size w (w.alloc (.cells #[.int .u8 4, .int .i64 n, S t, v, .bool d] 58))) := (Below.refl _ w).alloc (Nat.le_refl _) _
  go_enter Tryz.func50, Tryz.ntmps50
  go_wp2
  go_ret
  exact ⟨rfl, Hal.out⟩
end Go.Proofs.YtlpdfifjdlfpdaaGreatDoor
