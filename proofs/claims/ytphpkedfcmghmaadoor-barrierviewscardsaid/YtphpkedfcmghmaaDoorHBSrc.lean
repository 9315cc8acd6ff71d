/- The closures that say what counts as a source. -/
import Derived.Test.YtphpkedfcmghmaaDoorHBMay
namespace Go.Proofs.YtphpkedfcmghmaaDoor
open Go.RowKit

theorem two_box {w : World} {p : Vp} {v : Vw} {b : Nat} (o : Obj) (hV : VL w p v) (hB : VB w b p v) : VL (w.alloc o) p v ∧ VB (w.alloc o) b p v ∧ Below w.heap.size w (w.alloc o) :=
  have hb := (Below.refl _ w).alloc (Nat.le_refl w.heap.size) o
  have hk := kc_below (N := w.heap.size) (Nat.le_refl _) hb
  ⟨hV.kc hk, hB.kc hk, hb⟩
set_option maxRecDepth 100000 in
set_option maxHeartbeats 4000000 in
theorem guarded1_any (p : Vp) (v : Vw) (w : World) (x : Hd) (b : Nat) (hV : VL w p v) (hB : VB w b p v) (hx : HdOk v x) :
    Calls Tryd.prog 67 #[hdV x, .pointer (some ⟨b, 0, none⟩)] w fun e w' => e = .returned (.bool (colM v x == 1)) ∧ Below w.heap.size w w' := by
  obtain ⟨h1, h2, h3⟩ := two_box (.cells #[.int .u8 x.s, .int .i64 x.i] 113) hV hB
  have HC : Hid _ := colourOf_any p v (w.alloc (.cells #[.int .u8 x.s, .int .i64 x.i] 113)) x h1 hx
  have HB : Hid (Below w.heap.size w (w.alloc (.cells #[.int .u8 x.s, .int .i64 x.i] 113))) := h3
  obtain ⟨d0, d1, d2, d3, d4, d5, d6⟩ := h2.at7
  clear h1 h2 h3 hV hB hx
  unfold hdV
  go_enter Tryd.func67, Tryd.ntmps67
  go_wp2_with fail
  refine Calls.mono HC.out ?_
  rintro e w' ⟨rfl, hb⟩
  have HB2 : Hid (Below w.heap.size w w') := HB.out.trans (hb.mono HB.out.size)
  clear hb HC HB
  go_wp2
  go_ret
  exact ⟨rfl, HB2.out⟩
set_option maxRecDepth 100000 in
set_option maxHeartbeats 4000000 in
theorem holds2_any (p : Vp) (v : Vw) (w : World) (x : Hd) (b : Nat) (hV : VL w p v) (hB : VB w b p v) (hx : HdOk v x) :
    Calls Tryd.prog 56 #[hdV x, .pointer (some ⟨b, 0, none⟩)] w fun e w' => e = .returned (.bool (colM v x == 2)) ∧ Below w.heap.size w w' := by
  obtain ⟨h1, h2, h3⟩ := two_box (.cells #[.int .u8 x.s, .int .i64 x.i] 113) hV hB
  have HC : Hid _ := colourOf_any p v (w.alloc (.cells #[.int .u8 x.s, .int .i64 x.i] 113)) x h1 hx
  have HB : Hid (Below w.heap.size w (w.alloc (.cells #[.int .u8 x.s, .int .i64 x.i] 113))) := h3
  obtain ⟨d0, d1, d2, d3, d4, d5, d6⟩ := h2.at7
  clear h1 h2 h3 hV hB hx
  unfold hdV
  go_enter Tryd.func56, Tryd.ntmps56
  go_wp2_with fail
  refine Calls.mono HC.out ?_
  rintro e w' ⟨rfl, hb⟩
  have HB2 : Hid (Below w.heap.size w w') := HB.out.trans (hb.mono HB.out.size)
  clear hb HC HB
  go_wp2
  go_ret
  exact ⟨rfl, HB2.out⟩
set_option maxRecDepth 100000 in
set_option maxHeartbeats 4000000 in
theorem holds1_any (w : World) (x : Hd) :
    Calls Tryd.prog 54 #[hdV x] w fun e w' => e = .returned (.bool ((x.s : Int) != 0)) ∧ Below w.heap.size w w' := by
  have HB : Hid (Below w.heap.size w (w.alloc (.cells #[.int .u8 x.s, .int .i64 x.i] 113))) := (Below.refl _ w).alloc (Nat.le_refl w.heap.size) _
  unfold hdV
  go_enter Tryd.func54, Tryd.ntmps54
  go_wp2
  go_ret
  exact ⟨rfl, HB.out⟩
end Go.Proofs.YtphpkedfcmghmaaDoor
