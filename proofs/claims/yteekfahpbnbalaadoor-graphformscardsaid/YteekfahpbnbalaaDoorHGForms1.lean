/- Where it is no heap. -/
import Derived.Test.YteekfahpbnbalaaDoorHGForms0
namespace Go.Proofs.YteekfahpbnbalaaDoor
open Go.RowKit

set_option maxRecDepth 100000 in
set_option maxHeartbeats 40000000 in
theorem graphForms_bad (h : List Cl) (l od : List Int) (at' : Int) (ra rb rc : Option Addr) (ca cb cc : Nat) (w : World) (hH : HR w ra h) (hR : WR w rb l) (hO : RX (Value.int .i64) w rc od) (hT : Tab w) (hod : ∀ x ∈ od, -9223372036854775808 ≤ x ∧ x ≤ 9223372036854775807) (h1 : h.length ≤ 2000) (h2 : l.length ≤ 1000) (h3 : od.length ≤ 4000) (hok : heapB h l = false) :
    Calls Tryd.prog 5 #[.agg #[.slice ra h.length ca, .slice rb l.length cb, .slice rc od.length cc, .int .i64 at']] w fun e w' => e = .returned (.bool true) ∧ Below w.heap.size w w' := by
  have a0 := al_below w (.cells #[.slice ra h.length ca, .slice rb l.length cb, .slice rc od.length cc, .int .i64 at'] 45)
  have b0 := heap_alloc_new w (.cells #[.slice ra h.length ca, .slice rb l.length cb, .slice rc od.length cc, .int .i64 at'] 45)
  have c0 := heap_cell (j := 0) b0 rfl
  have c1 := heap_cell (j := 1) b0 rfl
  have c2 := heap_cell (j := 2) b0 rfl
  have l0 := heap_lt b0
  have HG : Hid (Gv h l od at' ra rb rc ca cb cc w.heap.size (w.alloc (.cells #[.slice ra h.length ca, .slice rb l.length cb, .slice rc od.length cc, .int .i64 at'] 45))) := ⟨hH.below a0, hR.below a0, hO.below a0, hT.below a0, b0⟩
  have HB : Hid (Below w.heap.size w (w.alloc (.cells #[.slice ra h.length ca, .slice rb l.length cb, .slice rc od.length cc, .int .i64 at'] 45))) := a0
  have HN : Hid (∀ x ∈ od, -9223372036854775808 ≤ x ∧ x ≤ 9223372036854775807) := hod
  clear hH hR hO hT a0 b0 hod
  have j1 : ¬ (2000 : Int) < (h.length : Int) := by omega
  have j2 : ¬ (1000 : Int) < (l.length : Int) := by omega
  have j3 : ¬ (4000 : Int) < (od.length : Int) := by omega
  have HO : Hid (heapB h l = false) := hok
  clear hok
  go_enter Tryd.func5, Tryd.ntmps5
  go_upto_region 1 with fail
  generalize w.alloc (.cells #[.slice ra h.length ca, .slice rb l.length cb, .slice rc od.length cc, .int .i64 at'] 45) = W at *
  go_wp2_with fail
  refine Calls.mono (known_any W HG.out.t) ?_
  rintro e w1 ⟨rfl, hb⟩
  have HG1 : Hid (Gv h l od at' ra rb rc ca cb cc w.heap.size w1) := HG.out.below hb
  have HB1 : Hid (Below w.heap.size w w1) := HB.out.trans (hb.mono HB.out.size)
  clear hb HG HB c0 c1 c2 l0
  go_wp2_with fail
  refine Calls.mono (form_bad h l ra rb ca cb w1 HG1.out.hh HG1.out.ll HG1.out.t (by omega) (by omega) HO.out) ?_
  rintro e w2 ⟨rfl, hb⟩
  have HB2 : Hid (Below w.heap.size w w2) := HB1.out.trans (hb.mono HB1.out.size)
  clear hb
  go_wp2
  go_ret
  exact ⟨rfl, HB2.out⟩
end Go.Proofs.YteekfahpbnbalaaDoor
