/- ReadBoth, at all inputs. -/
import Derived.Test.YtinpjpcokjfinaaDoorHBothWalk
namespace Go.Proofs.YtinpjpcokjfinaaDoor
open Go.RowKit

set_option maxRecDepth 100000 in
set_option maxHeartbeats 4000000 in
theorem both_big (s t gap : ByteArray) (w : World) (hE : EV w) (hT : TB w) (hs : s.size ≤ 281474976710656) (ht : t.size ≤ 281474976710656) (h : 65535 < s.size + t.size) :
    Calls Tryd.prog 5 #[.string s, .string t, .string gap] w fun e w' => e = .returned (.bool true) ∧ Below w.heap.size w w' := by
  have HE : Hid (EV w) := hE
  have HT : Hid (TB w) := hT
  have hsa : (s.size : Int) ≤ 281474976710656 := by omega
  have hta : (t.size : Int) ≤ 281474976710656 := by omega
  have hbig : (65535 : Int) < (s.size : Int) + (t.size : Int) := by omega
  clear hE hT hs ht h
  go_enter Tryd.func5, Tryd.ntmps5
  go_wp2_with fail
  refine (works_any w HE.out HT.out).mono ?_
  rintro e w1 ⟨rfl, hb1⟩
  have H1 : Hid (Below w.heap.size w w1) := hb1
  clear hb1
  go_wp2
  go_ret
  exact ⟨rfl, H1.out⟩

set_option maxRecDepth 100000 in
set_option maxHeartbeats 4000000 in
theorem both_gap (s t gap : ByteArray) (w : World) (hE : EV w) (hT : TB w) (h : s.size + t.size ≤ 65535) (hg : 100 < gap.size) :
    Calls Tryd.prog 5 #[.string s, .string t, .string gap] w fun e w' => e = .returned (.bool true) ∧ Below w.heap.size w w' := by
  have HE : Hid (EV w) := hE
  have HT : Hid (TB w) := hT
  have hsa : (s.size : Int) ≤ 65535 := by omega
  have hta : (t.size : Int) ≤ 65535 := by omega
  have hdec : decide ((65535 : Int) < (s.size : Int) + (t.size : Int)) = false := decide_eq_false (by omega)
  have hdec2 : decide ((100 : Int) < (gap.size : Int)) = true := decide_eq_true (by omega)
  clear hE hT h hg
  go_enter Tryd.func5, Tryd.ntmps5
  go_wp2_with fail
  refine (works_any w HE.out HT.out).mono ?_
  rintro e w1 ⟨rfl, hb1⟩
  have H1 : Hid (Below w.heap.size w w1) := hb1
  clear hb1
  go_wp2
  go_ret
  exact ⟨rfl, H1.out⟩

theorem readBoth_walk (s t gap : ByteArray) (w : World) (hs : s.size ≤ 281474976710656) (ht : t.size ≤ 281474976710656) (hE : EV w) (hT : TB w) :
    Calls Tryd.prog 5 #[.string s, .string t, .string gap] w fun e w' => e = .returned (.bool true) ∧ Below w.heap.size w w' := by
  by_cases h : 65535 < s.size + t.size
  · exact both_big s t gap w hE hT hs ht h
  · by_cases hg : 100 < gap.size
    · exact both_gap s t gap w hE hT (by omega) hg
    · exact both_main s t gap w hE hT (by omega) (by omega)
end Go.Proofs.YtinpjpcokjfinaaDoor
