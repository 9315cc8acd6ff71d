/- FormsWithin. -/
import Derived.Test.YtkgnigloboajcaaGreatDoorWithin0
import Derived.Test.YtkgnigloboajcaaGreatDoorWithin1
import Derived.Test.YtkgnigloboajcaaGreatDoorWithin2
import Derived.Test.YtkgnigloboajcaaGreatDoorWithin3
import Derived.Test.YtkgnigloboajcaaGreatDoorWithin4
namespace Go.Proofs.YtkgnigloboajcaaGreatDoor
open Go.RowKit

theorem formsWithin_walk (x : Dt) (rk : Option Addr) (ck : Nat) (hw : Int) (w : World) (h0 : 0 ≤ hw) (hR : RS w rk x.s) (hm : x.s.len ≤ maxLen) (ht : x.t.length ≤ 281474976710656) (hs : x.s.sl) (hE : Env w) :
    Calls Tryz.prog 8 #[datV x (.slice rk x.s.len ck), .int .u8 hw] w fun e w' => e = .returned (.bool true) ∧ Below w.heap.size w w' := by
  have h5 : hw % 5 = 0 ∨ hw % 5 = 1 ∨ hw % 5 = 2 ∨ hw % 5 = 3 ∨ hw % 5 = 4 := by omega
  rcases h5 with h | h | h | h | h
  · exact within0_walk x rk ck hw w h0 h hR hm ht hs hE
  · exact within1_walk x rk ck hw w h0 h hR hm ht hs hE
  · exact within2_walk x rk ck hw w h0 h hR hm ht hs hE
  · exact within3_walk x rk ck hw w h0 h hR hm ht hs hE
  · exact within4_walk x rk ck hw w h0 h hR hm ht hs hE
end Go.Proofs.YtkgnigloboajcaaGreatDoor
