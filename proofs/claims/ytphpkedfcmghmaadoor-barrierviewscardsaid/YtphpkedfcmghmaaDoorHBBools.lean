/- slices.Contains of truths. -/
import Derived.Test.YtphpkedfcmghmaaDoorHBNamed
namespace Go.Proofs.YtphpkedfcmghmaaDoor
open Go.RowKit

set_option maxRecDepth 100000 in
set_option maxHeartbeats 4000000 in
theorem indexB_any (l : List Bool) (v : Bool) (ra : Option Addr) (ca : Nat) (w : World) (hl : l.length ≤ 281474976710656) (hR : RX (Value.bool) w ra l) :
    Calls Tryd.prog 105 #[.slice ra l.length ca, .bool v] w fun e w' => (∃ k : Int, e = .returned (.int .i64 k) ∧ decide (0 ≤ k) = l.any (fun z => z == v)) ∧ w' = w := by
  have HR : Hid (RX (Value.bool) w ra l) := hR
  clear hR
  go_enter Tryd.func105, Tryd.ntmps105
  go_wp2
  go_loopw [8, 5] (fun i _ wr => ∃ j : Nat, i = .int .i64 j ∧ j ≤ l.length ∧ Hid ((l.take j).any (fun z => z == v) = false) ∧ wr = w) (fun i _ _ => l.length - (intOf i).toNat)
  case atStart => exact ⟨0, rfl, Nat.zero_le _, rfl, rfl⟩
  case round =>
    obtain ⟨j, rfl, hj, HN, rfl⟩ := hrel
    by_cases hjl : j < l.length
    · have k1 : (j : Int) < (l.length : Int) := by omega
      obtain ⟨x, hx⟩ : ∃ x, l[j]? = some x := ⟨_, List.getElem?_eq_getElem hjl⟩
      obtain ⟨b, o, q1, q2⟩ := HR.out.at
      have q1' := q1 (by omega)
      subst q1'
      obtain ⟨q3, q4⟩ := q2 j x hx
      have HXx : Hid (l[j]? = some x) := hx
      clear q1 q2 hx
      by_cases hv : v = x
      · subst hv
        have z : (v == v) = true := by simp
        have HT : Hid (l.any (fun z => z == v) = true) := any_at HXx.out (by simp)
        go_wp2
        go_ret
        exact ⟨⟨(j : Int), rfl, by rw [HT.out]; exact decide_eq_true (by omega)⟩, rfl⟩
      · have z : (v == x) = false := by simpa using hv
        have HX2 : Hid ((l.take (j + 1)).any (fun z => z == v) = false) := (any_take HN.out HXx.out).trans (by simpa using fun e : x = v => hv e.symm)
        go_wp2
        go_roundw
        case rel => exact ⟨j + 1, by go_num, by omega, HX2, trivial⟩
        case measure => simp [intOf]; omega
    · have k1 : ¬ (j : Int) < (l.length : Int) := by omega
      have HE : Hid (l.any (fun z => z == v) = false) := by have := HN.out; rwa [List.take_of_length_le (by omega)] at this
      go_wp2
      go_ret
      exact ⟨⟨-1, rfl, by rw [HE.out]; rfl⟩, rfl⟩
set_option maxRecDepth 100000 in
set_option maxHeartbeats 4000000 in
theorem containsB_any (l : List Bool) (v : Bool) (ra : Option Addr) (ca : Nat) (w : World) (hl : l.length ≤ 281474976710656) (hR : RX (Value.bool) w ra l) :
    Calls Tryd.prog 100 #[.slice ra l.length ca, .bool v] w fun e w' => e = .returned (.bool (l.any (fun z => z == v))) ∧ w' = w := by
  have HI : Hid _ := indexB_any l v ra ca w hl hR
  clear hR
  go_enter Tryd.func100, Tryd.ntmps100
  go_wp2_with fail
  refine Calls.mono HI.out ?_
  rintro e w1 ⟨⟨k, rfl, hk⟩, rfl⟩
  have HK : Hid (decide (0 ≤ k) = l.any (fun z => z == v)) := hk
  clear hk HI
  go_wp2
  go_ret
  exact ⟨ret_bool HK.out, rfl⟩
end Go.Proofs.YtphpkedfcmghmaaDoor
