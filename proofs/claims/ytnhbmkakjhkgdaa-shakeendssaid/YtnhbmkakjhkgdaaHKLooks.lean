/- All that is told behind a call is told alike. -/
import Derived.Test.YtnhbmkakjhkgdaaHKPair
namespace Go.Proofs.Ytnhbmkakjhkgdaa
open Go.RowKit

set_option maxRecDepth 100000 in
set_option maxHeartbeats 8000000 in
theorem looks_any (b r : Nat) (v : Value) (s : Sk) (t : Int) (w : World) (h : PX w b r v s) :
    Calls Try.prog 9 #[.pointer (some ⟨b, 0, none⟩), .pointer (some ⟨r, 0, none⟩), .int .i64 t] w fun e w' => e = .returned (.bool true) ∧ w' = w := by
  have h8 := h.ok.le
  obtain ⟨L, hL, hm⟩ := h.dl
  have HA : Hid (∀ t : Int, Calls Try.prog 23 #[.pointer (some ⟨b, 0, none⟩), .int .i64 t] w fun e w' => e = .returned (.bool (askedB s t)) ∧ w' = w) := fun t => asked_any b s t w h.sl h8
  have HS : Hid (∀ t : Int, Calls Try.prog 14 #[.pointer (some ⟨b, 0, none⟩), .int .i64 t] w fun e w' => e = .returned (.bool (scanB s t)) ∧ w' = w) := fun t => scanned_any b s t w h.sl h8
  have HRA : Hid (∀ t : Int, Calls Try.prog 24 #[.pointer (some ⟨r, 0, none⟩), .int .i64 t] w fun e w' => e = .returned (.bool (askedB s t)) ∧ w' = w) := fun t => refAsked_any r v L s t w hL hm h.ok
  have HRS : Hid (∀ t : Int, Calls Try.prog 25 #[.pointer (some ⟨r, 0, none⟩), .int .i64 t] w fun e w' => e = .returned (.bool (scanB s t)) ∧ w' = w) := fun t => refScanned_any r v L s t w hL hm h.ok
  have HLf : Hid _ := left_any b s w h.sl h8
  have HRL : Hid _ := refLeft_any r v L s w hL hm h.ok
  clear h hL hm
  go_enter Try.func9, Try.ntmps9
  go_wp2_with fail
  go_loopw [7] (fun i wr => ∃ j : Int, i = .int .i64 j ∧ -1 ≤ j ∧ j ≤ 11 ∧ wr = w) (fun i _ => (11 - intOf i).toNat)
  case atStart => exact ⟨-1, rfl, by omega, by omega, rfl⟩
  case round =>
    obtain ⟨j, rfl, hj1, hj, rfl⟩ := hrel
    by_cases hjl : j ≤ 10
    · go_wp2_with fail
      refine Calls.mono (HA.out j) ?_
      rintro e w1 ⟨rfl, rfl⟩
      go_wp2_with fail
      refine Calls.mono (HS.out j) ?_
      rintro e w2 ⟨rfl, rfl⟩
      go_wp2_with fail
      refine Calls.mono (HRA.out j) ?_
      rintro e w3 ⟨rfl, rfl⟩
      go_wp2_with fail
      refine Calls.mono (HRS.out j) ?_
      rintro e w4 ⟨rfl, rfl⟩
      go_wp2
      go_roundw
      case rel => exact ⟨j + 1, by go_num, by omega, by omega, by first | rfl | trivial⟩
      case measure => simp [intOf]; omega
    · have k1 : ¬ j ≤ 10 := hjl
      go_wp2_with fail
      refine Calls.mono (HA.out t) ?_
      rintro e w1 ⟨rfl, rfl⟩
      go_wp2_with fail
      refine Calls.mono (HS.out t) ?_
      rintro e w2 ⟨rfl, rfl⟩
      go_wp2_with fail
      refine Calls.mono HLf.out ?_
      rintro e w3 ⟨rfl, rfl⟩
      go_wp2_with fail
      refine Calls.mono (HRA.out t) ?_
      rintro e w4 ⟨rfl, rfl⟩
      go_wp2_with fail
      refine Calls.mono (HRS.out t) ?_
      rintro e w5 ⟨rfl, rfl⟩
      go_wp2_with fail
      refine Calls.mono HRL.out ?_
      rintro e w6 ⟨rfl, rfl⟩
      go_wp2
      go_ret
      exact ⟨by simp, rfl⟩
end Go.Proofs.Ytnhbmkakjhkgdaa
