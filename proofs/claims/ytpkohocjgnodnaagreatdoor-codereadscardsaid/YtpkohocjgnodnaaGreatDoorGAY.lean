/- The document's digits, and which instructions have a number.; The document's Names. -/
import Derived.Test.YtpkohocjgnodnaaGreatDoorGAQ
import Derived.Test.YtpkohocjgnodnaaGreatDoorHZCheck
import Derived.Lib.ItoaLen
import Derived.Lib.ItoaMem
/- The document's digits, and which instructions have a number. -/
namespace Go.Proofs.YtpkohocjgnodnaaGreatDoor
open Go.RowKit

theorem conv_digit (n : Nat) (w : World) : (convert 73 9 (.slice (some ⟨w.heap.size, 0, none⟩) 1 1)).run Tryz.prog (w.alloc (.cells #[.int .u8 (48 + (n : Int) % 10)] 5)) = .ok (S [UInt8.ofNat (48 + n % 10)]) (w.alloc (.cells #[.int .u8 (48 + (n : Int) % 10)] 5)) := by
  refine run_convert_bytes_back (P := Tryz.prog) (w.alloc (.cells #[.int .u8 (48 + (n : Int) % 10)] 5)) 73 9 5 ⟨w.heap.size, 0, none⟩ 1 [UInt8.ofNat (48 + n % 10)] Tryz.underlying73 Tryz.underlying5 Tryz.underlying9 (fun j hj => ?_)
  have : j = 0 := by simpa using hj
  subst this
  show (w.alloc _).cell? ⟨w.heap.size, 0, none⟩ = _
  rw [World.cell?_alloc_mark]
  have e : (UInt8.ofNat (48 + n % 10)).toNat = 48 + n % 10 := by
    rw [UInt8.toNat_ofNat']; omega
  simp
  omega

set_option maxRecDepth 100000 in
set_option maxHeartbeats 4000000 in
theorem digits_nat : ∀ (N n : Nat), n ≤ N → n ≤ 9223372036854775807 → ∀ w : World,
    Calls Tryz.prog 27 #[.int .i64 (n : Int)] w fun e w' => e = .returned (S (Lib.decDigits n)) ∧ Below w.heap.size w w' := by
  intro N
  induction N using Nat.strongRecOn with
  | _ N ih =>
  intro n hN hn w
  have HI : Hid (∀ m, m < N → ∀ n, n ≤ m → n ≤ 9223372036854775807 → ∀ w : World, Calls Tryz.prog 27 #[.int .i64 (n : Int)] w fun e w' => e = .returned (S (Lib.decDigits n)) ∧ Below w.heap.size w w') := ih
  clear ih
  have i0 : ¬ ((n : Int) < 0) := by omega
  have kc := conv_digit n
  obtain ⟨c, hc⟩ : ∃ c, UInt8.ofNat (48 + n % 10) = c := ⟨_, rfl⟩
  have Hc : Hid _ := hc
  rw [hc] at kc
  clear hc
  have Hal : Hid (Below w.heap.size w (w.alloc (.cells #[.int .u8 (48 + (n : Int) % 10)] 5))) := (Below.refl _ w).alloc (Nat.le_refl _) _
  by_cases h : n < 10
  · have i1 : (n : Int) < 10 := by omega
    have HV : Hid (Lib.decDigits n = [c]) := by show _ = _; rw [← Hc.out, Lib.decDigits_one h, Nat.mod_eq_of_lt h]
    go_enter Tryz.func27, Tryz.ntmps27
    go_wp2
    go_ret
    exact ⟨by rw [HV.out]; rfl, Hal.out⟩
  · have i1 : ¬ (n : Int) < 10 := by omega
    have HV : Hid (Lib.decDigits n = Lib.decDigits (n / 10) ++ [c]) := by
      show _ = _; rw [← Hc.out]; conv => lhs; rw [Lib.decDigits, dif_neg h]
    have hlen : (Lib.decDigits (n / 10)).length ≤ 21 := by
      have := Lib.itoa_length_le ((n / 10 : Nat) : Int) (by omega) (by omega)
      rwa [Lib.itoa_nonneg] at this
    go_enter Tryz.func27, Tryz.ntmps27
    go_wp2_with fail
    refine (HI.out (n / 10) (by omega) (n / 10) (Nat.le_refl _) (by omega) _).mono ?_
    rintro e w2 ⟨rfl, hb2⟩
    have HB2 : Hid (Below w.heap.size w w2) := Hal.out.trans (hb2.mono Hal.out.size)
    clear hb2
    go_wp2
    go_ret
    exact ⟨by rw [HV.out]; rfl, HB2.out⟩

set_option maxRecDepth 100000 in
set_option maxHeartbeats 4000000 in
theorem digits_any (n : Int) (h0 : -9223372036854775807 ≤ n) (h1 : n ≤ 9223372036854775807) (w : World) :
    Calls Tryz.prog 27 #[.int .i64 n] w fun e w' => e = .returned (S (Lib.itoa n)) ∧ Below w.heap.size w w' := by
  by_cases h : n < 0
  · obtain ⟨m, hm⟩ : ∃ m : Nat, n = -(m : Int) := ⟨n.natAbs, by omega⟩
    subst hm
    have HV : Hid (Lib.itoa (-(m : Int)) = 45 :: Lib.decDigits m) := by show _ = _; exact Lib.itoa_neg m (by omega)
    have hlen : (Lib.decDigits m).length ≤ 21 := by
      have := Lib.itoa_length_le (m : Int) (by omega) (by omega)
      rwa [Lib.itoa_nonneg] at this
    have hm0 : m ≤ 9223372036854775807 := by omega
    go_enter Tryz.func27, Tryz.ntmps27
    go_wp2_with fail
    refine (digits_nat m m (Nat.le_refl _) hm0 _).mono ?_
    rintro e w2 ⟨rfl, hb2⟩
    have HB2 : Hid (Below w.heap.size w w2) := hb2
    clear hb2
    go_wp2
    go_ret
    exact ⟨by rw [HV.out]; rfl, HB2.out⟩
  · obtain ⟨m, hm⟩ : ∃ m : Nat, n = (m : Int) := ⟨n.toNat, by omega⟩
    subst hm
    rw [Lib.itoa_nonneg]
    exact digits_nat m m (Nat.le_refl _) (by omega) w

set_option maxRecDepth 100000 in
set_option maxHeartbeats 4000000 in
theorem dHas_any (op : Int) (w : World) :
    Calls Tryz.prog 28 #[.int .u8 op] w fun e w' => e = .returned (.bool (opNumB op)) ∧ w' = w := by
  by_cases hin : op = 7 ∨ op = 12 ∨ op = 14 ∨ op = 15 ∨ op = 16 ∨ op = 17 ∨ op = 18
  · rcases hin with h | h | h | h | h | h | h
    all_goals
      subst h
      go_enter Tryz.func28, Tryz.ntmps28
      go_wp2
      go_ret
      exact ⟨rfl, rfl⟩
  · have h1 : (op == 7) = false := by simp; omega
    have h2 : (op == 12) = false := by simp; omega
    have h3 : (op == 14) = false := by simp; omega
    have h4 : (op == 15) = false := by simp; omega
    have h5 : (op == 16) = false := by simp; omega
    have h6 : (op == 17) = false := by simp; omega
    have h7 : (op == 18) = false := by simp; omega
    have HV : Hid (opNumB op = true) := by show _ = _; unfold opNumB; rw [h1, h2, h3, h4, h5, h6, h7]; rfl
    clear hin
    go_enter Tryz.func28, Tryz.ntmps28
    go_wp2
    go_ret
    exact ⟨by rw [HV.out]; rfl, rfl⟩
end Go.Proofs.YtpkohocjgnodnaaGreatDoor

/- The document's Names. -/
namespace Go.Proofs.YtpkohocjgnodnaaGreatDoor
open Go.RowKit

/-- The names of instructions in a row. -/
def NS (w : World) (b : Nat) : Prop := ∃ cs : Array Value, w.heap[b]? = some (.cells cs 9 (0, 0)) ∧ ∀ j : Nat, j < 19 → cs[j]? = some (S (opNames.getD j []))

set_option maxRecDepth 100000 in
set_option maxHeartbeats 4000000 in
theorem dNames_any (w : World) :
    Calls Tryz.prog 26 #[] w fun e w' => (∃ b, e = .returned (.slice (some ⟨b, 0, none⟩) 19 19) ∧ NS w' b) ∧ Below w.heap.size w w' := by
  go_enter Tryz.func26, Tryz.ntmps26
  go_wp2
  go_ret
  refine ⟨⟨w.heap.size, rfl, _, heap_alloc_new _ _, fun j hj => ?_⟩, (Below.refl _ w).alloc (Nat.le_refl _) _⟩
  have : j = 0 ∨ j = 1 ∨ j = 2 ∨ j = 3 ∨ j = 4 ∨ j = 5 ∨ j = 6 ∨ j = 7 ∨ j = 8 ∨ j = 9 ∨ j = 10 ∨ j = 11 ∨ j = 12 ∨ j = 13 ∨ j = 14 ∨ j = 15 ∨ j = 16 ∨ j = 17 ∨ j = 18 := by omega
  rcases this with rfl | rfl | rfl | rfl | rfl | rfl | rfl | rfl | rfl | rfl | rfl | rfl | rfl | rfl | rfl | rfl | rfl | rfl | rfl
  all_goals rfl
end Go.Proofs.YtpkohocjgnodnaaGreatDoor
