/- The book's marks of texts. -/
import Derived.Test.YtpkohocjgnodnaaGreatDoorGBC
import Derived.Test.YtpkohocjgnodnaaGreatDoorGAY
import Derived.Test.YtpkohocjgnodnaaGreatDoorGAI
namespace Go.Proofs.YtpkohocjgnodnaaGreatDoor
open Go.RowKit

def mkP (a b : Nat) : List UInt8 := [UInt8.ofNat (97 + a % 26), UInt8.ofNat (97 + a / 26 % 26), UInt8.ofNat (97 + a / 676 % 26), UInt8.ofNat (97 + b % 26), UInt8.ofNat (97 + b / 26 % 26)]
abbrev mkO (a b : Nat) : Obj := .cells #[.int .u8 (97 + (a : Int) % 26), .int .u8 (97 + (a : Int) / 26 % 26), .int .u8 (97 + (a : Int) / 676 % 26), .int .u8 (97 + (b : Int) % 26), .int .u8 (97 + (b : Int) / 26 % 26)] 5
theorem byteU (n : Nat) : ((UInt8.ofNat (97 + n % 26)).toNat : Int) = 97 + (n : Int) % 26 := by rw [UInt8.toNat_ofNat']; omega
theorem conv_mark (a b : Nat) (w : World) : (convert 73 9 (.slice (some ⟨w.heap.size, 0, none⟩) 5 5)).run Tryz.prog (w.alloc (mkO a b)) = .ok (S (mkP a b)) (w.alloc (mkO a b)) := by
  refine run_convert_bytes_back (P := Tryz.prog) (w.alloc (mkO a b)) 73 9 5 ⟨w.heap.size, 0, none⟩ 5 (mkP a b) Tryz.underlying73 Tryz.underlying5 Tryz.underlying9 (fun j hj => ?_)
  have hj5 : j = 0 ∨ j = 1 ∨ j = 2 ∨ j = 3 ∨ j = 4 := by have : j < 5 := hj; omega
  have hn := heap_alloc_new w (mkO a b)
  have g : ∀ (k n : Nat), (mkP a b)[k]? = some (UInt8.ofNat (97 + n % 26)) → (w.alloc (mkO a b)).cell? ⟨w.heap.size, k, none⟩ = some (.int .u8 (97 + (n : Int) % 26)) → k = j → (w.alloc (mkO a b)).cell? ((⟨w.heap.size, 0, none⟩ : Addr).add j) = some (.int .u8 (((mkP a b)[j]).toNat : Int)) := fun k n h1 h2 hk => by
    subst hk
    have e : (mkP a b)[k] = UInt8.ofNat (97 + n % 26) := by rw [List.getElem?_eq_getElem hj] at h1; exact Option.some.inj h1
    have e2 : ((⟨w.heap.size, 0, none⟩ : Addr).add k) = ⟨w.heap.size, k, none⟩ := by simp [Addr.add]; exact fun h => h.symm
    rw [e, byteU, e2]
    exact h2
  have hcl : ∀ (k : Nat) (v : Value), (#[.int .u8 (97 + (a : Int) % 26), .int .u8 (97 + (a : Int) / 26 % 26), .int .u8 (97 + (a : Int) / 676 % 26), .int .u8 (97 + (b : Int) % 26), .int .u8 (97 + (b : Int) / 26 % 26)] : Array Value)[k]? = some v → (w.alloc (mkO a b)).cell? ⟨w.heap.size, k, none⟩ = some v := fun k v h => heap_cell hn h
  rcases hj5 with rfl | rfl | rfl | rfl | rfl
  · exact g 0 a rfl (hcl 0 _ rfl) rfl
  · exact g 1 (a / 26) rfl (hcl 1 _ rfl) rfl
  · exact g 2 (a / 676) rfl (hcl 2 _ rfl) rfl
  · exact g 3 b rfl (hcl 3 _ rfl) rfl
  · exact g 4 (b / 26) rfl (hcl 4 _ rfl) rfl
set_option maxRecDepth 100000 in
set_option maxHeartbeats 4000000 in
theorem mark_nat (a b : Nat) (w : World) (ha : a ≤ 1000000000) (hb : b ≤ 1000000000) :
    Calls Tryz.prog 97 #[.int .i64 (a : Int), .int .i64 (b : Int)] w fun e w' => e = .returned (S (mkP a b)) ∧ Below w.heap.size w w' := by
  have kc := conv_mark a b w
  have Hal : Hid (Below w.heap.size w (w.alloc (mkO a b))) := (Below.refl _ w).alloc (Nat.le_refl _) _
  have i1 : ¬ (a : Int) < 0 := by omega
  generalize mkP a b = t at *
  go_enter Tryz.func97, Tryz.ntmps97
  go_wp2
  go_ret
  exact ⟨rfl, Hal.out⟩
/-- A mark of a text: of whatever list and place. -/
def mkT (a b : Int) : List UInt8 := if a < 0 then 45 :: mkP (-a).toNat b.toNat else mkP a.toNat b.toNat
theorem mkP_len (a b : Nat) : (mkP a b).length = 5 := rfl
set_option maxRecDepth 100000 in
set_option maxHeartbeats 4000000 in
theorem mark_any (a b : Int) (w : World) (ha : -1000000000 ≤ a ∧ a ≤ 1000000000) (hb : 0 ≤ b ∧ b ≤ 1000000000) :
    Calls Tryz.prog 97 #[.int .i64 a, .int .i64 b] w fun e w' => e = .returned (S (mkT a b)) ∧ Below w.heap.size w w' := by
  obtain ⟨m, rfl⟩ : ∃ m : Nat, b = (m : Int) := ⟨b.toNat, by omega⟩
  by_cases h : a < 0
  · obtain ⟨k, rfl⟩ : ∃ k : Nat, a = -(k : Int) := ⟨(-a).toNat, by omega⟩
    have HV : Hid (mkT (-(k : Int)) (m : Int) = [45] ++ mkP k m) := by
      show _ = _
      unfold mkT
      rw [if_pos h, Int.neg_neg, Int.toNat_natCast, Int.toNat_natCast]
      rfl
    have HC : Hid (Calls Tryz.prog 97 #[.int .i64 (k : Int), .int .i64 (m : Int)] w fun e w' => e = .returned (S (mkP k m)) ∧ Below w.heap.size w w') := mark_nat k m w (by omega) (by omega)
    generalize mkT (-(k : Int)) (m : Int) = t at *
    have hk1 : (k : Int) ≤ 1000000000 := by omega
    have ar := add_run [45] (mkP k m) (by decide) (by rw [mkP_len]; decide)
    generalize mkP k m = u at *
    go_enter Tryz.func97, Tryz.ntmps97
    go_wp2_with fail
    refine Calls.mono HC.out ?_
    rintro e w1 ⟨rfl, hb1⟩
    have Hb1 : Hid (Below w.heap.size w w1) := hb1
    clear hb1
    go_wp2
    go_ret
    exact ⟨by rw [HV.out]; rfl, Hb1.out⟩
  · obtain ⟨k, rfl⟩ : ∃ k : Nat, a = (k : Int) := ⟨a.toNat, by omega⟩
    have e : mkT (k : Int) (m : Int) = mkP k m := by unfold mkT; rw [if_neg h]; rfl
    rw [e]
    exact mark_nat k m w (by omega) (by omega)
end Go.Proofs.YtpkohocjgnodnaaGreatDoor
