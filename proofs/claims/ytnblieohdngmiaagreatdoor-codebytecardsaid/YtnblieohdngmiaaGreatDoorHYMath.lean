/- One byte turned; pick; bytes of a text. -/
import Derived.Test.YtnblieohdngmiaaGreatDoorHCBack
import Derived.Lib.ConvBytes
import Derived.Laws.IdiomStrings
import Derived.Laws.BitsAllLaws
namespace Go.Proofs.YtnblieohdngmiaaGreatDoor
open Go.RowKit

/-- A text with one byte turned. -/
def turnT (T : List UInt8) (k : Nat) (n : Nat) : List UInt8 := T.set k (UInt8.ofNat ((T.getD k 0).toNat ^^^ n))
theorem turnT_zero (T : List UInt8) (k : Nat) : turnT T k 0 = T := by
  unfold turnT
  rw [Nat.xor_zero]
  refine List.ext_getElem? fun j => ?_
  rw [List.getElem?_set]
  split
  · rename_i h
    subst h
    split
    · rename_i h
      rw [List.getD_eq_getElem?_getD, List.getElem?_eq_getElem h]
      simp
    · rename_i h
      exact (List.getElem?_eq_none (by omega)).symm
  · rfl
theorem turnT_ne {T : List UInt8} {k n : Nat} (hk : k < T.length) (hn : n < 256) (h0 : n ≠ 0) : turnT T k n ≠ T := by
  intro h
  have h1 := congrArg (fun l : List UInt8 => l[k]?) h
  unfold turnT at h1
  simp only [List.getElem?_set_self hk, List.getElem?_eq_getElem hk, Option.some.injEq, List.getD_eq_getElem?_getD, Option.getD_some] at h1
  have h2 := congrArg UInt8.toNat h1
  have hb : T[k].toNat < 256 := T[k].toNat_lt
  have hx : T[k].toNat ^^^ n < 2 ^ 8 := Nat.xor_lt_two_pow (by omega) (by omega)
  rw [UInt8.toNat_ofNat', Nat.mod_eq_of_lt (by omega)] at h2
  have h3 : T[k].toNat ^^^ (T[k].toNat ^^^ n) = T[k].toNat ^^^ T[k].toNat := by rw [h2]
  rw [← Nat.xor_assoc, Nat.xor_self, Nat.zero_xor] at h3
  exact h0 h3
theorem turnT_len (T : List UInt8) (k n : Nat) : (turnT T k n).length = T.length := by unfold turnT; simp

def PickR (n : Nat) (e : Ending) : Prop := ∃ k : Nat, k < n ∧ e = .returned (.int .i64 k)
theorem mod_pick {a n : Int} (ha : 0 ≤ a) (hn : 0 < n) : ∃ k : Nat, (k : Int) < n ∧ a.tmod n = k :=
  ⟨(a % n).toNat, by have := Int.emod_lt_of_pos a hn; have := Int.emod_nonneg a (by omega : n ≠ 0); omega, by
    rw [Int.tmod_eq_emod_of_nonneg ha]; have := Int.emod_nonneg a (by omega : n ≠ 0); omega⟩
set_option maxRecDepth 100000 in
set_option maxHeartbeats 4000000 in
theorem pick_any (a : Int) (n : Nat) (w : World) (ha : -9223372036854775808 ≤ a ∧ a ≤ 9223372036854775807) (hn : 0 < n) (hn' : n ≤ 281474976710656) :
    Calls Tryz.prog 24 #[.int .i64 a, .int .i64 n] w fun e w' => PickR n e ∧ w' = w := by
  have i2 : ((n : Int) == 0) = false := by simp; omega
  have hn1 : (0 : Int) < (n : Int) := by omega
  obtain ⟨a1, a2⟩ := ha
  by_cases h : a < 0
  · obtain ⟨k, hk, he⟩ := mod_pick (a := -(a + 1)) (n := (n : Int)) (by omega) hn1
    have Hk : Hid (k < n) := by show k < n; omega
    have i3 : a + 1 ≤ 9223372036854775807 := by omega
    have i4 : -9223372036854775808 ≤ a + 1 := by omega
    clear hk
    go_enter Tryz.func24, Tryz.ntmps24
    go_wp2
    go_ret
    refine ⟨⟨k, Hk.out, ?_⟩, rfl⟩
    rw [← he]; rfl
  · obtain ⟨k, hk, he⟩ := mod_pick (a := a) (n := (n : Int)) (by omega) hn1
    have Hk : Hid (k < n) := by show k < n; omega
    clear hk
    go_enter Tryz.func24, Tryz.ntmps24
    go_wp2
    go_ret
    exact ⟨⟨k, Hk.out, by rw [← he]; rfl⟩, rfl⟩

/-- What stands of the bytes of a text in a row of their own. -/
structure ByR (w W : World) (T : List UInt8) : Prop where
  bel : Below w.heap.size w W
  size : W.heap.size = w.heap.size + 1
  cell : ∀ j (hj : j < T.length), W.cell? ⟨w.heap.size, j, none⟩ = some (.int .u8 (T[j].toNat : Int))
  fz : ∀ j, j < T.length → W.frozen? ⟨w.heap.size, j, none⟩ = false
theorem bytes_of (T : List UInt8) (w : World) : ∃ W cap, (convert 9 64 (S T)).run Tryz.prog w = .ok (.slice (some ⟨w.heap.size, 0, none⟩) T.length cap) W ∧ ByR w W T := by
  refine ⟨_, _, Lib.run_convert_string_bytes (P := Tryz.prog) w 9 64 5 ⟨T.toArray⟩ Tryz.underlying9 Tryz.underlying64 Tryz.underlying5, ⟨?_, Lib.bytesWorld_size .., fun j hj => ?_, fun j hj => ?_⟩⟩
  · refine ⟨?_, ?_, ?_, ?_, fun g hg => Lib.bytesWorld_at_old _ _ _ g hg⟩
    · rfl
    · rfl
    · rfl
    · rw [Lib.bytesWorld_size]; omega
  · rw [Lib.bytesWorld_cell _ _ _ _ (show j < (ByteArray.mk T.toArray).size from hj)]
    simp [List.getElem?_eq_getElem hj]
  · simp only [World.frozen?, Lib.bytesWorld_at_new]
    simp [Lib.bytesCells]
    intro h
    have : (ByteArray.mk T.toArray).size = T.length := rfl
    omega
theorem back_of {w W : World} {T : List UInt8} (h : ByR w W T) {k n : Nat} (hk : k < T.length) (hn : n < 256) (cap : Nat) :
    (convert 64 9 (.slice (some ⟨w.heap.size, 0, none⟩) T.length cap)).run Tryz.prog (W.setCell ⟨w.heap.size, k, none⟩ (.int .u8 ((T[k].toNat ^^^ n : Nat) : Int))) = .ok (S (turnT T k n)) (W.setCell ⟨w.heap.size, k, none⟩ (.int .u8 ((T[k].toNat ^^^ n : Nat) : Int))) := by
  have hl := turnT_len T k n
  have hb : T[k].toNat < 256 := T[k].toNat_lt
  have hx : T[k].toNat ^^^ n < 2 ^ 8 := Nat.xor_lt_two_pow (by omega) (by omega)
  have := run_convert_bytes_back (P := Tryz.prog) (W.setCell ⟨w.heap.size, k, none⟩ (.int .u8 ((T[k].toNat ^^^ n : Nat) : Int))) 64 9 5 ⟨w.heap.size, 0, none⟩ cap (turnT T k n) Tryz.underlying64 Tryz.underlying5 Tryz.underlying9 (fun j hj => by
    have ej : (⟨w.heap.size, 0, none⟩ : Addr).add j = ⟨w.heap.size, j, none⟩ := by
      simp only [Addr.add]
      split <;> simp_all
    rw [ej]
    have hj' : j < T.length := by rw [hl] at hj; exact hj
    by_cases hjk : j = k
    · subst hjk
      rw [World.cell?_setCell_same _ _ _ (h.cell j hk)]
      have e : (turnT T j n)[j].toNat = T[j].toNat ^^^ n := by
        have q : (turnT T j n)[j]? = some (UInt8.ofNat (T[j].toNat ^^^ n)) := by
          unfold turnT
          rw [List.getElem?_set_self hk, List.getD_eq_getElem?_getD, List.getElem?_eq_getElem hk, Option.getD_some]
        rw [List.getElem?_eq_getElem hj] at q
        rw [Option.some.inj q, UInt8.toNat_ofNat', Nat.mod_eq_of_lt (by omega)]
      rw [e]
    · rw [World.cell?_setCell_other _ _ _ _ (fun e => hjk (by injection e with _ e2; exact e2.symm)), h.cell j hj']
      have e : (turnT T k n)[j] = T[j] := by
        have q : (turnT T k n)[j]? = some T[j] := by
          unfold turnT
          rw [List.getElem?_set_ne (fun e => hjk e.symm), List.getElem?_eq_getElem hj']
        rw [List.getElem?_eq_getElem hj] at q
        exact Option.some.inj q
      rw [e])
  rw [hl] at this
  exact this
end Go.Proofs.YtnblieohdngmiaaGreatDoor
