/- The document's Keyword. -/
import Derived.Test.YtkgnigloboajcabGreatDoorK41
namespace Go.Proofs.YtkgnigloboajcabGreatDoor
open Go.RowKit

def kwL : List (List UInt8) := [[113, 117, 111, 116, 101], [105, 102], [108, 97, 109, 98, 100, 97], [100, 101, 102, 105, 110, 101], [115, 101, 116, 33], [98, 101, 103, 105, 110], [108, 101, 116], [119, 104, 105, 108, 101], [115, 112, 97, 119, 110], [106, 111, 105, 110], [108, 111, 99, 107], [117, 110, 108, 111, 99, 107], [121, 105, 101, 108, 100]]
def kwB (s : List UInt8) : Bool := kwL.any (· == s)
theorem kwL_at {j : Nat} (h : j < 13) : kwL[j]? = some (kwL.getD j []) := by
  have e : j < kwL.length := h
  simp [List.getD_eq_getElem?_getD, e]
theorem kw_is (s : List UInt8) : (kwOf s).isSome = kwB s := by
  unfold kwOf kwB
  by_cases h : s = []
  · subst h; rfl
  · rw [if_neg h, Option.isSome_map, List.findIdx?_isSome]
    have h' : ([] == s) = false := by
      cases s with
      | nil => exact absurd rfl h
      | cons a r => rfl
    simp only [shpL, kwL, List.any_cons, List.any_nil, h', Bool.false_or]
theorem kwB_at {s : List UInt8} {j : Nat} (h : j < 13) (hx : kwL.getD j [] = s) : kwB s = true := by
  unfold kwB
  rw [List.any_eq_true]
  refine ⟨s, ?_, by simp⟩
  have := kwL_at h
  rw [hx] at this
  exact List.mem_of_getElem? this
theorem kwB_none {s : List UInt8} (h : ∀ i, i < 13 → kwL.getD i [] ≠ s) : kwB s = false := by
  unfold kwB
  rw [List.any_eq_false]
  intro x hx he
  obtain ⟨j, hj⟩ := List.getElem?_of_mem hx
  have hl : j < 13 := (List.getElem?_eq_some_iff.1 hj).1
  have := kwL_at hl
  rw [hj] at this
  exact h j hl ((Option.some.inj this).symm.trans (by simpa using he))

theorem rx_newk {α : Type} {enc : α → Value} {l : List α} {W : World} {g : Nat} {A : Array Value} {t : TypeId} (q : W.heap[g]? = some (.cells A t (0, 0))) (h : A.toList = l.map enc) : RX enc W (some ⟨g, 0, none⟩) l := by
  refine ⟨g, 0, .inr rfl, fun j x hx => ⟨(Array.getElem?_eq_some_iff.1 q).1, ?_⟩⟩
  have e : A[j]? = some (enc x) := by
    rw [← Array.getElem?_toList, h, List.getElem?_map, hx]; rfl
  simp [World.cell?, q, e]

set_option maxRecDepth 100000 in
set_option maxHeartbeats 4000000 in
theorem rwords_any (w : World) : Calls Tryz.prog 20 #[] w fun e w' => ∃ g1, e = .returned (.slice (some ⟨g1, 0, none⟩) 13 13) ∧ RX S w' (some ⟨g1, 0, none⟩) kwL ∧ Below w.heap.size w w' := by
  go_enter Tryz.func20, Tryz.ntmps20
  go_wp2
  go_ret
  exact ⟨_, rfl, rx_newk (World.alloc_heap_new w _) rfl, (Below.refl _ w).alloc (Nat.le_refl _) _⟩

set_option maxRecDepth 100000 in
set_option maxHeartbeats 4000000 in
theorem rkey_any (s : List UInt8) (w : World) (hs : s.length ≤ maxLen) :
    Calls Tryz.prog 10 #[S s] w fun e w' => e = .returned (.bool (kwB s)) ∧ Below w.heap.size w w' := by
  go_enter Tryz.func10, Tryz.ntmps10
  go_wp2_with fail
  refine (rwords_any w).mono ?_
  rintro e w1 ⟨g1, rfl, h1, hb⟩
  obtain ⟨b1, o1, z1, r1⟩ := h1
  have e1 : (some ⟨g1, 0, none⟩ : Option Addr) = some ⟨b1, o1, none⟩ := z1.resolve_left (by decide)
  cases e1
  have R1 : Hid (∀ (j : Nat) (x : List UInt8), kwL[j]? = some x → g1 < w1.heap.size ∧ w1.cell? ⟨g1, 0 + j, none⟩ = some (S x)) := r1
  have HB : Hid (Below w.heap.size w w1) := hb
  clear r1 hb z1
  go_wp2_with fail
  go_loopw [4] (fun v wr => ∃ j : Nat, v = .int .i64 j ∧ j ≤ 13 ∧ Hid (∀ i, i < j → kwL.getD i [] ≠ s) ∧ wr = w1) (fun v _ => 14 - (intOf v).toNat)
  case atStart => exact ⟨0, rfl, by omega, fun i hi => absurd hi (by omega), rfl⟩
  case round =>
    obtain ⟨j, rfl, hj, HN, rfl⟩ := hrel
    by_cases hlt : j < 13
    · have k1 : (j : Int) < 13 := by omega
      have k0 : (0 : Int) ≤ (j : Int) := by omega
      obtain ⟨l1, c0⟩ := R1.out j _ (kwL_at hlt)
      rw [Nat.zero_add] at c0
      obtain ⟨x, hx⟩ : ∃ x, kwL.getD j [] = x := ⟨_, rfl⟩
      rw [hx] at c0
      have HX : Hid _ := hx
      by_cases he : x = s
      · subst he
        have HK : Hid (kwB x = true) := kwB_at hlt HX.out
        clear hx
        go_wp2
        go_ret
        exact ⟨by rw [HK.out]; rfl, HB.out⟩
      · have h2 : (x == s) = false := beq_eq_false_iff_ne.2 he
        have HN2 : Hid (∀ i, i < j + 1 → kwL.getD i [] ≠ s) := fun i hi => by
          rcases Nat.lt_or_ge i j with h | h
          · exact HN.out i h
          · obtain rfl : i = j := by omega
            rw [HX.out]; exact he
        clear he hx
        go_wp2
        go_roundw
        case rel => exact ⟨j + 1, by go_num, by omega, HN2, trivial⟩
        case measure => simp [intOf]; omega
    · have k1 : ¬ (j : Int) < 13 := by omega
      have HK : Hid (kwB s = false) := kwB_none (fun i hi => HN.out i (by omega))
      go_wp2
      go_ret
      exact ⟨by rw [HK.out]; rfl, HB.out⟩
end Go.Proofs.YtkgnigloboajcabGreatDoor
