/- When a view may be: heads; numbers. -/
import Derived.Test.YtigcpbndmiefhaaDoorHBStore
namespace Go.Proofs.YtigcpbndmiefhaaDoor
open Go.RowKit

set_option maxRecDepth 100000 in
set_option maxHeartbeats 4000000 in
theorem isGrey_any (x : Cl) (w : World) : Calls Tryd.prog 106 #[cV x] w fun e w' => e = .returned (.bool (greyB x)) ∧ Below w.heap.size w w' := by
  have a1 := (Below.refl _ w).alloc (Nat.le_refl w.heap.size) (.cells #[.int .u8 x.k, .int .u8 x.c, .int .u64 x.a, .int .u64 x.b] 58)
  have n1 := heap_alloc_new w (.cells #[.int .u8 x.k, .int .u8 x.c, .int .u64 x.a, .int .u64 x.b] 58)
  obtain ⟨w1, hw1⟩ : ∃ w1, w1 = w.alloc (.cells #[.int .u8 x.k, .int .u8 x.c, .int .u64 x.a, .int .u64 x.b] 58) := ⟨_, rfl⟩
  rw [← hw1] at a1 n1
  have c0 := heap_cell (j := 0) n1 rfl
  have c1 := heap_cell (j := 1) n1 rfl
  have c2 := heap_cell (j := 2) n1 rfl
  have c3 := heap_cell (j := 3) n1 rfl
  have l1 := heap_lt n1
  have HU : Hid _ := isUsed_any x w1
  have HB1 : Hid (Below w.heap.size w w1) := a1
  have HN1 : Hid (w1.heap[w.heap.size]? = some (.cells #[.int .u8 x.k, .int .u8 x.c, .int .u64 x.a, .int .u64 x.b] 58 (0, 0))) := n1
  unfold greyB
  go_enter Tryd.func106, Tryd.ntmps106
  go_upto_region 1 with fail
  rw [← hw1]
  clear hw1 a1 n1
  go_wp2_with fail
  refine Calls.mono HU.out ?_
  rintro e w2 ⟨rfl, hb2⟩
  have d1 := (hb2.cell (p := ⟨w.heap.size, 1, none⟩) l1).trans c1
  have l2 : w.heap.size < w2.heap.size := Nat.lt_of_lt_of_le l1 hb2.size
  have HB2 : Hid (Below w.heap.size w w2) := HB1.out.trans (hb2.mono HB1.out.size)
  clear hb2 HU HB1 HN1 c0 c1 c2 c3 l1
  cases hu : usedB x
  · have HU0 : Hid (usedB x = false) := hu
    clear hu
    go_wp2
    go_ret
    exact ⟨ret_bool (by rw [HU0.out]; rfl), HB2.out⟩
  · have HU0 : Hid (usedB x = true) := hu
    clear hu
    go_wp2
    go_ret
    exact ⟨ret_bool (by rw [HU0.out]; by_cases h : x.c = 1 <;> simp [h]), HB2.out⟩
theorem fields_all {α : Type} {q : α → Bool} {l : List α} {j : Nat} {x : α} (h : (l.take j).all q = true) (hx : l[j]? = some x) : (l.take (j + 1)).all q = q x := by
  rw [List.take_add_one, hx, List.all_append, h]
  simp
theorem all_not {α : Type} {q : α → Bool} {l : List α} {j : Nat} {x : α} (hx : l[j]? = some x) (h : q x = false) : l.all q = false := by
  rw [List.all_eq_false]
  exact ⟨x, List.mem_of_getElem? hx, by rw [h]; exact Bool.false_ne_true⟩
def upToB (n m : Int) : Bool := decide (0 ≤ n) && decide (n ≤ m)
set_option maxRecDepth 100000 in
set_option maxHeartbeats 4000000 in
theorem isUpTo_any (n m : Int) (w : World) : Calls Tryd.prog 88 #[.int .i64 n, .int .i64 m] w fun e w' => e = .returned (.bool (upToB n m)) ∧ w' = w := by
  unfold upToB
  by_cases h : 0 ≤ n
  · have HE : Hid (decide (0 ≤ n) = true) := decide_eq_true h
    rw [HE.out]
    clear HE
    go_enter Tryd.func88, Tryd.ntmps88
    go_wp2
    go_ret
    exact ⟨rfl, rfl⟩
  · have HE : Hid (decide (0 ≤ n) = false) := decide_eq_false h
    rw [HE.out]
    clear HE
    go_enter Tryd.func88, Tryd.ntmps88
    go_wp2
    go_ret
    exact ⟨rfl, rfl⟩
def headB (x : Cl) : Bool := decide (x.k ≤ 3) && decide (x.c ≤ 2)
set_option maxRecDepth 100000 in
set_option maxHeartbeats 8000000 in
theorem hasHeads_any (h : List Cl) (ra : Option Addr) (ca : Nat) (w : World) (hl : h.length ≤ 281474976710656) (hH : HR w ra h) :
    Calls Tryd.prog 89 #[.slice ra h.length ca] w fun e w' => e = .returned (.bool (h.all headB)) ∧ Below w.heap.size w w' := by
  have HH : Hid (HR w ra h) := hH
  clear hH
  go_enter Tryd.func89, Tryd.ntmps89
  go_wp2
  go_loopw [7, 4] (fun i _ wr => ∃ j : Nat, i = .int .i64 j ∧ j ≤ h.length ∧ Hid ((h.take j).all headB = true) ∧ Hid (Below w.heap.size w wr)) (fun i _ _ => h.length - (intOf i).toNat)
  case atStart => exact ⟨0, rfl, Nat.zero_le _, rfl, Below.refl _ _⟩
  case round =>
    obtain ⟨j, rfl, hj, HN, HB⟩ := hrel
    have sz := HB.out.size
    by_cases hjl : j < h.length
    · have k1 : (j : Int) < (h.length : Int) := by omega
      obtain ⟨x, hx⟩ : ∃ x, h[j]? = some x := ⟨_, List.getElem?_eq_getElem hjl⟩
      obtain ⟨b, o, hor, hcs⟩ := HH.out.below HB.out
      have hra : ra = some ⟨b, o, none⟩ := hor.resolve_left (by omega)
      subst hra
      obtain ⟨g1, ⟨y2, y3, y4, y5⟩, _⟩ := hcs j x hx
      have HXx : Hid (h[j]? = some x) := hx
      have HB2 : Hid (Below w.heap.size w (wr.alloc (.cells #[.int .u8 x.k, .int .u8 x.c, .int .u64 x.a, .int .u64 x.b] 58))) := HB.out.alloc sz _
      clear hcs hor hx
      cases hb : headB x
      · have HF : Hid (h.all headB = false) := all_not HXx.out hb
        have hd : ¬ x.k ≤ 3 ∨ (x.k ≤ 3 ∧ ¬ x.c ≤ 2) := by
          by_cases hk : x.k ≤ 3
          · refine .inr ⟨hk, fun hc => ?_⟩
            have : headB x = true := by simp [headB, hk, hc]
            rw [hb] at this
            cases this
          · exact .inl hk
        clear hb
        rcases hd with hk | ⟨hk, hc⟩
        · have z : x.k > 3 := by omega
          go_wp2
          go_ret
          exact ⟨ret_bool HF.out.symm, HB2.out⟩
        · have z : ¬ x.k > 3 := by omega
          have z2 : x.c > 2 := by omega
          go_wp2
          go_ret
          exact ⟨ret_bool HF.out.symm, HB2.out⟩
      · have HX2 : Hid ((h.take (j + 1)).all headB = true) := (fields_all HN.out HXx.out).trans hb
        obtain ⟨hk, hc⟩ : x.k ≤ 3 ∧ x.c ≤ 2 := by simpa [headB] using hb
        have z : ¬ x.k > 3 := by omega
        have z2 : ¬ x.c > 2 := by omega
        clear hb
        go_wp2
        go_roundw
        case rel => exact ⟨j + 1, by go_num, by omega, HX2, HB2⟩
        case measure => simp [intOf]; omega
    · have k1 : ¬ (j : Int) < (h.length : Int) := by omega
      have HE : Hid (h.all headB = true) := by have := HN.out; rwa [List.take_of_length_le (by omega)] at this
      go_wp2
      go_ret
      exact ⟨ret_bool HE.out.symm, HB.out⟩
end Go.Proofs.YtigcpbndmiefhaaDoor
