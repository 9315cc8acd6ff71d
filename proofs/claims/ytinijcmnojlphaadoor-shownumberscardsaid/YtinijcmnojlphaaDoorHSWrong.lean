/- isWrong; does a cell that may not be met stand in a row? -/
import Derived.Test.YtinijcmnojlphaaDoorHSMath
namespace Go.Proofs.YtinijcmnojlphaaDoor
open Go.RowKit

abbrev cV (x : Cl) : Value := .agg #[.int .u8 x.k, .int .u8 x.c, .int .u64 x.a, .int .u64 x.b]
set_option maxRecDepth 100000 in
set_option maxHeartbeats 4000000 in
theorem isWrong_any (x : Cl) (w : World) (hx : OkK x) (hT : Tab w) :
    Calls Tryd.prog 22 #[cV x] w fun e w' => e = .returned (.bool (wrongC x)) ∧ Below w.heap.size w w' := by
  have a0 := (Below.refl _ w).alloc (Nat.le_refl w.heap.size) (KO x)
  have b0 := heap_alloc_new w (KO x)
  have c0 := heap_cell (j := 0) b0 rfl
  have c2 := heap_cell (j := 2) b0 rfl
  have l0 := heap_lt b0
  have HB : Hid (Below w.heap.size w (w.alloc (KO x))) := a0
  have HOf : Hid (Calls Tryd.prog 27 #[.int .u64 x.a] (w.alloc (KO x)) fun e w' => e = .returned (.tuple #[.int .u8 (ofT x.a), .int .i64 (ofN x.a), .bool (wd x.a)]) ∧ w' = w.alloc (KO x)) := of_any x.a _ hx.a (hT.below a0)
  clear a0 b0 hT
  unfold cV
  cases h0 : (x.k == 0)
  · cases h3 : (x.k == 3)
    · have HE : Hid (wrongC x = false) := by show _ = _; unfold wrongC; rw [h0, h3]; rfl
      go_enter Tryd.func22, Tryd.ntmps22
      go_wp2
      go_ret
      exact ⟨by rw [HE.out]; rfl, HB.out⟩
    · cases h5 : (ofT x.a == 5)
      · have HE : Hid (wrongC x = true) := by show _ = _; unfold wrongC; rw [h0, h3, bne, h5]; rfl
        go_enter Tryd.func22, Tryd.ntmps22
        go_wp2_with fail
        refine Calls.mono HOf.out ?_
        rintro e w1 ⟨rfl, hw1⟩
        rw [hw1]
        clear hw1 HOf
        have h5' : ofT x.a ≠ 5 := by simpa using h5
        generalize ofT x.a = t5 at *
        generalize ofN x.a = n5 at *
        go_wp2
        all_goals
          go_ret
          first
            | exact ⟨by rw [HE.out]; rfl, HB.out⟩
            | exact absurd rfl h5'
      · have HE : Hid (wrongC x = decide (ofN x.a < 0)) := by show _ = _; unfold wrongC; rw [h0, h3, bne, h5]; rfl
        have h5' : ofT x.a = 5 := by simpa using h5
        rw [HE.out]
        rw [h5'] at HOf
        clear HE h5 h5'
        generalize ofN x.a = n5 at *
        go_enter Tryd.func22, Tryd.ntmps22
        go_wp2_with fail
        refine Calls.mono HOf.out ?_
        rintro e w1 ⟨rfl, hw1⟩
        rw [hw1]
        clear hw1 HOf
        go_wp2
        go_ret
        exact ⟨rfl, HB.out⟩
  · have HE : Hid (wrongC x = true) := by show _ = _; unfold wrongC; rw [h0]; rfl
    go_enter Tryd.func22, Tryd.ntmps22
    go_wp2
    go_ret
    exact ⟨by rw [HE.out]; rfl, HB.out⟩
theorem any_take {α : Type} {p : α → Bool} {l : List α} {j : Nat} {x : α} (h : (l.take j).any p = false) (hx : l[j]? = some x) : (l.take (j + 1)).any p = p x := by
  rw [List.take_add_one, hx, List.any_append, h]; simp
theorem any_at {α : Type} {p : α → Bool} {l : List α} {j : Nat} {x : α} (hx : l[j]? = some x) (h : p x = true) : l.any p = true := List.any_eq_true.2 ⟨x, List.mem_of_getElem? hx, h⟩
set_option maxRecDepth 100000 in
set_option maxHeartbeats 4000000 in
theorem indexWrong_any (l : List Cl) (ra : Option Addr) (ca : Nat) (w : World) (hl : l.length ≤ 1000000) (hH : HR w ra l) (hT : Tab w) :
    Calls Tryd.prog 40 #[.slice ra l.length ca, .func (.func 22) #[] #[]] w fun e w' => (∃ n : Int, e = .returned (.int .i64 n) ∧ (l.any wrongC = decide (0 ≤ n))) ∧ Below w.heap.size w w' := by
  have HH : Hid (HR w ra l ∧ Tab w) := ⟨hH, hT⟩
  clear hH hT
  have hen : ∀ (args : Array Value) (w : World), (callFunc 22 args).run Tryd.prog w = .ok (.enter 22 args) w := fun args w => by go_simp
  go_enter Tryd.func40, Tryd.ntmps40
  go_wp2
  go_loopw [8, 5] (fun i _ wr => ∃ j : Nat, i = .int .i64 j ∧ j ≤ l.length ∧ Hid ((l.take j).any wrongC = false) ∧ Hid (Below w.heap.size w wr)) (fun i _ _ => l.length - (intOf i).toNat)
  case atStart => exact ⟨0, rfl, Nat.zero_le _, rfl, Below.refl _ _⟩
  case round =>
    obtain ⟨j, rfl, hj, HN, HB⟩ := hrel
    by_cases hlt : j < l.length
    · have k1 : (j : Int) < (l.length : Int) := by omega
      obtain ⟨x, hx⟩ : ∃ x, l[j]? = some x := ⟨_, List.getElem?_eq_getElem hlt⟩
      obtain ⟨b, o, q1, q2⟩ := HH.out.1.below HB.out
      obtain rfl : ra = some ⟨b, o, none⟩ := q1.resolve_left (by omega)
      obtain ⟨l1, ⟨d0, d1, d2, d3⟩, hkx⟩ := q2 j x hx
      have HC : Hid (Calls Tryd.prog 22 #[cV x] wr fun e w' => e = .returned (.bool (wrongC x)) ∧ Below wr.heap.size wr w') := isWrong_any x wr hkx (HH.out.2.below HB.out)
      have HXx : Hid (l[j]? = some x) := hx
      clear q1 q2 hx hkx
      cases hwr : wrongC x
      · rw [hwr] at HC
        have HW : Hid (wrongC x = false) := hwr
        clear hwr
        go_wp2_with fail
        refine Calls.mono HC.out ?_
        rintro e w1 ⟨rfl, hb1⟩
        have HB1 : Hid (Below w.heap.size w w1) := HB.out.trans (hb1.mono HB.out.size)
        clear hb1 HC
        go_wp2
        go_roundw
        case rel => exact ⟨j + 1, by go_num, by omega, (any_take HN.out HXx.out).trans HW.out, HB1⟩
        case measure => simp [intOf]; omega
      · rw [hwr] at HC
        have HW : Hid (wrongC x = true) := hwr
        clear hwr
        go_wp2_with fail
        refine Calls.mono HC.out ?_
        rintro e w1 ⟨rfl, hb1⟩
        have HB1 : Hid (Below w.heap.size w w1) := HB.out.trans (hb1.mono HB.out.size)
        clear hb1 HC
        go_wp2
        go_ret
        exact ⟨⟨j, rfl, by rw [any_at HXx.out HW.out]; simp⟩, HB1.out⟩
    · have k1 : ¬ (j : Int) < (l.length : Int) := by omega
      have HE : Hid (l.any wrongC = false) := by have := HN.out; rwa [List.take_of_length_le (by omega)] at this
      go_wp2
      go_ret
      exact ⟨⟨-1, rfl, by rw [HE.out]; rfl⟩, HB.out⟩
set_option maxRecDepth 100000 in
set_option maxHeartbeats 4000000 in
theorem anyWrong_any (l : List Cl) (ra : Option Addr) (ca : Nat) (w : World) (hl : l.length ≤ 1000000) (hH : HR w ra l) (hT : Tab w) :
    Calls Tryd.prog 21 #[.slice ra l.length ca, .func (.func 22) #[] #[]] w fun e w' => e = .returned (.bool (l.any wrongC)) ∧ Below w.heap.size w w' := by
  have HI : Hid _ := indexWrong_any l ra ca w hl hH hT
  clear hH hT
  go_enter Tryd.func21, Tryd.ntmps21
  go_wp2_with fail
  refine Calls.mono HI.out ?_
  rintro e w1 ⟨⟨n, rfl, hn⟩, hb1⟩
  have HB1 : Hid (Below w.heap.size w w1) := hb1
  have HN : Hid (l.any wrongC = decide (0 ≤ n)) := hn
  clear hb1 hn HI
  go_wp2
  go_ret
  exact ⟨by rw [HN.out]; rfl, HB1.out⟩
end Go.Proofs.YtinijcmnojlphaaDoor
