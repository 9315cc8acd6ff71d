/- Are two lists the same: ints, truths.; The examples' cells, reckoned. -/
import Derived.Test.YtomdbcddokaagaaDoorGC
import Derived.Test.YtomdbcddokaagaaDoorGH
import Derived.Laws.StructEq
/- Are two lists the same: ints, truths. -/
namespace Go.Proofs.YtomdbcddokaagaaDoor
open Go.RowKit

theorem below_drewM {n : Nat} {w0 w : World} (h : Below n w0 w) (k : Nat) : Below n w0 (w.drewN k) := by
  induction k generalizing w with
  | zero => exact h
  | succ k ih => exact (ih h).drew
theorem eq_drop {α : Type} {l m : List α} (_ : l.length = m.length) {j : Nat} {x y : α} (hx : l[j]? = some x) (hy : m[j]? = some y) (h : x ≠ y) : l ≠ m := fun e => by subst e; rw [hx] at hy; exact h (Option.some.inj hy)
theorem eq_of_take {α : Type} {l m : List α} (hlen : l.length = m.length) {j : Nat} (hj : ¬ j < l.length) (h : l.take j = m.take j) : l = m := by
  rwa [List.take_of_length_le (by omega), List.take_of_length_le (by omega)] at h
set_option maxRecDepth 100000 in
set_option maxHeartbeats 4000000 in
theorem sameI_any (l m : List Int) (ra rb : Option Addr) (ca cb : Nat) (w : World) (hl : l.length ≤ maxLen) (_ : m.length ≤ maxLen) (hR : RX (Value.int .i64) w ra l) (hS : RX (Value.int .i64) w rb m) :
    Calls Tryd.prog 22 #[.slice ra l.length ca, .slice rb m.length cb] w fun e w' => e = .returned (.bool (decide (l = m))) ∧ Below w.heap.size w w' := by
  unfold maxLen at hl
  by_cases hlen : l.length = m.length
  · obtain ⟨b, o, h1, h2⟩ := RX.at hR
    obtain ⟨b', o', h1', h2'⟩ := RX.at hS
    rw [← hlen] at h1' ⊢
    have H1 : Hid _ := h1
    have H2 : Hid _ := h2
    have H1' : Hid _ := h1'
    have H2' : Hid _ := h2'
    have Hlen : Hid (l.length = m.length) := hlen
    have z : ((l.length : Int) == (l.length : Int)) = true := by simp
    clear h1 h2 h1' h2' hR hS hlen
    go_enter Tryd.func22, Tryd.ntmps22
    go_wp2
    go_loopw [5] (fun i wr => ∃ j : Nat, i = .int .i64 j ∧ j ≤ l.length ∧ Hid (l.take j = m.take j) ∧ Hid (Below w.heap.size w wr)) (fun i _ => l.length - (intOf i).toNat)
    case atStart => exact ⟨0, rfl, Nat.zero_le _, by show _ = _; simp, Below.refl _ _⟩
    case round =>
      obtain ⟨j, rfl, hj, HN, HW⟩ := hrel
      by_cases hlt : j < l.length
      · have i1 : (j : Int) < (l.length : Int) := by omega
        have hra := H1.out (by omega)
        subst hra
        have hrb := H1'.out (by omega)
        subst hrb
        obtain ⟨x, hx⟩ : ∃ x, l[j]? = some x := ⟨_, List.getElem?_eq_getElem hlt⟩
        obtain ⟨y, hy⟩ : ∃ y, m[j]? = some y := ⟨_, List.getElem?_eq_getElem (by rw [← Hlen.out]; exact hlt)⟩
        obtain ⟨hb, hc⟩ := H2.out j x hx
        obtain ⟨hb', hc'⟩ := H2'.out j y hy
        have f1 : wr.cell? ⟨b, o + j, none⟩ = some (.int .i64 x) := (HW.out.cell (p := ⟨b, o + j, none⟩) hb).trans hc
        have f2 : wr.cell? ⟨b', o' + j, none⟩ = some (.int .i64 y) := (HW.out.cell (p := ⟨b', o' + j, none⟩) hb').trans hc'
        have f3 : b < wr.heap.size := Nat.lt_of_lt_of_le hb HW.out.size
        have f4 : b' < wr.heap.size := Nat.lt_of_lt_of_le hb' HW.out.size
        have HX : Hid (l[j]? = some x) := hx
        have HY : Hid (m[j]? = some y) := hy
        clear hx hy hb hc hb' hc'
        by_cases he : x = y
        · subst he
          have z2 : (x == x) = true := by simp
          go_wp2_with fail
          go_quiet (fail)
          go_wp2
          go_roundw
          case rel =>
            refine ⟨j + 1, by go_num, by omega, ?_, below_drewM HW.out _⟩
            show _ = _
            rw [List.take_add_one, List.take_add_one, HN.out, HX.out, HY.out]
          case measure => simp [intOf]; omega
        · have HE : Hid (decide (l = m) = false) := decide_eq_false (eq_drop Hlen.out HX.out HY.out he)
          have z2 : (x == y) = false := by simpa using he
          clear he
          go_wp2_with fail
          go_quiet (fail)
          go_wp2
          go_ret
          exact ⟨by rw [HE.out]; rfl, below_drewM HW.out _⟩
      · have i1 : ¬ (j : Int) < (l.length : Int) := by omega
        have HE : Hid (decide (l = m) = true) := decide_eq_true (eq_of_take Hlen.out hlt HN.out)
        go_wp2
        go_ret
        exact ⟨by rw [HE.out]; rfl, HW.out⟩
  · have HE : Hid (decide (l = m) = false) := decide_eq_false (fun e => hlen (by rw [e]))
    have z : ((l.length : Int) == (m.length : Int)) = false := by simp; omega
    clear hlen hR hS
    go_enter Tryd.func22, Tryd.ntmps22
    go_wp2
    go_ret
    exact ⟨by rw [HE.out]; rfl, Below.refl _ _⟩
set_option maxRecDepth 100000 in
set_option maxHeartbeats 4000000 in
theorem sameB_any (l m : List Bool) (ra rb : Option Addr) (ca cb : Nat) (w : World) (hl : l.length ≤ maxLen) (_ : m.length ≤ maxLen) (hR : RX (Value.bool) w ra l) (hS : RX (Value.bool) w rb m) :
    Calls Tryd.prog 24 #[.slice ra l.length ca, .slice rb m.length cb] w fun e w' => e = .returned (.bool (decide (l = m))) ∧ Below w.heap.size w w' := by
  unfold maxLen at hl
  by_cases hlen : l.length = m.length
  · obtain ⟨b, o, h1, h2⟩ := RX.at hR
    obtain ⟨b', o', h1', h2'⟩ := RX.at hS
    rw [← hlen] at h1' ⊢
    have H1 : Hid _ := h1
    have H2 : Hid _ := h2
    have H1' : Hid _ := h1'
    have H2' : Hid _ := h2'
    have Hlen : Hid (l.length = m.length) := hlen
    have z : ((l.length : Int) == (l.length : Int)) = true := by simp
    clear h1 h2 h1' h2' hR hS hlen
    go_enter Tryd.func24, Tryd.ntmps24
    go_wp2
    go_loopw [5] (fun i wr => ∃ j : Nat, i = .int .i64 j ∧ j ≤ l.length ∧ Hid (l.take j = m.take j) ∧ Hid (Below w.heap.size w wr)) (fun i _ => l.length - (intOf i).toNat)
    case atStart => exact ⟨0, rfl, Nat.zero_le _, by show _ = _; simp, Below.refl _ _⟩
    case round =>
      obtain ⟨j, rfl, hj, HN, HW⟩ := hrel
      by_cases hlt : j < l.length
      · have i1 : (j : Int) < (l.length : Int) := by omega
        have hra := H1.out (by omega)
        subst hra
        have hrb := H1'.out (by omega)
        subst hrb
        obtain ⟨x, hx⟩ : ∃ x, l[j]? = some x := ⟨_, List.getElem?_eq_getElem hlt⟩
        obtain ⟨y, hy⟩ : ∃ y, m[j]? = some y := ⟨_, List.getElem?_eq_getElem (by rw [← Hlen.out]; exact hlt)⟩
        obtain ⟨hb, hc⟩ := H2.out j x hx
        obtain ⟨hb', hc'⟩ := H2'.out j y hy
        have f1 : wr.cell? ⟨b, o + j, none⟩ = some (.bool x) := (HW.out.cell (p := ⟨b, o + j, none⟩) hb).trans hc
        have f2 : wr.cell? ⟨b', o' + j, none⟩ = some (.bool y) := (HW.out.cell (p := ⟨b', o' + j, none⟩) hb').trans hc'
        have f3 : b < wr.heap.size := Nat.lt_of_lt_of_le hb HW.out.size
        have f4 : b' < wr.heap.size := Nat.lt_of_lt_of_le hb' HW.out.size
        have HX : Hid (l[j]? = some x) := hx
        have HY : Hid (m[j]? = some y) := hy
        clear hx hy hb hc hb' hc'
        by_cases he : x = y
        · subst he
          have z2 : (x == x) = true := by simp
          go_wp2_with fail
          go_quiet (fail)
          go_wp2
          go_roundw
          case rel =>
            refine ⟨j + 1, by go_num, by omega, ?_, below_drewM HW.out _⟩
            show _ = _
            rw [List.take_add_one, List.take_add_one, HN.out, HX.out, HY.out]
          case measure => simp [intOf]; omega
        · have HE : Hid (decide (l = m) = false) := decide_eq_false (eq_drop Hlen.out HX.out HY.out he)
          have z2 : (x == y) = false := by simpa using he
          clear he
          go_wp2_with fail
          go_quiet (fail)
          go_wp2
          go_ret
          exact ⟨by rw [HE.out]; rfl, below_drewM HW.out _⟩
      · have i1 : ¬ (j : Int) < (l.length : Int) := by omega
        have HE : Hid (decide (l = m) = true) := decide_eq_true (eq_of_take Hlen.out hlt HN.out)
        go_wp2
        go_ret
        exact ⟨by rw [HE.out]; rfl, HW.out⟩
  · have HE : Hid (decide (l = m) = false) := decide_eq_false (fun e => hlen (by rw [e]))
    have z : ((l.length : Int) == (m.length : Int)) = false := by simp; omega
    clear hlen hR hS
    go_enter Tryd.func24, Tryd.ntmps24
    go_wp2
    go_ret
    exact ⟨by rw [HE.out]; rfl, Below.refl _ _⟩
end Go.Proofs.YtomdbcddokaagaaDoor

/- The examples' cells, reckoned. -/
namespace Go.Proofs.YtomdbcddokaagaaDoor
open Go.RowKit

theorem fz_of {w : World} {b : Nat} {cs : Array Value} {t : TypeId} (h : w.heap[b]? = some (.cells cs t (0, 0))) (j : Nat) : w.frozen? ⟨b, j, none⟩ = false := by simp [World.frozen?, h]
theorem four_cells {w : World} {g : Nat} {c0 c1 c2 c3 : Value} {t : TypeId} (h : w.heap[g]? = some (.cells #[c0, c1, c2, c3] t (0, 0))) (a b c d : Value) (k : Nat) : ((((w.setCell ⟨g, 0, none⟩ a).setCell ⟨g, 1, none⟩ b).setCell ⟨g, 2, none⟩ c).setCell ⟨g, 3, none⟩ d).cell? ⟨g, k, none⟩ = [a, b, c, d][k]? := by
  have h1 := set_atC (j := 3) (set_atC (j := 2) (set_atC (j := 1) (set_atC (j := 0) h a) b) c) d
  simp only [World.cell?, h1]
  match k with
  | 0 => rfl
  | 1 => rfl
  | 2 => rfl
  | 3 => rfl
  | k + 4 => simp
abbrev pairV (c a : Int) : Value := .agg #[.int .u8 1, .int .u8 c, .int .u64 a, .int .u64 5]
set_option maxRecDepth 100000 in
set_option maxHeartbeats 4000000 in
theorem pair_any (c a : Int) (w : World) :
    Calls Tryd.prog 17 #[.int .u8 c, .int .u64 a] w fun e w' => e = .returned (pairV c a) ∧ Below w.heap.size w w' := by
  have hz : (w.alloc (.cells #[.int .u8 0, .int .u8 0, .int .u64 0, .int .u64 0] 59)).heap[w.heap.size]? = some (.cells #[.int .u8 0, .int .u8 0, .int .u64 0, .int .u64 0] 59) := heap_alloc_new _ _
  have HX : Hid (∀ k, (((((w.alloc (.cells #[.int .u8 0, .int .u8 0, .int .u64 0, .int .u64 0] 59)).setCell ⟨w.heap.size, 0, none⟩ (.int .u8 1)).setCell ⟨w.heap.size, 1, none⟩ (.int .u8 c)).setCell ⟨w.heap.size, 2, none⟩ (.int .u64 a)).setCell ⟨w.heap.size, 3, none⟩ (.int .u64 5)).cell? ⟨w.heap.size, k, none⟩ = [Value.int .u8 1, Value.int .u8 c, Value.int .u64 a, Value.int .u64 5][k]?) := fun k => four_cells hz _ _ _ _ k
  have HB : Hid (Below w.heap.size w (((((w.alloc (.cells #[.int .u8 0, .int .u8 0, .int .u64 0, .int .u64 0] 59)).setCell ⟨w.heap.size, 0, none⟩ (.int .u8 1)).setCell ⟨w.heap.size, 1, none⟩ (.int .u8 c)).setCell ⟨w.heap.size, 2, none⟩ (.int .u64 a)).setCell ⟨w.heap.size, 3, none⟩ (.int .u64 5))) := (((((Below.refl _ w).alloc (Nat.le_refl _) _).setCell (p := ⟨w.heap.size, 0, none⟩) (Nat.le_refl _) _).setCell (p := ⟨w.heap.size, 1, none⟩) (Nat.le_refl _) _).setCell (p := ⟨w.heap.size, 2, none⟩) (Nat.le_refl _) _).setCell (p := ⟨w.heap.size, 3, none⟩) (Nat.le_refl _) _
  have z0 := heap_cell (j := 0) hz rfl
  have z1 := heap_cell (j := 1) hz rfl
  have z2 := heap_cell (j := 2) hz rfl
  have z3 := heap_cell (j := 3) hz rfl
  have f0 : (w.alloc (.cells #[.int .u8 0, .int .u8 0, .int .u64 0, .int .u64 0] 59)).frozen? ⟨w.heap.size, 0, none⟩ = false := fz_of hz 0
  have f1 := fz_of hz 1
  have f2 := fz_of hz 2
  have f3 := fz_of hz 3
  have hs := heap_lt hz
  have HI : Hid (∀ w, Calls Tryd.prog 18 #[.int .i64 0] w fun e w' => e = .returned (.int .u64 5) ∧ w' = w) := fun w => refInt_any 0 w
  clear hz
  go_enter Tryd.func17, Tryd.ntmps17
  go_upto_region 1 with fail
  generalize w.alloc (.cells #[.int .u8 0, .int .u8 0, .int .u64 0, .int .u64 0] 59) = W at *
  go_wp2_with fail
  refine Calls.mono (HI.out _) ?_
  rintro e w9 ⟨rfl, rfl⟩
  go_wp2
  have x0 := HX.out 0
  have x1 := HX.out 1
  have x2 := HX.out 2
  have x3 := HX.out 3
  generalize ((((w9.setCell ⟨w.heap.size, 0, none⟩ (.int .u8 1)).setCell ⟨w.heap.size, 1, none⟩ (.int .u8 c)).setCell ⟨w.heap.size, 2, none⟩ (.int .u64 a)).setCell ⟨w.heap.size, 3, none⟩ (.int .u64 5)) = wE at *
  exact bodyPost_ret (v := .agg #[.int .u8 1, .int .u8 c, .int .u64 a, .int .u64 5]) (by simp [results, Tryd.results17, go_sem] at *; simp [x0, x1, x2, x3]) rfl ⟨rfl, HB.out⟩
def exH : List Cl := [⟨1, 0, 21, 5⟩, ⟨1, 0, 37, 5⟩]
def exV : Vw := ⟨[⟨1, 0, 21, 5⟩, ⟨1, 2, 8, 5⟩], 2, 0, [], [], 0, [⟨[24, 8], false, false⟩]⟩
def exG : Vw := ⟨[⟨1, 0, 21, 5⟩, ⟨1, 1, 8, 5⟩], 2, 0, [1], [], 0, [⟨[24, 8], false, false⟩]⟩
theorem ex_s1 : storeM 2 true 8 24 exH = [0] := by kernel_rfl
theorem ex_s2 : storeM 2 false 8 24 exH = [0, 1] := by kernel_rfl
theorem ex_f : fillM 1 false 24 8 exH = [1, 0] := by kernel_rfl
theorem ex_b : birthC 3 3 3 = 2 := by kernel_rfl
theorem ex_may : mayV exV = true := by kernel_rfl
theorem ex_by : (List.range 2).map (byM exV) = [true, false] := by kernel_rfl
theorem ex_well : (List.range 2).map (wellM exV) = [false, false] := by kernel_rfl
theorem ex_ho : hoE exV = .tuple #[.bool false, .int .i64 0, .int .i64 0] := by kernel_rfl
theorem ex_hg : hoE exG = .tuple #[.bool true, .int .i64 0, .int .i64 0] := by kernel_rfl
end Go.Proofs.YtomdbcddokaagaaDoor
