/- Are two lists the same: ints, bools, words, cells. -/
import Derived.Test.YtdcmkifljcdmmaaGreatDoorHGForm
import Derived.BigQuiet
import Derived.Laws.StructEq
namespace Go.Proofs.YtdcmkifljcdmmaaGreatDoor
open Go.RowKit

theorem below_drewM {n : Nat} {w0 w : World} (h : Below n w0 w) (k : Nat) : Below n w0 (w.drewN k) := by
  induction k generalizing w with
  | zero => exact h
  | succ k ih => exact (ih h).drew
theorem eq_drop {α : Type} {l m : List α} (_ : l.length = m.length) {j : Nat} {x y : α} (hx : l[j]? = some x) (hy : m[j]? = some y) (h : x ≠ y) : l ≠ m := fun e => by subst e; rw [hx] at hy; exact h (Option.some.inj hy)
theorem eq_of_take {α : Type} {l m : List α} (hlen : l.length = m.length) {j : Nat} (hj : ¬ j < l.length) (h : l.take j = m.take j) : l = m := by
  rwa [List.take_of_length_le (by omega), List.take_of_length_le (by omega)] at h
/-- A row that is read. -/
def RX {α : Type} (enc : α → Value) (w : World) (ra : Option Addr) (l : List α) : Prop := ∃ b o, (l.length = 0 ∨ ra = some ⟨b, o, none⟩) ∧ ∀ (j : Nat) (x : α), l[j]? = some x → b < w.heap.size ∧ w.cell? ⟨b, o + j, none⟩ = some (enc x)
theorem RX.at {α : Type} {enc : α → Value} {w : World} {ra : Option Addr} {l : List α} (h : RX enc w ra l) : ∃ b o, (l.length ≠ 0 → ra = some ⟨b, o, none⟩) ∧ ∀ (j : Nat) (x : α), l[j]? = some x → b < w.heap.size ∧ w.cell? ⟨b, o + j, none⟩ = some (enc x) := by
  obtain ⟨b, o, h1, h2⟩ := h
  exact ⟨b, o, fun q => h1.resolve_left q, h2⟩
theorem RX.below {α : Type} {enc : α → Value} {w w' : World} {ra : Option Addr} {l : List α} (h : RX enc w ra l) (hb : Below w.heap.size w w') : RX enc w' ra l := by
  obtain ⟨b, o, h1, h2⟩ := h
  exact ⟨b, o, h1, fun j x hx => ⟨Nat.lt_of_lt_of_le (h2 j x hx).1 hb.size, (hb.cell (p := ⟨b, o + j, none⟩) (h2 j x hx).1).trans (h2 j x hx).2⟩⟩
theorem WR.rx {w : World} {ra : Option Addr} {l : List Int} (h : WR w ra l) : RX (Value.int .u64) w ra l := by
  obtain ⟨b, o, h1, h2⟩ := h
  exact ⟨b, o, h1, fun j x hx => ⟨(h2 j x hx).1, (h2 j x hx).2.1⟩⟩
/-- A row of cells that is read, whatever stands in it. -/
def HX (w : World) (ra : Option Addr) (l : List Cl) : Prop := ∃ b o, (l.length = 0 ∨ ra = some ⟨b, o, none⟩) ∧ ∀ (j : Nat) (x : Cl), l[j]? = some x → b < w.heap.size ∧ (w.cell? ⟨b, o + j * 4, none⟩ = some (.int .u8 x.k) ∧ w.cell? ⟨b, o + j * 4 + 1, none⟩ = some (.int .u8 x.c) ∧ w.cell? ⟨b, o + j * 4 + 1 + 1, none⟩ = some (.int .u64 x.a) ∧ w.cell? ⟨b, o + j * 4 + 1 + 1 + 1, none⟩ = some (.int .u64 x.b))
theorem HX.at {w : World} {ra : Option Addr} {l : List Cl} (h : HX w ra l) : ∃ b o, (l.length ≠ 0 → ra = some ⟨b, o, none⟩) ∧ ∀ (j : Nat) (x : Cl), l[j]? = some x → b < w.heap.size ∧ (w.cell? ⟨b, o + j * 4, none⟩ = some (.int .u8 x.k) ∧ w.cell? ⟨b, o + j * 4 + 1, none⟩ = some (.int .u8 x.c) ∧ w.cell? ⟨b, o + j * 4 + 1 + 1, none⟩ = some (.int .u64 x.a) ∧ w.cell? ⟨b, o + j * 4 + 1 + 1 + 1, none⟩ = some (.int .u64 x.b)) := by
  obtain ⟨b, o, h1, h2⟩ := h
  exact ⟨b, o, fun q => h1.resolve_left q, h2⟩
theorem HR.hx {w : World} {ra : Option Addr} {l : List Cl} (h : HR w ra l) : HX w ra l := by
  obtain ⟨b, o, h1, h2⟩ := h
  exact ⟨b, o, h1, fun j x hx => ⟨(h2 j x hx).1, (h2 j x hx).2.1⟩⟩
theorem HX.below {w w' : World} {ra : Option Addr} {l : List Cl} (h : HX w ra l) (hb : Below w.heap.size w w') : HX w' ra l := by
  obtain ⟨b, o, h1, h2⟩ := h
  refine ⟨b, o, h1, fun j x hx => ?_⟩
  obtain ⟨g, a0, a1, a2, a3⟩ := h2 j x hx
  have e := fun q => hb.cell (p := ⟨b, q, none⟩) g
  exact ⟨Nat.lt_of_lt_of_le g hb.size, (e _).trans a0, (e _).trans a1, (e _).trans a2, (e _).trans a3⟩
def sameCl (x y : Cl) : Bool := ((x.k == y.k && x.c == y.c) && x.a == y.a) && x.b == y.b
theorem sameCl_iff {x y : Cl} : sameCl x y = true ↔ x = y := by
  obtain ⟨a, b, c, d⟩ := x
  obtain ⟨a', b', c', d'⟩ := y
  unfold sameCl
  simp only [Bool.and_eq_true, beq_iff_eq, Cl.mk.injEq]
  constructor
  · rintro ⟨⟨⟨h1, h2⟩, h3⟩, h4⟩; exact ⟨h1, h2, h3, h4⟩
  · rintro ⟨h1, h2, h3, h4⟩; exact ⟨⟨⟨h1, h2⟩, h3⟩, h4⟩
instance : DecidableEq Cl := fun x y => if h : sameCl x y = true then isTrue (sameCl_iff.1 h) else isFalse (fun e => h (sameCl_iff.2 e))
set_option maxRecDepth 100000 in
set_option maxHeartbeats 4000000 in
theorem sameI_any (l m : List Int) (ra rb : Option Addr) (ca cb : Nat) (w : World) (hl : l.length ≤ maxLen) (_ : m.length ≤ maxLen) (hR : RX (Value.int .i64) w ra l) (hS : RX (Value.int .i64) w rb m) :
    Calls Tryz.prog 18 #[.slice ra l.length ca, .slice rb m.length cb] w fun e w' => e = .returned (.bool (decide (l = m))) ∧ Below w.heap.size w w' := by
  unfold maxLen at hl
  by_cases hlen : l.length = m.length
  · obtain ⟨b, o, h1, h2⟩ := RX.at hR
    obtain ⟨b', o', h1', h2'⟩ := RX.at hS
    rw [← hlen] at h1' ⊢
    have H1 : Hid _ := h1
    have H2 : Hid _ := h2
    have H1' : Hid _ := h1'
    have H2' : Hid _ := h2'
    have Hlen : Hid (l.length = m.length) := hlen
    have z : ((l.length : Int) == (l.length : Int)) = true := by simp
    clear h1 h2 h1' h2' hR hS hlen
    go_enter Tryz.func18, Tryz.ntmps18
    go_wp2
    go_loopw [5] (fun i wr => ∃ j : Nat, i = .int .i64 j ∧ j ≤ l.length ∧ Hid (l.take j = m.take j) ∧ Hid (Below w.heap.size w wr)) (fun i _ => l.length - (intOf i).toNat)
    case atStart => exact ⟨0, rfl, Nat.zero_le _, by show _ = _; simp, Below.refl _ _⟩
    case round =>
      obtain ⟨j, rfl, hj, HN, HW⟩ := hrel
      by_cases hlt : j < l.length
      · have i1 : (j : Int) < (l.length : Int) := by omega
        have hra := H1.out (by omega)
        subst hra
        have hrb := H1'.out (by omega)
        subst hrb
        obtain ⟨x, hx⟩ : ∃ x, l[j]? = some x := ⟨_, List.getElem?_eq_getElem hlt⟩
        obtain ⟨y, hy⟩ : ∃ y, m[j]? = some y := ⟨_, List.getElem?_eq_getElem (by rw [← Hlen.out]; exact hlt)⟩
        obtain ⟨hb, hc⟩ := H2.out j x hx
        obtain ⟨hb', hc'⟩ := H2'.out j y hy
        have f1 : wr.cell? ⟨b, o + j, none⟩ = some (.int .i64 x) := (HW.out.cell (p := ⟨b, o + j, none⟩) hb).trans hc
        have f2 : wr.cell? ⟨b', o' + j, none⟩ = some (.int .i64 y) := (HW.out.cell (p := ⟨b', o' + j, none⟩) hb').trans hc'
        have f3 : b < wr.heap.size := Nat.lt_of_lt_of_le hb HW.out.size
        have f4 : b' < wr.heap.size := Nat.lt_of_lt_of_le hb' HW.out.size
        have HX : Hid (l[j]? = some x) := hx
        have HY : Hid (m[j]? = some y) := hy
        clear hx hy hb hc hb' hc'
        by_cases he : x = y
        · subst he
          have z2 : (x == x) = true := by simp
          go_wp2_with fail
          go_quiet (fail)
          go_wp2
          go_roundw
          case rel =>
            refine ⟨j + 1, by go_num, by omega, ?_, below_drewM HW.out _⟩
            show _ = _
            rw [List.take_add_one, List.take_add_one, HN.out, HX.out, HY.out]
          case measure => simp [intOf]; omega
        · have HE : Hid (decide (l = m) = false) := decide_eq_false (eq_drop Hlen.out HX.out HY.out he)
          have z2 : (x == y) = false := by simpa using he
          clear he
          go_wp2_with fail
          go_quiet (fail)
          go_wp2
          go_ret
          exact ⟨by rw [HE.out]; rfl, below_drewM HW.out _⟩
      · have i1 : ¬ (j : Int) < (l.length : Int) := by omega
        have HE : Hid (decide (l = m) = true) := decide_eq_true (eq_of_take Hlen.out hlt HN.out)
        go_wp2
        go_ret
        exact ⟨by rw [HE.out]; rfl, HW.out⟩
  · have HE : Hid (decide (l = m) = false) := decide_eq_false (fun e => hlen (by rw [e]))
    have z : ((l.length : Int) == (m.length : Int)) = false := by simp; omega
    clear hlen hR hS
    go_enter Tryz.func18, Tryz.ntmps18
    go_wp2
    go_ret
    exact ⟨by rw [HE.out]; rfl, Below.refl _ _⟩
set_option maxRecDepth 100000 in
set_option maxHeartbeats 4000000 in
theorem sameB_any (l m : List Bool) (ra rb : Option Addr) (ca cb : Nat) (w : World) (hl : l.length ≤ maxLen) (_ : m.length ≤ maxLen) (hR : RX (Value.bool) w ra l) (hS : RX (Value.bool) w rb m) :
    Calls Tryz.prog 25 #[.slice ra l.length ca, .slice rb m.length cb] w fun e w' => e = .returned (.bool (decide (l = m))) ∧ Below w.heap.size w w' := by
  unfold maxLen at hl
  by_cases hlen : l.length = m.length
  · obtain ⟨b, o, h1, h2⟩ := RX.at hR
    obtain ⟨b', o', h1', h2'⟩ := RX.at hS
    rw [← hlen] at h1' ⊢
    have H1 : Hid _ := h1
    have H2 : Hid _ := h2
    have H1' : Hid _ := h1'
    have H2' : Hid _ := h2'
    have Hlen : Hid (l.length = m.length) := hlen
    have z : ((l.length : Int) == (l.length : Int)) = true := by simp
    clear h1 h2 h1' h2' hR hS hlen
    go_enter Tryz.func25, Tryz.ntmps25
    go_wp2
    go_loopw [5] (fun i wr => ∃ j : Nat, i = .int .i64 j ∧ j ≤ l.length ∧ Hid (l.take j = m.take j) ∧ Hid (Below w.heap.size w wr)) (fun i _ => l.length - (intOf i).toNat)
    case atStart => exact ⟨0, rfl, Nat.zero_le _, by show _ = _; simp, Below.refl _ _⟩
    case round =>
      obtain ⟨j, rfl, hj, HN, HW⟩ := hrel
      by_cases hlt : j < l.length
      · have i1 : (j : Int) < (l.length : Int) := by omega
        have hra := H1.out (by omega)
        subst hra
        have hrb := H1'.out (by omega)
        subst hrb
        obtain ⟨x, hx⟩ : ∃ x, l[j]? = some x := ⟨_, List.getElem?_eq_getElem hlt⟩
        obtain ⟨y, hy⟩ : ∃ y, m[j]? = some y := ⟨_, List.getElem?_eq_getElem (by rw [← Hlen.out]; exact hlt)⟩
        obtain ⟨hb, hc⟩ := H2.out j x hx
        obtain ⟨hb', hc'⟩ := H2'.out j y hy
        have f1 : wr.cell? ⟨b, o + j, none⟩ = some (.bool x) := (HW.out.cell (p := ⟨b, o + j, none⟩) hb).trans hc
        have f2 : wr.cell? ⟨b', o' + j, none⟩ = some (.bool y) := (HW.out.cell (p := ⟨b', o' + j, none⟩) hb').trans hc'
        have f3 : b < wr.heap.size := Nat.lt_of_lt_of_le hb HW.out.size
        have f4 : b' < wr.heap.size := Nat.lt_of_lt_of_le hb' HW.out.size
        have HX : Hid (l[j]? = some x) := hx
        have HY : Hid (m[j]? = some y) := hy
        clear hx hy hb hc hb' hc'
        by_cases he : x = y
        · subst he
          have z2 : (x == x) = true := by simp
          go_wp2_with fail
          go_quiet (fail)
          go_wp2
          go_roundw
          case rel =>
            refine ⟨j + 1, by go_num, by omega, ?_, below_drewM HW.out _⟩
            show _ = _
            rw [List.take_add_one, List.take_add_one, HN.out, HX.out, HY.out]
          case measure => simp [intOf]; omega
        · have HE : Hid (decide (l = m) = false) := decide_eq_false (eq_drop Hlen.out HX.out HY.out he)
          have z2 : (x == y) = false := by simpa using he
          clear he
          go_wp2_with fail
          go_quiet (fail)
          go_wp2
          go_ret
          exact ⟨by rw [HE.out]; rfl, below_drewM HW.out _⟩
      · have i1 : ¬ (j : Int) < (l.length : Int) := by omega
        have HE : Hid (decide (l = m) = true) := decide_eq_true (eq_of_take Hlen.out hlt HN.out)
        go_wp2
        go_ret
        exact ⟨by rw [HE.out]; rfl, HW.out⟩
  · have HE : Hid (decide (l = m) = false) := decide_eq_false (fun e => hlen (by rw [e]))
    have z : ((l.length : Int) == (m.length : Int)) = false := by simp; omega
    clear hlen hR hS
    go_enter Tryz.func25, Tryz.ntmps25
    go_wp2
    go_ret
    exact ⟨by rw [HE.out]; rfl, Below.refl _ _⟩
set_option maxRecDepth 100000 in
set_option maxHeartbeats 4000000 in
theorem sameW_any (l m : List Int) (ra rb : Option Addr) (ca cb : Nat) (w : World) (hl : l.length ≤ maxLen) (_ : m.length ≤ maxLen) (hR : RX (Value.int .u64) w ra l) (hS : RX (Value.int .u64) w rb m) :
    Calls Tryz.prog 34 #[.slice ra l.length ca, .slice rb m.length cb] w fun e w' => e = .returned (.bool (decide (l = m))) ∧ Below w.heap.size w w' := by
  unfold maxLen at hl
  by_cases hlen : l.length = m.length
  · obtain ⟨b, o, h1, h2⟩ := RX.at hR
    obtain ⟨b', o', h1', h2'⟩ := RX.at hS
    rw [← hlen] at h1' ⊢
    have H1 : Hid _ := h1
    have H2 : Hid _ := h2
    have H1' : Hid _ := h1'
    have H2' : Hid _ := h2'
    have Hlen : Hid (l.length = m.length) := hlen
    have z : ((l.length : Int) == (l.length : Int)) = true := by simp
    clear h1 h2 h1' h2' hR hS hlen
    go_enter Tryz.func34, Tryz.ntmps34
    go_wp2
    go_loopw [5] (fun i wr => ∃ j : Nat, i = .int .i64 j ∧ j ≤ l.length ∧ Hid (l.take j = m.take j) ∧ Hid (Below w.heap.size w wr)) (fun i _ => l.length - (intOf i).toNat)
    case atStart => exact ⟨0, rfl, Nat.zero_le _, by show _ = _; simp, Below.refl _ _⟩
    case round =>
      obtain ⟨j, rfl, hj, HN, HW⟩ := hrel
      by_cases hlt : j < l.length
      · have i1 : (j : Int) < (l.length : Int) := by omega
        have hra := H1.out (by omega)
        subst hra
        have hrb := H1'.out (by omega)
        subst hrb
        obtain ⟨x, hx⟩ : ∃ x, l[j]? = some x := ⟨_, List.getElem?_eq_getElem hlt⟩
        obtain ⟨y, hy⟩ : ∃ y, m[j]? = some y := ⟨_, List.getElem?_eq_getElem (by rw [← Hlen.out]; exact hlt)⟩
        obtain ⟨hb, hc⟩ := H2.out j x hx
        obtain ⟨hb', hc'⟩ := H2'.out j y hy
        have f1 : wr.cell? ⟨b, o + j, none⟩ = some (.int .u64 x) := (HW.out.cell (p := ⟨b, o + j, none⟩) hb).trans hc
        have f2 : wr.cell? ⟨b', o' + j, none⟩ = some (.int .u64 y) := (HW.out.cell (p := ⟨b', o' + j, none⟩) hb').trans hc'
        have f3 : b < wr.heap.size := Nat.lt_of_lt_of_le hb HW.out.size
        have f4 : b' < wr.heap.size := Nat.lt_of_lt_of_le hb' HW.out.size
        have HX : Hid (l[j]? = some x) := hx
        have HY : Hid (m[j]? = some y) := hy
        clear hx hy hb hc hb' hc'
        by_cases he : x = y
        · subst he
          have z2 : (x == x) = true := by simp
          go_wp2_with fail
          go_quiet (fail)
          go_wp2
          go_roundw
          case rel =>
            refine ⟨j + 1, by go_num, by omega, ?_, below_drewM HW.out _⟩
            show _ = _
            rw [List.take_add_one, List.take_add_one, HN.out, HX.out, HY.out]
          case measure => simp [intOf]; omega
        · have HE : Hid (decide (l = m) = false) := decide_eq_false (eq_drop Hlen.out HX.out HY.out he)
          have z2 : (x == y) = false := by simpa using he
          clear he
          go_wp2_with fail
          go_quiet (fail)
          go_wp2
          go_ret
          exact ⟨by rw [HE.out]; rfl, below_drewM HW.out _⟩
      · have i1 : ¬ (j : Int) < (l.length : Int) := by omega
        have HE : Hid (decide (l = m) = true) := decide_eq_true (eq_of_take Hlen.out hlt HN.out)
        go_wp2
        go_ret
        exact ⟨by rw [HE.out]; rfl, HW.out⟩
  · have HE : Hid (decide (l = m) = false) := decide_eq_false (fun e => hlen (by rw [e]))
    have z : ((l.length : Int) == (m.length : Int)) = false := by simp; omega
    clear hlen hR hS
    go_enter Tryz.func34, Tryz.ntmps34
    go_wp2
    go_ret
    exact ⟨by rw [HE.out]; rfl, Below.refl _ _⟩
theorem neqCl_any (x y : Cl) (w : World) : (binOp .neq 55 (.agg #[.int .u8 x.k, .int .u8 x.c, .int .u64 x.a, .int .u64 x.b]) (.agg #[.int .u8 y.k, .int .u8 y.c, .int .u64 y.a, .int .u64 y.b])).run Tryz.prog w = .ok (.bool (!sameCl x y)) w := by
  have u1 := Tryz.underlying50
  have u2 := Tryz.underlying51
  have u3 := Tryz.underlying53
  have hS : Tryz.prog.underlying 55 = some (.struct (Tryz.prog.fieldsOf 55)) := by kernel_rfl
  have hp : Tryz.prog.stoodInHeld 55 = false := by kernel_rfl
  rw [run_neq_struct, show (10000 : Nat) = 9999 + 1 from rfl, run_equalIn_agg w 9999 55 _ _ hS hp]
  simp only [Program.fieldsOf, Tryz.underlying55]
  unfold sameCl
  cases h1 : (x.k == y.k) <;> cases h2 : (x.c == y.c) <;> cases h3 : (x.a == y.a) <;> cases h4 : (x.b == y.b)
  all_goals go_simp
theorem neqCl_same (x : Cl) (w : World) : (binOp .neq 55 (.agg #[.int .u8 x.k, .int .u8 x.c, .int .u64 x.a, .int .u64 x.b]) (.agg #[.int .u8 x.k, .int .u8 x.c, .int .u64 x.a, .int .u64 x.b])).run Tryz.prog w = .ok (.bool false) w := by
  rw [neqCl_any, sameCl_iff.2 rfl]; rfl
theorem neqCl_ne (x y : Cl) (h : x ≠ y) (w : World) : (binOp .neq 55 (.agg #[.int .u8 x.k, .int .u8 x.c, .int .u64 x.a, .int .u64 x.b]) (.agg #[.int .u8 y.k, .int .u8 y.c, .int .u64 y.a, .int .u64 y.b])).run Tryz.prog w = .ok (.bool true) w := by
  rw [neqCl_any, Bool.eq_false_iff.2 (fun e => h (sameCl_iff.1 e))]; rfl
set_option maxRecDepth 100000 in
set_option maxHeartbeats 4000000 in
theorem sameK_any (l m : List Cl) (ra rb : Option Addr) (ca cb : Nat) (w : World) (hl : l.length ≤ maxLen) (_ : m.length ≤ maxLen) (hR : HX w ra l) (hS : HX w rb m) :
    Calls Tryz.prog 33 #[.slice ra l.length ca, .slice rb m.length cb] w fun e w' => e = .returned (.bool (decide (l = m))) ∧ Below w.heap.size w w' := by
  unfold maxLen at hl
  by_cases hlen : l.length = m.length
  · obtain ⟨b, o, h1, h2⟩ := HX.at hR
    obtain ⟨b', o', h1', h2'⟩ := HX.at hS
    rw [← hlen] at h1' ⊢
    have H1 : Hid _ := h1
    have H2 : Hid _ := h2
    have H1' : Hid _ := h1'
    have H2' : Hid _ := h2'
    have Hlen : Hid (l.length = m.length) := hlen
    have z : ((l.length : Int) == (l.length : Int)) = true := by simp
    clear h1 h2 h1' h2' hR hS hlen
    go_enter Tryz.func33, Tryz.ntmps33
    go_wp2
    go_loopw [5] (fun i wr => ∃ j : Nat, i = .int .i64 j ∧ j ≤ l.length ∧ Hid (l.take j = m.take j) ∧ Hid (Below w.heap.size w wr)) (fun i _ => l.length - (intOf i).toNat)
    case atStart => exact ⟨0, rfl, Nat.zero_le _, by show _ = _; simp, Below.refl _ _⟩
    case round =>
      obtain ⟨j, rfl, hj, HN, HW⟩ := hrel
      by_cases hlt : j < l.length
      · have i1 : (j : Int) < (l.length : Int) := by omega
        have hra := H1.out (by omega)
        subst hra
        have hrb := H1'.out (by omega)
        subst hrb
        obtain ⟨x, hx⟩ : ∃ x, l[j]? = some x := ⟨_, List.getElem?_eq_getElem hlt⟩
        obtain ⟨y, hy⟩ : ∃ y, m[j]? = some y := ⟨_, List.getElem?_eq_getElem (by rw [← Hlen.out]; exact hlt)⟩
        obtain ⟨hb, c0, c1, c2, c3⟩ := H2.out j x hx
        obtain ⟨hb', d0, d1, d2, d3⟩ := H2'.out j y hy
        have e := fun q => HW.out.cell (p := ⟨b, q, none⟩) hb
        have e' := fun q => HW.out.cell (p := ⟨b', q, none⟩) hb'
        have f10 := (e _).trans c0
        have f11 := (e _).trans c1
        have f12 := (e _).trans c2
        have f13 := (e _).trans c3
        have f20 := (e' _).trans d0
        have f21 := (e' _).trans d1
        have f22 := (e' _).trans d2
        have f23 := (e' _).trans d3
        clear e e' c0 c1 c2 c3 d0 d1 d2 d3
        have f3 : b < wr.heap.size := Nat.lt_of_lt_of_le hb HW.out.size
        have f4 : b' < wr.heap.size := Nat.lt_of_lt_of_le hb' HW.out.size
        have HX : Hid (l[j]? = some x) := hx
        have HY : Hid (m[j]? = some y) := hy
        clear hx hy hb hb'
        by_cases he : x = y
        · subst he
          have hq := fun wx => neqCl_same x wx
          go_wp2_with fail
          go_quiet (fail)
          go_wp2
          go_roundw
          case rel =>
            refine ⟨j + 1, by go_num, by omega, ?_, below_drewM HW.out _⟩
            show _ = _
            rw [List.take_add_one, List.take_add_one, HN.out, HX.out, HY.out]
          case measure => simp [intOf]; omega
        · have HE : Hid (decide (l = m) = false) := decide_eq_false (eq_drop Hlen.out HX.out HY.out he)
          have hq := fun wx => neqCl_ne x y he wx
          clear he
          go_wp2_with fail
          go_quiet (fail)
          go_wp2
          go_ret
          exact ⟨by rw [HE.out]; rfl, below_drewM HW.out _⟩
      · have i1 : ¬ (j : Int) < (l.length : Int) := by omega
        have HE : Hid (decide (l = m) = true) := decide_eq_true (eq_of_take Hlen.out hlt HN.out)
        go_wp2
        go_ret
        exact ⟨by rw [HE.out]; rfl, HW.out⟩
  · have HE : Hid (decide (l = m) = false) := decide_eq_false (fun e => hlen (by rw [e]))
    have z : ((l.length : Int) == (m.length : Int)) = false := by simp; omega
    clear hlen hR hS
    go_enter Tryz.func33, Tryz.ntmps33
    go_wp2
    go_ret
    exact ⟨by rw [HE.out]; rfl, Below.refl _ _⟩
end Go.Proofs.YtdcmkifljcdmmaaGreatDoor
