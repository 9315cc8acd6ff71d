/- Rows that are the same.; Rows of texts and of instructions that are the same.; Codes that are the same. -/
import Derived.Test.YtpkohocjgnodnaaGreatDoorGAF
import Derived.BigQuiet
import Derived.Laws.StructEq
/- Rows that are the same. -/
namespace Go.Proofs.YtpkohocjgnodnaaGreatDoor
open Go.RowKit

theorem below_drewM {n : Nat} {w0 w : World} (h : Below n w0 w) (k : Nat) : Below n w0 (w.drewN k) := by
  induction k generalizing w with
  | zero => exact h
  | succ k ih => exact (ih h).drew

theorem eq_drop {α : Type} {l m : List α} (hlen : l.length = m.length) {j : Nat} {x y : α} (hx : l[j]? = some x) (hy : m[j]? = some y) (h : x ≠ y) : l ≠ m := fun e => by subst e; rw [hx] at hy; exact h (Option.some.inj hy)
theorem eq_of_take {α : Type} {l m : List α} (hlen : l.length = m.length) {j : Nat} (hj : ¬ j < l.length) (h : l.take j = m.take j) : l = m := by
  rwa [List.take_of_length_le (by omega), List.take_of_length_le (by omega)] at h

set_option maxRecDepth 100000 in
set_option maxHeartbeats 4000000 in
theorem equalW_any (l m : List Int) (ra rb : Option Addr) (ca cb : Nat) (w : World) (hl : l.length ≤ maxLen) (_ : m.length ≤ maxLen) (hR : WR w ra l) (hS : WR w rb m) :
    Calls Tryz.prog 68 #[.slice ra l.length ca, .slice rb m.length cb] w fun e w' => e = .returned (.bool (decide (l = m))) ∧ Below w.heap.size w w' := by
  unfold maxLen at hl
  by_cases hlen : l.length = m.length
  · obtain ⟨b, o, h1, h2⟩ := WR.at hR
    obtain ⟨b', o', h1', h2'⟩ := WR.at hS
    rw [← hlen] at h1' ⊢
    have H1 : Hid _ := h1
    have H2 : Hid _ := h2
    have H1' : Hid _ := h1'
    have H2' : Hid _ := h2'
    have Hlen : Hid (l.length = m.length) := hlen
    have z : ((l.length : Int) == (l.length : Int)) = true := by simp
    clear h1 h2 h1' h2' hR hS hlen
    go_enter Tryz.func68, Tryz.ntmps68
    go_wp2
    go_loopw [13, 5] (fun i _ wr => ∃ j : Nat, i = .int .i64 j ∧ j ≤ l.length ∧ Hid (l.take j = m.take j) ∧ Hid (Below w.heap.size w wr)) (fun i _ _ => l.length - (intOf i).toNat)
    case atStart => exact ⟨0, rfl, Nat.zero_le _, by show _ = _; simp, Below.refl _ _⟩
    case round =>
      obtain ⟨j, rfl, hj, HN, HW⟩ := hrel
      by_cases hlt : j < l.length
      · have i1 : (j : Int) < (l.length : Int) := by omega
        have hra := H1.out (by omega)
        subst hra
        have hrb := H1'.out (by omega)
        subst hrb
        obtain ⟨x, hx⟩ : ∃ x, l[j]? = some x := ⟨_, List.getElem?_eq_getElem hlt⟩
        obtain ⟨y, hy⟩ : ∃ y, m[j]? = some y := ⟨_, List.getElem?_eq_getElem (by rw [← Hlen.out]; exact hlt)⟩
        obtain ⟨hb, hc, _⟩ := H2.out j x hx
        obtain ⟨hb', hc', _⟩ := H2'.out j y hy
        have f1 : wr.cell? ⟨b, o + j, none⟩ = some (.int .u64 x) := (HW.out.cell (p := ⟨b, o + j, none⟩) hb).trans hc
        have f2 : wr.cell? ⟨b', o' + j, none⟩ = some (.int .u64 y) := (HW.out.cell (p := ⟨b', o' + j, none⟩) hb').trans hc'
        have f3 : b < wr.heap.size := Nat.lt_of_lt_of_le hb HW.out.size
        have f4 : b' < wr.heap.size := Nat.lt_of_lt_of_le hb' HW.out.size
        have HX : Hid (l[j]? = some x) := hx
        have HY : Hid (m[j]? = some y) := hy
        clear hx hy hb hc hb' hc'
        by_cases he : x = y
        · subst he
          have z2 : (x == x) = true := by simp
          go_wp2_with fail
          go_quiet (fail)
          go_wp2
          go_roundw
          case rel =>
            refine ⟨j + 1, by go_num, by omega, ?_, below_drewM HW.out _⟩
            show _ = _
            rw [List.take_add_one, List.take_add_one, HN.out, HX.out, HY.out]
          case measure => simp [intOf]; omega
        · have HE : Hid (decide (l = m) = false) := decide_eq_false (eq_drop Hlen.out HX.out HY.out he)
          have z2 : (x == y) = false := by simpa using he
          clear he
          go_wp2_with fail
          go_quiet (fail)
          go_wp2
          go_ret
          exact ⟨by rw [HE.out]; rfl, below_drewM HW.out _⟩
      · have i1 : ¬ (j : Int) < (l.length : Int) := by omega
        have HE : Hid (decide (l = m) = true) := decide_eq_true (eq_of_take Hlen.out hlt HN.out)
        go_wp2
        go_ret
        exact ⟨by rw [HE.out]; rfl, HW.out⟩
  · have HE : Hid (decide (l = m) = false) := decide_eq_false (fun e => hlen (by rw [e]))
    have z : ((l.length : Int) == (m.length : Int)) = false := by simp; omega
    clear hlen hR hS
    go_enter Tryz.func68, Tryz.ntmps68
    go_wp2
    go_ret
    exact ⟨by rw [HE.out]; rfl, Below.refl _ _⟩
end Go.Proofs.YtpkohocjgnodnaaGreatDoor

/- Rows of texts and of instructions that are the same. -/
namespace Go.Proofs.YtpkohocjgnodnaaGreatDoor
open Go.RowKit

/-- Are instructions the same? -/
def sameN : List Ins → List Ins → Bool
  | [], [] => true
  | x :: l, y :: m => (x.op == y.op && x.a == y.a) && sameN l m
  | _, _ => false
theorem sameN_iff : ∀ l m : List Ins, sameN l m = true ↔ l = m
  | [], [] => by simp [sameN]
  | x :: l, y :: m => by
    obtain ⟨a, b⟩ := x
    obtain ⟨c, d⟩ := y
    simp [sameN, sameN_iff l m]
  | [], _ :: _ => by simp [sameN]
  | _ :: _, [] => by simp [sameN]
theorem sameN_true {l m : List Ins} (h : l = m) : sameN l m = true := (sameN_iff l m).2 h
theorem sameN_false {l m : List Ins} (h : l ≠ m) : sameN l m = false := Bool.eq_false_iff.2 fun e => h ((sameN_iff l m).1 e)
theorem eqGuardI : Tryz.prog.eqGuardType Tryz.prog.depth 79 = false := by kernel_rfl
theorem neqIns_any (k n k' n' : Int) (w : World) : (binOp .neq 79 (.agg #[.int .u8 k, .int .i64 n]) (.agg #[.int .u8 k', .int .i64 n'])).run Tryz.prog w = .ok (.bool (!(k == k' && n == n'))) w := by
  have u23 := Tryz.underlying23
  have u2 := Tryz.underlying2
  have u3 := Tryz.underlying3
  have hS : Tryz.prog.underlying 79 = some (.struct (Tryz.prog.fieldsOf 79)) := by kernel_rfl
  have hp : Tryz.prog.stoodInHeld 79 = false := by kernel_rfl
  rw [run_neq_struct, show (10000 : Nat) = 9999 + 1 from rfl, run_equalIn_agg w 9999 79 _ _ hS hp]
  simp only [Program.fieldsOf, Tryz.underlying79]
  cases h1 : (k == k') <;> cases h3 : (n == n')
  all_goals go_simp
theorem neqIns_same (k n : Int) (w : World) : (binOp .neq 79 (.agg #[.int .u8 k, .int .i64 n]) (.agg #[.int .u8 k, .int .i64 n])).run Tryz.prog w = .ok (.bool false) w := by rw [neqIns_any]; simp
theorem neqIns_ne (x y : Ins) (h : x ≠ y) (w : World) : (binOp .neq 79 (.agg #[.int .u8 x.op, .int .i64 x.a]) (.agg #[.int .u8 y.op, .int .i64 y.a])).run Tryz.prog w = .ok (.bool true) w := by
  rw [neqIns_any]
  have hf : (x.op == y.op && x.a == y.a) = false := by
    rw [Bool.eq_false_iff]
    intro hc
    rw [Bool.and_eq_true, beq_iff_eq, beq_iff_eq] at hc
    obtain ⟨a, b⟩ := x
    obtain ⟨c, d⟩ := y
    exact h (by rw [Ins.mk.injEq]; exact hc)
  rw [hf]; rfl

set_option maxRecDepth 100000 in
set_option maxHeartbeats 4000000 in
theorem equalX_any (l m : List (List UInt8)) (ra rb : Option Addr) (ca cb : Nat) (w : World) (hl : l.length ≤ maxLen) (_ : m.length ≤ maxLen) (hR : XR w ra l) (hS : XR w rb m) :
    Calls Tryz.prog 69 #[.slice ra l.length ca, .slice rb m.length cb] w fun e w' => e = .returned (.bool (decide (l = m))) ∧ Below w.heap.size w w' := by
  unfold maxLen at hl
  by_cases hlen : l.length = m.length
  · obtain ⟨b, o, h1, h2⟩ := XR.at hR
    obtain ⟨b', o', h1', h2'⟩ := XR.at hS
    rw [← hlen] at h1' ⊢
    have H1 : Hid _ := h1
    have H2 : Hid _ := h2
    have H1' : Hid _ := h1'
    have H2' : Hid _ := h2'
    have Hlen : Hid (l.length = m.length) := hlen
    have z : ((l.length : Int) == (l.length : Int)) = true := by simp
    clear h1 h2 h1' h2' hR hS hlen
    go_enter Tryz.func69, Tryz.ntmps69
    go_wp2
    go_loopw [13, 5] (fun i _ wr => ∃ j : Nat, i = .int .i64 j ∧ j ≤ l.length ∧ Hid (l.take j = m.take j) ∧ Hid (Below w.heap.size w wr)) (fun i _ _ => l.length - (intOf i).toNat)
    case atStart => exact ⟨0, rfl, Nat.zero_le _, by show _ = _; simp, Below.refl _ _⟩
    case round =>
      obtain ⟨j, rfl, hj, HN, HW⟩ := hrel
      by_cases hlt : j < l.length
      · have i1 : (j : Int) < (l.length : Int) := by omega
        have hra := H1.out (by omega)
        subst hra
        have hrb := H1'.out (by omega)
        subst hrb
        obtain ⟨x, hx⟩ : ∃ x, l[j]? = some x := ⟨_, List.getElem?_eq_getElem hlt⟩
        obtain ⟨y, hy⟩ : ∃ y, m[j]? = some y := ⟨_, List.getElem?_eq_getElem (by rw [← Hlen.out]; exact hlt)⟩
        obtain ⟨hb, hc, _⟩ := H2.out j x hx
        obtain ⟨hb', hc', _⟩ := H2'.out j y hy
        have f1 : wr.cell? ⟨b, o + j, none⟩ = some (S x) := (HW.out.cell (p := ⟨b, o + j, none⟩) hb).trans hc
        have f2 : wr.cell? ⟨b', o' + j, none⟩ = some (S y) := (HW.out.cell (p := ⟨b', o' + j, none⟩) hb').trans hc'
        have f3 : b < wr.heap.size := Nat.lt_of_lt_of_le hb HW.out.size
        have f4 : b' < wr.heap.size := Nat.lt_of_lt_of_le hb' HW.out.size
        have HX : Hid (l[j]? = some x) := hx
        have HY : Hid (m[j]? = some y) := hy
        clear hx hy hb hc hb' hc'
        by_cases he : x = y
        · subst he
          have z2 : (x == x) = true := by simp
          go_wp2_with fail
          go_quiet (fail)
          go_wp2
          go_roundw
          case rel =>
            refine ⟨j + 1, by go_num, by omega, ?_, below_drewM HW.out _⟩
            show _ = _
            rw [List.take_add_one, List.take_add_one, HN.out, HX.out, HY.out]
          case measure => simp [intOf]; omega
        · have HE : Hid (decide (l = m) = false) := decide_eq_false (eq_drop Hlen.out HX.out HY.out he)
          have z2 : (x == y) = false := by simpa using he
          clear he
          go_wp2_with fail
          go_quiet (fail)
          go_wp2
          go_ret
          exact ⟨by rw [HE.out]; rfl, below_drewM HW.out _⟩
      · have i1 : ¬ (j : Int) < (l.length : Int) := by omega
        have HE : Hid (decide (l = m) = true) := decide_eq_true (eq_of_take Hlen.out hlt HN.out)
        go_wp2
        go_ret
        exact ⟨by rw [HE.out]; rfl, HW.out⟩
  · have HE : Hid (decide (l = m) = false) := decide_eq_false (fun e => hlen (by rw [e]))
    have z : ((l.length : Int) == (m.length : Int)) = false := by simp; omega
    clear hlen hR hS
    go_enter Tryz.func69, Tryz.ntmps69
    go_wp2
    go_ret
    exact ⟨by rw [HE.out]; rfl, Below.refl _ _⟩
set_option maxRecDepth 100000 in
set_option maxHeartbeats 4000000 in
theorem equalN_any (l m : List Ins) (ra rb : Option Addr) (ca cb : Nat) (w : World) (hl : l.length ≤ maxLen) (_ : m.length ≤ maxLen) (hR : NR w ra l) (hS : NR w rb m) :
    Calls Tryz.prog 100 #[.slice ra l.length ca, .slice rb m.length cb] w fun e w' => e = .returned (.bool (sameN l m)) ∧ Below w.heap.size w w' := by
  unfold maxLen at hl
  by_cases hlen : l.length = m.length
  · obtain ⟨b, o, h1, h2⟩ := NR.at hR
    obtain ⟨b', o', h1', h2'⟩ := NR.at hS
    rw [← hlen] at h1' ⊢
    have H1 : Hid _ := h1
    have H2 : Hid _ := h2
    have H1' : Hid _ := h1'
    have H2' : Hid _ := h2'
    have Hlen : Hid (l.length = m.length) := hlen
    have z : ((l.length : Int) == (l.length : Int)) = true := by simp
    clear h1 h2 h1' h2' hR hS hlen
    go_enter Tryz.func100, Tryz.ntmps100
    go_wp2
    go_loopw [13, 5] (fun i _ wr => ∃ j : Nat, i = .int .i64 j ∧ j ≤ l.length ∧ Hid (l.take j = m.take j) ∧ Hid (Below w.heap.size w wr)) (fun i _ _ => l.length - (intOf i).toNat)
    case atStart => exact ⟨0, rfl, Nat.zero_le _, by show _ = _; simp, Below.refl _ _⟩
    case round =>
      obtain ⟨j, rfl, hj, HN, HW⟩ := hrel
      by_cases hlt : j < l.length
      · have i1 : (j : Int) < (l.length : Int) := by omega
        have hra := H1.out (by omega)
        subst hra
        have hrb := H1'.out (by omega)
        subst hrb
        obtain ⟨x, hx⟩ : ∃ x, l[j]? = some x := ⟨_, List.getElem?_eq_getElem hlt⟩
        obtain ⟨y, hy⟩ : ∃ y, m[j]? = some y := ⟨_, List.getElem?_eq_getElem (by rw [← Hlen.out]; exact hlt)⟩
        obtain ⟨hb, hc, hd⟩ := H2.out j x hx
        obtain ⟨hb', hc', hd'⟩ := H2'.out j y hy
        have f1 : wr.cell? ⟨b, o + j * 2, none⟩ = some (.int .u8 x.op) := (HW.out.cell (p := ⟨b, o + j * 2, none⟩) hb).trans hc
        have f5 : wr.cell? ⟨b, o + j * 2 + 1, none⟩ = some (.int .i64 x.a) := (HW.out.cell (p := ⟨b, o + j * 2 + 1, none⟩) hb).trans hd
        have f2 : wr.cell? ⟨b', o' + j * 2, none⟩ = some (.int .u8 y.op) := (HW.out.cell (p := ⟨b', o' + j * 2, none⟩) hb').trans hc'
        have f6 : wr.cell? ⟨b', o' + j * 2 + 1, none⟩ = some (.int .i64 y.a) := (HW.out.cell (p := ⟨b', o' + j * 2 + 1, none⟩) hb').trans hd'
        have f3 : b < wr.heap.size := Nat.lt_of_lt_of_le hb HW.out.size
        have f4 : b' < wr.heap.size := Nat.lt_of_lt_of_le hb' HW.out.size
        have HX : Hid (l[j]? = some x) := hx
        have HY : Hid (m[j]? = some y) := hy
        clear hx hy hb hc hb' hc' hd hd'
        by_cases he : x = y
        · subst he
          have hq := fun wx => neqIns_same x.op x.a wx
          go_wp2_with fail
          go_quiet (fail)
          go_wp2
          go_roundw
          case rel =>
            refine ⟨j + 1, by go_num, by omega, ?_, below_drewM HW.out _⟩
            show _ = _
            rw [List.take_add_one, List.take_add_one, HN.out, HX.out, HY.out]
          case measure => simp [intOf]; omega
        · have HE : Hid (sameN l m = false) := sameN_false (eq_drop Hlen.out HX.out HY.out he)
          have hq := fun wx => neqIns_ne x y he wx
          clear he
          go_wp2_with fail
          go_quiet (fail)
          go_wp2
          go_ret
          exact ⟨by rw [HE.out]; rfl, below_drewM HW.out _⟩
      · have i1 : ¬ (j : Int) < (l.length : Int) := by omega
        have HE : Hid (sameN l m = true) := sameN_true (eq_of_take Hlen.out hlt HN.out)
        go_wp2
        go_ret
        exact ⟨by rw [HE.out]; rfl, HW.out⟩
  · have HE : Hid (sameN l m = false) := sameN_false (fun e => hlen (by rw [e]))
    have z : ((l.length : Int) == (m.length : Int)) = false := by simp; omega
    clear hlen hR hS
    go_enter Tryz.func100, Tryz.ntmps100
    go_wp2
    go_ret
    exact ⟨by rw [HE.out]; rfl, Below.refl _ _⟩
end Go.Proofs.YtpkohocjgnodnaaGreatDoor

/- Codes that are the same. -/
namespace Go.Proofs.YtpkohocjgnodnaaGreatDoor
open Go.RowKit

def sameP (a b : Prc) : Bool := a.params == b.params && sameN a.code b.code
theorem sameP_iff (a b : Prc) : sameP a b = true ↔ a = b := by
  obtain ⟨p, c⟩ := a
  obtain ⟨q, d⟩ := b
  simp [sameP, sameN_iff]
def samePs : List Prc → List Prc → Bool
  | [], [] => true
  | x :: l, y :: m => sameP x y && samePs l m
  | _, _ => false
theorem samePs_iff : ∀ l m : List Prc, samePs l m = true ↔ l = m
  | [], [] => by simp [samePs]
  | x :: l, y :: m => by simp [samePs, samePs_iff l m, sameP_iff]
  | [], _ :: _ => by simp [samePs]
  | _ :: _, [] => by simp [samePs]
theorem samePs_true {l m : List Prc} (h : l = m) : samePs l m = true := (samePs_iff l m).2 h
theorem samePs_false {l m : List Prc} (h : l ≠ m) : samePs l m = false := Bool.eq_false_iff.2 fun e => h ((samePs_iff l m).1 e)
/-- Are codes the same? -/
def sameC (a b : Cd) : Bool := decide (a.consts = b.consts) && (decide (a.globals = b.globals) && samePs a.procs b.procs)
theorem sameC_iff (a b : Cd) : sameC a b = true ↔ a = b := by
  obtain ⟨p, c, g⟩ := a
  obtain ⟨q, d, h⟩ := b
  simp [sameC, samePs_iff]
  exact fun _ => And.comm

set_option maxRecDepth 100000 in
set_option maxHeartbeats 4000000 in
theorem sameProc_any (a b : Prc) (ra rb : Option Addr) (ca cb : Nat) (w : World) (hl : a.code.length ≤ maxLen) (hm : b.code.length ≤ maxLen) (hR : NR w ra a.code) (hS : NR w rb b.code) :
    Calls Tryz.prog 71 #[.agg #[.int .i64 a.params, .slice ra a.code.length ca], .agg #[.int .i64 b.params, .slice rb b.code.length cb]] w fun e w' => e = .returned (.bool (sameP a b)) ∧ Below w.heap.size w w' := by
  have hal : Below w.heap.size w ((w.alloc (.cells #[.int .i64 a.params, .slice ra a.code.length ca] 64)).alloc (.cells #[.int .i64 b.params, .slice rb b.code.length cb] 64)) := ((Below.refl _ w).alloc (Nat.le_refl _) _).alloc (by simp) _
  have HB : Hid _ := hal
  have HE : Hid (Calls Tryz.prog 100 #[.slice ra a.code.length ca, .slice rb b.code.length cb] ((w.alloc (.cells #[.int .i64 a.params, .slice ra a.code.length ca] 64)).alloc (.cells #[.int .i64 b.params, .slice rb b.code.length cb] 64)) fun e w' => e = .returned (.bool (sameN a.code b.code)) ∧ Below ((w.alloc (.cells #[.int .i64 a.params, .slice ra a.code.length ca] 64)).alloc (.cells #[.int .i64 b.params, .slice rb b.code.length cb] 64)).heap.size ((w.alloc (.cells #[.int .i64 a.params, .slice ra a.code.length ca] 64)).alloc (.cells #[.int .i64 b.params, .slice rb b.code.length cb] 64)) w') :=
    equalN_any a.code b.code ra rb ca cb _ hl hm (hR.below hal) (hS.below hal)
  unfold maxLen at hl
  clear hal hR hS
  cases hp : (a.params == b.params)
  · have HV : Hid (sameP a b = false) := by show _ = _; unfold sameP; rw [hp]; rfl
    go_enter Tryz.func71, Tryz.ntmps71
    go_wp2
    go_ret
    exact ⟨by rw [HV.out]; rfl, HB.out⟩
  · have HV : Hid (sameP a b = sameN a.code b.code) := by show _ = _; unfold sameP; rw [hp]; rfl
    go_enter Tryz.func71, Tryz.ntmps71
    go_wp2_with fail
    refine Calls.mono HE.out ?_
    rintro e w1 ⟨rfl, hb1⟩
    have HB1 : Hid (Below w.heap.size w w1) := HB.out.trans (hb1.mono HB.out.size)
    clear hb1 HE
    go_wp2
    go_ret
    exact ⟨by rw [HV.out]; rfl, HB1.out⟩

set_option maxRecDepth 100000 in
set_option maxHeartbeats 4000000 in
theorem equalF_any (l m : List Prc) (ra rb : Option Addr) (ca cb : Nat) (w : World) (hl : l.length ≤ maxLen) (_ : m.length ≤ maxLen) (hR : PR w ra l) (hS : PR w rb m) :
    Calls Tryz.prog 70 #[.slice ra l.length ca, .slice rb m.length cb, .func (.func 71) #[] #[]] w fun e w' => e = .returned (.bool (samePs l m)) ∧ Below w.heap.size w w' := by
  unfold maxLen at hl
  by_cases hlen : l.length = m.length
  · obtain ⟨b, o, h1, h2⟩ := PR.at hR
    obtain ⟨b', o', h1', h2'⟩ := PR.at hS
    rw [← hlen] at h1' ⊢
    have H1 : Hid (l.length ≠ 0 → ra = some ⟨b, o, none⟩) := h1
    have H2 : Hid (∀ j x, l[j]? = some x → b < w.heap.size ∧ w.cell? ⟨b, o + j * 2, none⟩ = some (.int .i64 x.params) ∧ (∃ rc cc, w.cell? ⟨b, o + j * 2 + 1, none⟩ = some (.slice rc x.code.length cc) ∧ NR w rc x.code) ∧ x.code.length ≤ maxLen) := h2
    have H1' : Hid (l.length ≠ 0 → rb = some ⟨b', o', none⟩) := h1'
    have H2' : Hid (∀ j x, m[j]? = some x → b' < w.heap.size ∧ w.cell? ⟨b', o' + j * 2, none⟩ = some (.int .i64 x.params) ∧ (∃ rc cc, w.cell? ⟨b', o' + j * 2 + 1, none⟩ = some (.slice rc x.code.length cc) ∧ NR w rc x.code) ∧ x.code.length ≤ maxLen) := h2'
    have Hlen : Hid (l.length = m.length) := hlen
    have z : ((l.length : Int) == (l.length : Int)) = true := by simp
    clear h1 h2 h1' h2' hR hS hlen
    go_enter Tryz.func70, Tryz.ntmps70
    go_wp2
    go_loopw [17, 7, 8, 9] (fun i _ _ _ wr => ∃ j : Nat, i = .int .i64 j ∧ j ≤ l.length ∧ Hid (l.take j = m.take j) ∧ Hid (Below w.heap.size w wr)) (fun i _ _ _ _ => l.length - (intOf i).toNat)
    case atStart => exact ⟨0, rfl, Nat.zero_le _, by show _ = _; simp, Below.refl _ _⟩
    case round =>
      obtain ⟨j, rfl, hj, HN, HW⟩ := hrel
      by_cases hlt : j < l.length
      · have i1 : (j : Int) < (l.length : Int) := by omega
        have hra := H1.out (by omega)
        subst hra
        have hrb := H1'.out (by omega)
        subst hrb
        obtain ⟨x, hx⟩ : ∃ x, l[j]? = some x := ⟨_, List.getElem?_eq_getElem hlt⟩
        obtain ⟨y, hy⟩ : ∃ y, m[j]? = some y := ⟨_, List.getElem?_eq_getElem (by rw [← Hlen.out]; exact hlt)⟩
        obtain ⟨hb, k1, ⟨rc, cc, k2, k3⟩, k4⟩ := H2.out j x hx
        obtain ⟨hb', q1, ⟨rd, cd, q2, q3⟩, q4⟩ := H2'.out j y hy
        have f1 : wr.cell? ⟨b, o + j * 2, none⟩ = some (.int .i64 x.params) := (HW.out.cell (p := ⟨b, o + j * 2, none⟩) hb).trans k1
        have f2 : wr.cell? ⟨b, o + j * 2 + 1, none⟩ = some (.slice rc x.code.length cc) := (HW.out.cell (p := ⟨b, o + j * 2 + 1, none⟩) hb).trans k2
        have g1 : wr.cell? ⟨b', o' + j * 2, none⟩ = some (.int .i64 y.params) := (HW.out.cell (p := ⟨b', o' + j * 2, none⟩) hb').trans q1
        have g2 : wr.cell? ⟨b', o' + j * 2 + 1, none⟩ = some (.slice rd y.code.length cd) := (HW.out.cell (p := ⟨b', o' + j * 2 + 1, none⟩) hb').trans q2
        have f3 : b < wr.heap.size := Nat.lt_of_lt_of_le hb HW.out.size
        have f4 : b' < wr.heap.size := Nat.lt_of_lt_of_le hb' HW.out.size
        have f5 : b' < wr.heap.size + 1 := by omega
        have HX : Hid (l[j]? = some x) := hx
        have HY : Hid (m[j]? = some y) := hy
        have HWa : Hid (Below w.heap.size w ((wr.alloc (.cells #[.int .i64 x.params, .slice rc x.code.length cc] 64)).alloc (.cells #[.int .i64 y.params, .slice rd y.code.length cd] 64))) := (HW.out.alloc HW.out.size _).alloc (Nat.le_trans HW.out.size (by simp)) _
        have HC : Hid (∀ w5 : World, Below w.heap.size w w5 → Calls Tryz.prog 71 #[.agg #[.int .i64 x.params, .slice rc x.code.length cc], .agg #[.int .i64 y.params, .slice rd y.code.length cd]] w5 fun e w' => e = .returned (.bool (sameP x y)) ∧ Below w5.heap.size w5 w') :=
          fun w5 h5 => sameProc_any x y rc rd cc cd w5 k4 q4 (k3.below h5) (q3.below h5)
        clear hx hy hb k1 k2 k3 k4 hb' q1 q2 q3 q4
        go_wp2_with fail
        refine (HC.out _ HWa.out).mono ?_
        rintro e w4 ⟨rfl, hb4⟩
        have HW4 : Hid (Below w.heap.size w w4) := HWa.out.trans (hb4.mono HWa.out.size)
        clear hb4 f1 f2 g1 g2 HC
        cases he : sameP x y
        · have HE : Hid (samePs l m = false) := samePs_false (eq_drop Hlen.out HX.out HY.out (fun e => by rw [(sameP_iff x y).2 e] at he; cases he))
          clear he
          go_wp2
          go_ret
          exact ⟨by rw [HE.out]; rfl, HW4.out⟩
        · have he' := (sameP_iff x y).1 he
          subst he'
          clear he
          go_wp2
          go_roundw
          case rel =>
            refine ⟨j + 1, by go_num, by omega, ?_, HW4⟩
            show _ = _
            rw [List.take_add_one, List.take_add_one, HN.out, HX.out, HY.out]
          case measure => simp [intOf]; omega
      · have i1 : ¬ (j : Int) < (l.length : Int) := by omega
        have HE : Hid (samePs l m = true) := samePs_true (eq_of_take Hlen.out hlt HN.out)
        go_wp2
        go_ret
        exact ⟨by rw [HE.out]; rfl, HW.out⟩
  · have HE : Hid (samePs l m = false) := samePs_false (fun e => hlen (by rw [e]))
    have z : ((l.length : Int) == (m.length : Int)) = false := by simp; omega
    clear hlen hR hS
    go_enter Tryz.func70, Tryz.ntmps70
    go_wp2
    go_ret
    exact ⟨by rw [HE.out]; rfl, Below.refl _ _⟩

set_option maxRecDepth 100000 in
set_option maxHeartbeats 4000000 in
theorem same_any (a b : Cd) (va vb : Value) (w : World) (ha : CV w va a) (hb : CV w vb b) :
    Calls Tryz.prog 20 #[va, vb] w fun e w' => e = .returned (.bool (sameC a b)) ∧ Below w.heap.size w w' := by
  obtain ⟨⟨r1, c1, r2, c2, r3, c3, rfl, hw1, hp1, hx1, _⟩, hl1⟩ := ha
  obtain ⟨⟨s1, d1, s2, d2, s3, d3, rfl, hw2, hp2, hx2, _⟩, hl2⟩ := hb
  have hal : Below w.heap.size w ((w.alloc (.cells #[.slice r1 a.consts.length c1, .slice r2 a.procs.length c2, .slice r3 a.globals.length c3] 26)).alloc (.cells #[.slice s1 b.consts.length d1, .slice s2 b.procs.length d2, .slice s3 b.globals.length d3] 26)) := ((Below.refl _ w).alloc (Nat.le_refl _) _).alloc (by simp) _
  have HB : Hid (Below w.heap.size w ((w.alloc (.cells #[.slice r1 a.consts.length c1, .slice r2 a.procs.length c2, .slice r3 a.globals.length c3] 26)).alloc (.cells #[.slice s1 b.consts.length d1, .slice s2 b.procs.length d2, .slice s3 b.globals.length d3] 26))) := hal
  have HQ0 : Hid (((w.alloc (.cells #[.slice r1 a.consts.length c1, .slice r2 a.procs.length c2, .slice r3 a.globals.length c3] 26)).alloc (.cells #[.slice s1 b.consts.length d1, .slice s2 b.procs.length d2, .slice s3 b.globals.length d3] 26)).heap[w.heap.size]? = some (.cells #[.slice r1 a.consts.length c1, .slice r2 a.procs.length c2, .slice r3 a.globals.length c3] 26 (0, 0))) := (Below.heap_alloc _ _ _ (by simp)).trans (heap_alloc_new _ _)
  have HQ1 : Hid (((w.alloc (.cells #[.slice r1 a.consts.length c1, .slice r2 a.procs.length c2, .slice r3 a.globals.length c3] 26)).alloc (.cells #[.slice s1 b.consts.length d1, .slice s2 b.procs.length d2, .slice s3 b.globals.length d3] 26)).heap[w.heap.size + 1]? = some (.cells #[.slice s1 b.consts.length d1, .slice s2 b.procs.length d2, .slice s3 b.globals.length d3] 26 (0, 0))) := by
    have := heap_alloc_new (w.alloc (.cells #[.slice r1 a.consts.length c1, .slice r2 a.procs.length c2, .slice r3 a.globals.length c3] 26)) (.cells #[.slice s1 b.consts.length d1, .slice s2 b.procs.length d2, .slice s3 b.globals.length d3] 26)
    rwa [World.size_alloc] at this
  have HS : Hid (((w.alloc (.cells #[.slice r1 a.consts.length c1, .slice r2 a.procs.length c2, .slice r3 a.globals.length c3] 26)).alloc (.cells #[.slice s1 b.consts.length d1, .slice s2 b.procs.length d2, .slice s3 b.globals.length d3] 26)).heap.size = w.heap.size + 2) := by show _ = _; rw [World.size_alloc, World.size_alloc]
  have H1 : Hid (∀ w5 : World, Below w.heap.size w w5 → Calls Tryz.prog 68 #[.slice r1 a.consts.length c1, .slice s1 b.consts.length d1] w5 fun e w' => e = .returned (.bool (decide (a.consts = b.consts))) ∧ Below w5.heap.size w5 w') := fun w5 h5 => equalW_any _ _ _ _ _ _ w5 hl1.1 hl2.1 (hw1.below h5) (hw2.below h5)
  have H2 : Hid (∀ w5 : World, Below w.heap.size w w5 → Calls Tryz.prog 69 #[.slice r3 a.globals.length c3, .slice s3 b.globals.length d3] w5 fun e w' => e = .returned (.bool (decide (a.globals = b.globals))) ∧ Below w5.heap.size w5 w') := fun w5 h5 => equalX_any _ _ _ _ _ _ w5 hl1.2.2 hl2.2.2 (hx1.below h5) (hx2.below h5)
  have H3 : Hid (∀ w5 : World, Below w.heap.size w w5 → Calls Tryz.prog 70 #[.slice r2 a.procs.length c2, .slice s2 b.procs.length d2, .func (.func 71) #[] #[]] w5 fun e w' => e = .returned (.bool (samePs a.procs b.procs)) ∧ Below w5.heap.size w5 w') := fun w5 h5 => equalF_any _ _ _ _ _ _ w5 hl1.2.1 hl2.2.1 (hp1.below h5) (hp2.below h5)
  clear hal hw1 hp1 hx1 hw2 hp2 hx2 hl1 hl2
  go_enter Tryz.func20, Tryz.ntmps20
  go_wp2_with fail
  refine (H1.out _ HB.out).mono ?_
  rintro e w1 ⟨rfl, hb1⟩
  have HB1 : Hid (Below w.heap.size w w1) := HB.out.trans (hb1.mono HB.out.size)
  have HS1 : Hid (w.heap.size + 2 ≤ w1.heap.size) := by show _ ≤ _; rw [← HS.out]; exact hb1.size
  have e0 := (hb1.block w.heap.size (by rw [HS.out]; omega)).trans HQ0.out
  have e1 := (hb1.block (w.heap.size + 1) (by rw [HS.out]; omega)).trans HQ1.out
  have HE0 : Hid (w1.heap[w.heap.size]? = some (.cells #[.slice r1 a.consts.length c1, .slice r2 a.procs.length c2, .slice r3 a.globals.length c3] 26 (0, 0))) := e0
  have HE1 : Hid (w1.heap[w.heap.size + 1]? = some (.cells #[.slice s1 b.consts.length d1, .slice s2 b.procs.length d2, .slice s3 b.globals.length d3] 26 (0, 0))) := e1
  clear e0 e1 hb1
  cases h1 : decide (a.consts = b.consts)
  · have HV : Hid (sameC a b = false) := by show _ = _; unfold sameC; rw [h1]; rfl
    clear h1
    go_wp2
    go_ret
    exact ⟨by rw [HV.out]; rfl, HB1.out⟩
  have HV : Hid (sameC a b = (decide (a.globals = b.globals) && samePs a.procs b.procs)) := by show _ = _; unfold sameC; rw [h1]; rfl
  clear h1
  have u2 : w1.cell? ⟨w.heap.size, 2, none⟩ = some (.slice r3 a.globals.length c3) := by simp [World.cell?, HE0.out]
  have v2 : w1.cell? ⟨w.heap.size + 1, 2, none⟩ = some (.slice s3 b.globals.length d3) := by simp [World.cell?, HE1.out]
  go_wp2_with fail
  refine (H2.out _ HB1.out).mono ?_
  rintro e w2 ⟨rfl, hb2⟩
  have HB2 : Hid (Below w.heap.size w w2) := HB1.out.trans (hb2.mono HB1.out.size)
  have e0 := (hb2.block w.heap.size (by have := HS1.out; omega)).trans HE0.out
  have e1 := (hb2.block (w.heap.size + 1) (by have := HS1.out; omega)).trans HE1.out
  have u1 : w2.cell? ⟨w.heap.size, 1, none⟩ = some (.slice r2 a.procs.length c2) := by simp [World.cell?, e0]
  have v1 : w2.cell? ⟨w.heap.size + 1, 1, none⟩ = some (.slice s2 b.procs.length d2) := by simp [World.cell?, e1]
  clear e0 e1 hb2 u2 v2
  cases h2 : decide (a.globals = b.globals)
  · have HV2 : Hid (sameC a b = false) := by show _ = _; rw [HV.out, h2]; rfl
    clear h2
    go_wp2
    go_ret
    exact ⟨by rw [HV2.out]; rfl, HB2.out⟩
  have HV2 : Hid (sameC a b = samePs a.procs b.procs) := by show _ = _; rw [HV.out, h2]; rfl
  clear h2
  go_wp2_with fail
  refine (H3.out _ HB2.out).mono ?_
  rintro e w3 ⟨rfl, hb3⟩
  have HB3 : Hid (Below w.heap.size w w3) := HB2.out.trans (hb3.mono HB2.out.size)
  clear hb3 u1 v1
  go_wp2
  go_ret
  exact ⟨by rw [HV2.out]; rfl, HB3.out⟩
end Go.Proofs.YtpkohocjgnodnaaGreatDoor
