/- The document's SameWords, SameTexts, SameInstrs. -/
import Derived.Test.YtnblieohdngmiaaGreatDoorGH
namespace Go.Proofs.YtnblieohdngmiaaGreatDoor
open Go.RowKit

set_option maxRecDepth 100000 in
set_option maxHeartbeats 4000000 in
theorem sameW_any (l m : List Int) (ra rb : Option Addr) (ca cb : Nat) (w : World) (hl : l.length ≤ maxLen) (_ : m.length ≤ maxLen) (hR : WR w ra l) (hS : WR w rb m) :
    Calls Tryz.prog 48 #[.slice ra l.length ca, .slice rb m.length cb] w fun e w' => e = .returned (.bool (decide (l = m))) ∧ Below w.heap.size w w' := by
  unfold maxLen at hl
  by_cases hlen : l.length = m.length
  · obtain ⟨b, o, h1, h2⟩ := WR.at hR
    obtain ⟨b', o', h1', h2'⟩ := WR.at hS
    rw [← hlen] at h1' ⊢
    have H1 : Hid _ := h1
    have H2 : Hid _ := h2
    have H1' : Hid _ := h1'
    have H2' : Hid _ := h2'
    have Hlen : Hid (l.length = m.length) := hlen
    have z : ((l.length : Int) == (l.length : Int)) = true := by simp
    clear h1 h2 h1' h2' hR hS hlen
    go_enter Tryz.func48, Tryz.ntmps48
    go_wp2
    go_loopw [5] (fun i wr => ∃ j : Nat, i = .int .i64 j ∧ j ≤ l.length ∧ Hid (l.take j = m.take j) ∧ Hid (Below w.heap.size w wr)) (fun i _ => l.length - (intOf i).toNat)
    case atStart => exact ⟨0, rfl, Nat.zero_le _, by show _ = _; simp, Below.refl _ _⟩
    case round =>
      obtain ⟨j, rfl, hj, HN, HW⟩ := hrel
      by_cases hlt : j < l.length
      · have i1 : (j : Int) < (l.length : Int) := by omega
        have hra := H1.out (by omega)
        subst hra
        have hrb := H1'.out (by omega)
        subst hrb
        obtain ⟨x, hx⟩ : ∃ x, l[j]? = some x := ⟨_, List.getElem?_eq_getElem hlt⟩
        obtain ⟨y, hy⟩ : ∃ y, m[j]? = some y := ⟨_, List.getElem?_eq_getElem (by rw [← Hlen.out]; exact hlt)⟩
        obtain ⟨hb, hc, _⟩ := H2.out j x hx
        obtain ⟨hb', hc', _⟩ := H2'.out j y hy
        have f1 : wr.cell? ⟨b, o + j, none⟩ = some (.int .u64 x) := (HW.out.cell (p := ⟨b, o + j, none⟩) hb).trans hc
        have f2 : wr.cell? ⟨b', o' + j, none⟩ = some (.int .u64 y) := (HW.out.cell (p := ⟨b', o' + j, none⟩) hb').trans hc'
        have f3 : b < wr.heap.size := Nat.lt_of_lt_of_le hb HW.out.size
        have f4 : b' < wr.heap.size := Nat.lt_of_lt_of_le hb' HW.out.size
        have HX : Hid (l[j]? = some x) := hx
        have HY : Hid (m[j]? = some y) := hy
        clear hx hy hb hc hb' hc'
        by_cases he : x = y
        · subst he
          have z2 : (x == x) = true := by simp
          go_wp2_with fail
          go_quiet (fail)
          go_wp2
          go_roundw
          case rel =>
            refine ⟨j + 1, by go_num, by omega, ?_, below_drewM HW.out _⟩
            show _ = _
            rw [List.take_add_one, List.take_add_one, HN.out, HX.out, HY.out]
          case measure => simp [intOf]; omega
        · have HE : Hid (decide (l = m) = false) := decide_eq_false (eq_drop Hlen.out HX.out HY.out he)
          have z2 : (x == y) = false := by simpa using he
          clear he
          go_wp2_with fail
          go_quiet (fail)
          go_wp2
          go_ret
          exact ⟨by rw [HE.out]; rfl, below_drewM HW.out _⟩
      · have i1 : ¬ (j : Int) < (l.length : Int) := by omega
        have HE : Hid (decide (l = m) = true) := decide_eq_true (eq_of_take Hlen.out hlt HN.out)
        go_wp2
        go_ret
        exact ⟨by rw [HE.out]; rfl, HW.out⟩
  · have HE : Hid (decide (l = m) = false) := decide_eq_false (fun e => hlen (by rw [e]))
    have z : ((l.length : Int) == (m.length : Int)) = false := by simp; omega
    clear hlen hR hS
    go_enter Tryz.func48, Tryz.ntmps48
    go_wp2
    go_ret
    exact ⟨by rw [HE.out]; rfl, Below.refl _ _⟩
set_option maxRecDepth 100000 in
set_option maxHeartbeats 4000000 in
theorem sameX_any (l m : List (List UInt8)) (ra rb : Option Addr) (ca cb : Nat) (w : World) (hl : l.length ≤ maxLen) (_ : m.length ≤ maxLen) (hR : XR w ra l) (hS : XR w rb m) :
    Calls Tryz.prog 50 #[.slice ra l.length ca, .slice rb m.length cb] w fun e w' => e = .returned (.bool (decide (l = m))) ∧ Below w.heap.size w w' := by
  unfold maxLen at hl
  by_cases hlen : l.length = m.length
  · obtain ⟨b, o, h1, h2⟩ := XR.at hR
    obtain ⟨b', o', h1', h2'⟩ := XR.at hS
    rw [← hlen] at h1' ⊢
    have H1 : Hid _ := h1
    have H2 : Hid _ := h2
    have H1' : Hid _ := h1'
    have H2' : Hid _ := h2'
    have Hlen : Hid (l.length = m.length) := hlen
    have z : ((l.length : Int) == (l.length : Int)) = true := by simp
    clear h1 h2 h1' h2' hR hS hlen
    go_enter Tryz.func50, Tryz.ntmps50
    go_wp2
    go_loopw [5] (fun i wr => ∃ j : Nat, i = .int .i64 j ∧ j ≤ l.length ∧ Hid (l.take j = m.take j) ∧ Hid (Below w.heap.size w wr)) (fun i _ => l.length - (intOf i).toNat)
    case atStart => exact ⟨0, rfl, Nat.zero_le _, by show _ = _; simp, Below.refl _ _⟩
    case round =>
      obtain ⟨j, rfl, hj, HN, HW⟩ := hrel
      by_cases hlt : j < l.length
      · have i1 : (j : Int) < (l.length : Int) := by omega
        have hra := H1.out (by omega)
        subst hra
        have hrb := H1'.out (by omega)
        subst hrb
        obtain ⟨x, hx⟩ : ∃ x, l[j]? = some x := ⟨_, List.getElem?_eq_getElem hlt⟩
        obtain ⟨y, hy⟩ : ∃ y, m[j]? = some y := ⟨_, List.getElem?_eq_getElem (by rw [← Hlen.out]; exact hlt)⟩
        obtain ⟨hb, hc, _⟩ := H2.out j x hx
        obtain ⟨hb', hc', _⟩ := H2'.out j y hy
        have f1 : wr.cell? ⟨b, o + j, none⟩ = some (S x) := (HW.out.cell (p := ⟨b, o + j, none⟩) hb).trans hc
        have f2 : wr.cell? ⟨b', o' + j, none⟩ = some (S y) := (HW.out.cell (p := ⟨b', o' + j, none⟩) hb').trans hc'
        have f3 : b < wr.heap.size := Nat.lt_of_lt_of_le hb HW.out.size
        have f4 : b' < wr.heap.size := Nat.lt_of_lt_of_le hb' HW.out.size
        have HX : Hid (l[j]? = some x) := hx
        have HY : Hid (m[j]? = some y) := hy
        clear hx hy hb hc hb' hc'
        by_cases he : x = y
        · subst he
          have z2 : (x == x) = true := by simp
          go_wp2_with fail
          go_quiet (fail)
          go_wp2
          go_roundw
          case rel =>
            refine ⟨j + 1, by go_num, by omega, ?_, below_drewM HW.out _⟩
            show _ = _
            rw [List.take_add_one, List.take_add_one, HN.out, HX.out, HY.out]
          case measure => simp [intOf]; omega
        · have HE : Hid (decide (l = m) = false) := decide_eq_false (eq_drop Hlen.out HX.out HY.out he)
          have z2 : (x == y) = false := by simpa using he
          clear he
          go_wp2_with fail
          go_quiet (fail)
          go_wp2
          go_ret
          exact ⟨by rw [HE.out]; rfl, below_drewM HW.out _⟩
      · have i1 : ¬ (j : Int) < (l.length : Int) := by omega
        have HE : Hid (decide (l = m) = true) := decide_eq_true (eq_of_take Hlen.out hlt HN.out)
        go_wp2
        go_ret
        exact ⟨by rw [HE.out]; rfl, HW.out⟩
  · have HE : Hid (decide (l = m) = false) := decide_eq_false (fun e => hlen (by rw [e]))
    have z : ((l.length : Int) == (m.length : Int)) = false := by simp; omega
    clear hlen hR hS
    go_enter Tryz.func50, Tryz.ntmps50
    go_wp2
    go_ret
    exact ⟨by rw [HE.out]; rfl, Below.refl _ _⟩
set_option maxRecDepth 100000 in
set_option maxHeartbeats 4000000 in
theorem sameN_any (l m : List Ins) (ra rb : Option Addr) (ca cb : Nat) (w : World) (hl : l.length ≤ maxLen) (_ : m.length ≤ maxLen) (hR : NR w ra l) (hS : NR w rb m) :
    Calls Tryz.prog 94 #[.slice ra l.length ca, .slice rb m.length cb] w fun e w' => e = .returned (.bool (sameN l m)) ∧ Below w.heap.size w w' := by
  unfold maxLen at hl
  by_cases hlen : l.length = m.length
  · obtain ⟨b, o, h1, h2⟩ := NR.at hR
    obtain ⟨b', o', h1', h2'⟩ := NR.at hS
    rw [← hlen] at h1' ⊢
    have H1 : Hid _ := h1
    have H2 : Hid _ := h2
    have H1' : Hid _ := h1'
    have H2' : Hid _ := h2'
    have Hlen : Hid (l.length = m.length) := hlen
    have z : ((l.length : Int) == (l.length : Int)) = true := by simp
    clear h1 h2 h1' h2' hR hS hlen
    go_enter Tryz.func94, Tryz.ntmps94
    go_wp2
    go_loopw [5] (fun i wr => ∃ j : Nat, i = .int .i64 j ∧ j ≤ l.length ∧ Hid (l.take j = m.take j) ∧ Hid (Below w.heap.size w wr)) (fun i _ => l.length - (intOf i).toNat)
    case atStart => exact ⟨0, rfl, Nat.zero_le _, by show _ = _; simp, Below.refl _ _⟩
    case round =>
      obtain ⟨j, rfl, hj, HN, HW⟩ := hrel
      by_cases hlt : j < l.length
      · have i1 : (j : Int) < (l.length : Int) := by omega
        have hra := H1.out (by omega)
        subst hra
        have hrb := H1'.out (by omega)
        subst hrb
        obtain ⟨x, hx⟩ : ∃ x, l[j]? = some x := ⟨_, List.getElem?_eq_getElem hlt⟩
        obtain ⟨y, hy⟩ : ∃ y, m[j]? = some y := ⟨_, List.getElem?_eq_getElem (by rw [← Hlen.out]; exact hlt)⟩
        obtain ⟨hb, hc, hd⟩ := H2.out j x hx
        obtain ⟨hb', hc', hd'⟩ := H2'.out j y hy
        have f1 : wr.cell? ⟨b, o + j * 2, none⟩ = some (.int .u8 x.op) := (HW.out.cell (p := ⟨b, o + j * 2, none⟩) hb).trans hc
        have f5 : wr.cell? ⟨b, o + j * 2 + 1, none⟩ = some (.int .i64 x.a) := (HW.out.cell (p := ⟨b, o + j * 2 + 1, none⟩) hb).trans hd
        have f2 : wr.cell? ⟨b', o' + j * 2, none⟩ = some (.int .u8 y.op) := (HW.out.cell (p := ⟨b', o' + j * 2, none⟩) hb').trans hc'
        have f6 : wr.cell? ⟨b', o' + j * 2 + 1, none⟩ = some (.int .i64 y.a) := (HW.out.cell (p := ⟨b', o' + j * 2 + 1, none⟩) hb').trans hd'
        have f3 : b < wr.heap.size := Nat.lt_of_lt_of_le hb HW.out.size
        have f4 : b' < wr.heap.size := Nat.lt_of_lt_of_le hb' HW.out.size
        have HX : Hid (l[j]? = some x) := hx
        have HY : Hid (m[j]? = some y) := hy
        clear hx hy hb hc hb' hc' hd hd'
        by_cases he : x = y
        · subst he
          have hq := fun wx => neqIns_same x.op x.a wx
          go_wp2_with fail
          go_quiet (fail)
          go_wp2
          go_roundw
          case rel =>
            refine ⟨j + 1, by go_num, by omega, ?_, below_drewM HW.out _⟩
            show _ = _
            rw [List.take_add_one, List.take_add_one, HN.out, HX.out, HY.out]
          case measure => simp [intOf]; omega
        · have HE : Hid (sameN l m = false) := sameN_false (eq_drop Hlen.out HX.out HY.out he)
          have hq := fun wx => neqIns_ne x y he wx
          clear he
          go_wp2_with fail
          go_quiet (fail)
          go_wp2
          go_ret
          exact ⟨by rw [HE.out]; rfl, below_drewM HW.out _⟩
      · have i1 : ¬ (j : Int) < (l.length : Int) := by omega
        have HE : Hid (sameN l m = true) := sameN_true (eq_of_take Hlen.out hlt HN.out)
        go_wp2
        go_ret
        exact ⟨by rw [HE.out]; rfl, HW.out⟩
  · have HE : Hid (sameN l m = false) := sameN_false (fun e => hlen (by rw [e]))
    have z : ((l.length : Int) == (m.length : Int)) = false := by simp; omega
    clear hlen hR hS
    go_enter Tryz.func94, Tryz.ntmps94
    go_wp2
    go_ret
    exact ⟨by rw [HE.out]; rfl, Below.refl _ _⟩
end Go.Proofs.YtnblieohdngmiaaGreatDoor
