/- Are two heaps the same? Is a lent one whole?; A lent heap: what is read of it; WholeCells.; Lent and whole lists of numbers and of words (stage 15's).; A view that is lent: where its rows lie. -/
import Derived.Test.YtphpkedfcmghmaaDoorGE
import Derived.Test.YtphpkedfcmghmaaDoorHBRefHo
import Derived.Laws.StructEq
import Derived.OwnWalk
/- Are two heaps the same? Is a lent one whole? -/
namespace Go.Proofs.YtphpkedfcmghmaaDoor
open Go.RowKit

/-- A row of cells that is read, whatever stands in it. -/
def HX (w : World) (ra : Option Addr) (l : List Cl) : Prop := ∃ b o, (l.length = 0 ∨ ra = some ⟨b, o, none⟩) ∧ ∀ (j : Nat) (x : Cl), l[j]? = some x → b < w.heap.size ∧ (w.cell? ⟨b, o + j * 4, none⟩ = some (.int .u8 x.k) ∧ w.cell? ⟨b, o + j * 4 + 1, none⟩ = some (.int .u8 x.c) ∧ w.cell? ⟨b, o + j * 4 + 1 + 1, none⟩ = some (.int .u64 x.a) ∧ w.cell? ⟨b, o + j * 4 + 1 + 1 + 1, none⟩ = some (.int .u64 x.b))
theorem HX.at {w : World} {ra : Option Addr} {l : List Cl} (h : HX w ra l) : ∃ b o, (l.length ≠ 0 → ra = some ⟨b, o, none⟩) ∧ ∀ (j : Nat) (x : Cl), l[j]? = some x → b < w.heap.size ∧ (w.cell? ⟨b, o + j * 4, none⟩ = some (.int .u8 x.k) ∧ w.cell? ⟨b, o + j * 4 + 1, none⟩ = some (.int .u8 x.c) ∧ w.cell? ⟨b, o + j * 4 + 1 + 1, none⟩ = some (.int .u64 x.a) ∧ w.cell? ⟨b, o + j * 4 + 1 + 1 + 1, none⟩ = some (.int .u64 x.b)) := by
  obtain ⟨b, o, h1, h2⟩ := h
  exact ⟨b, o, fun q => h1.resolve_left q, h2⟩
theorem HR.hx {w : World} {ra : Option Addr} {l : List Cl} (h : HR w ra l) : HX w ra l := by
  obtain ⟨b, o, h1, h2⟩ := h
  exact ⟨b, o, h1, fun j x hx => ⟨(h2 j x hx).1, (h2 j x hx).2.1⟩⟩
theorem HX.below {w w' : World} {ra : Option Addr} {l : List Cl} (h : HX w ra l) (hb : Below w.heap.size w w') : HX w' ra l := by
  obtain ⟨b, o, h1, h2⟩ := h
  refine ⟨b, o, h1, fun j x hx => ?_⟩
  obtain ⟨g, a0, a1, a2, a3⟩ := h2 j x hx
  have e := fun q => hb.cell (p := ⟨b, q, none⟩) g
  exact ⟨Nat.lt_of_lt_of_le g hb.size, (e _).trans a0, (e _).trans a1, (e _).trans a2, (e _).trans a3⟩
def sameCl (x y : Cl) : Bool := ((x.k == y.k && x.c == y.c) && x.a == y.a) && x.b == y.b
theorem sameCl_iff {x y : Cl} : sameCl x y = true ↔ x = y := by
  obtain ⟨a, b, c, d⟩ := x
  obtain ⟨a', b', c', d'⟩ := y
  unfold sameCl
  simp only [Bool.and_eq_true, beq_iff_eq, Cl.mk.injEq]
  constructor
  · rintro ⟨⟨⟨h1, h2⟩, h3⟩, h4⟩; exact ⟨h1, h2, h3, h4⟩
  · rintro ⟨h1, h2, h3, h4⟩; exact ⟨⟨⟨h1, h2⟩, h3⟩, h4⟩
instance : DecidableEq Cl := fun x y => if h : sameCl x y = true then isTrue (sameCl_iff.1 h) else isFalse (fun e => h (sameCl_iff.2 e))
theorem neqCl_any (x y : Cl) (w : World) : (binOp .neq 59 (.agg #[.int .u8 x.k, .int .u8 x.c, .int .u64 x.a, .int .u64 x.b]) (.agg #[.int .u8 y.k, .int .u8 y.c, .int .u64 y.a, .int .u64 y.b])).run Tryd.prog w = .ok (.bool (!sameCl x y)) w := by
  have u1 := Tryd.underlying54
  have u2 := Tryd.underlying55
  have u3 := Tryd.underlying57
  have hS : Tryd.prog.underlying 59 = some (.struct (Tryd.prog.fieldsOf 59)) := by kernel_rfl
  have hp : Tryd.prog.stoodInHeld 59 = false := by kernel_rfl
  rw [run_neq_struct, show (10000 : Nat) = 9999 + 1 from rfl, run_equalIn_agg w 9999 59 _ _ hS hp]
  simp only [Program.fieldsOf, Tryd.underlying59]
  unfold sameCl
  cases h1 : (x.k == y.k) <;> cases h2 : (x.c == y.c) <;> cases h3 : (x.a == y.a) <;> cases h4 : (x.b == y.b)
  all_goals go_simp
theorem neqCl_same (x : Cl) (w : World) : (binOp .neq 59 (.agg #[.int .u8 x.k, .int .u8 x.c, .int .u64 x.a, .int .u64 x.b]) (.agg #[.int .u8 x.k, .int .u8 x.c, .int .u64 x.a, .int .u64 x.b])).run Tryd.prog w = .ok (.bool false) w := by
  rw [neqCl_any, sameCl_iff.2 rfl]; rfl
theorem neqCl_ne (x y : Cl) (h : x ≠ y) (w : World) : (binOp .neq 59 (.agg #[.int .u8 x.k, .int .u8 x.c, .int .u64 x.a, .int .u64 x.b]) (.agg #[.int .u8 y.k, .int .u8 y.c, .int .u64 y.a, .int .u64 y.b])).run Tryd.prog w = .ok (.bool true) w := by
  rw [neqCl_any, Bool.eq_false_iff.2 (fun e => h (sameCl_iff.1 e))]; rfl
set_option maxRecDepth 100000 in
set_option maxHeartbeats 4000000 in
theorem sameK_any (l m : List Cl) (ra rb : Option Addr) (ca cb : Nat) (w : World) (hl : l.length ≤ maxLen) (_ : m.length ≤ maxLen) (hR : HX w ra l) (hS : HX w rb m) :
    Calls Tryd.prog 74 #[.slice ra l.length ca, .slice rb m.length cb] w fun e w' => e = .returned (.bool (decide (l = m))) ∧ Below w.heap.size w w' := by
  unfold maxLen at hl
  by_cases hlen : l.length = m.length
  · obtain ⟨b, o, h1, h2⟩ := HX.at hR
    obtain ⟨b', o', h1', h2'⟩ := HX.at hS
    rw [← hlen] at h1' ⊢
    have H1 : Hid _ := h1
    have H2 : Hid _ := h2
    have H1' : Hid _ := h1'
    have H2' : Hid _ := h2'
    have Hlen : Hid (l.length = m.length) := hlen
    have z : ((l.length : Int) == (l.length : Int)) = true := by simp
    clear h1 h2 h1' h2' hR hS hlen
    go_enter Tryd.func74, Tryd.ntmps74
    go_wp2
    go_loopw [5] (fun i wr => ∃ j : Nat, i = .int .i64 j ∧ j ≤ l.length ∧ Hid (l.take j = m.take j) ∧ Hid (Below w.heap.size w wr)) (fun i _ => l.length - (intOf i).toNat)
    case atStart => exact ⟨0, rfl, Nat.zero_le _, by show _ = _; simp, Below.refl _ _⟩
    case round =>
      obtain ⟨j, rfl, hj, HN, HW⟩ := hrel
      by_cases hlt : j < l.length
      · have i1 : (j : Int) < (l.length : Int) := by omega
        have hra := H1.out (by omega)
        subst hra
        have hrb := H1'.out (by omega)
        subst hrb
        obtain ⟨x, hx⟩ : ∃ x, l[j]? = some x := ⟨_, List.getElem?_eq_getElem hlt⟩
        obtain ⟨y, hy⟩ : ∃ y, m[j]? = some y := ⟨_, List.getElem?_eq_getElem (by rw [← Hlen.out]; exact hlt)⟩
        obtain ⟨hb, c0, c1, c2, c3⟩ := H2.out j x hx
        obtain ⟨hb', d0, d1, d2, d3⟩ := H2'.out j y hy
        have e := fun q => HW.out.cell (p := ⟨b, q, none⟩) hb
        have e' := fun q => HW.out.cell (p := ⟨b', q, none⟩) hb'
        have f10 := (e _).trans c0
        have f11 := (e _).trans c1
        have f12 := (e _).trans c2
        have f13 := (e _).trans c3
        have f20 := (e' _).trans d0
        have f21 := (e' _).trans d1
        have f22 := (e' _).trans d2
        have f23 := (e' _).trans d3
        clear e e' c0 c1 c2 c3 d0 d1 d2 d3
        have f3 : b < wr.heap.size := Nat.lt_of_lt_of_le hb HW.out.size
        have f4 : b' < wr.heap.size := Nat.lt_of_lt_of_le hb' HW.out.size
        have HX : Hid (l[j]? = some x) := hx
        have HY : Hid (m[j]? = some y) := hy
        clear hx hy hb hb'
        by_cases he : x = y
        · subst he
          have hq := fun wx => neqCl_same x wx
          go_wp2_with fail
          go_quiet (fail)
          go_wp2
          go_roundw
          case rel =>
            refine ⟨j + 1, by go_num, by omega, ?_, below_drewM HW.out _⟩
            show _ = _
            rw [List.take_add_one, List.take_add_one, HN.out, HX.out, HY.out]
          case measure => simp [intOf]; omega
        · have HE : Hid (decide (l = m) = false) := decide_eq_false (eq_drop Hlen.out HX.out HY.out he)
          have hq := fun wx => neqCl_ne x y he wx
          clear he
          go_wp2_with fail
          go_quiet (fail)
          go_wp2
          go_ret
          exact ⟨by rw [HE.out]; rfl, below_drewM HW.out _⟩
      · have i1 : ¬ (j : Int) < (l.length : Int) := by omega
        have HE : Hid (decide (l = m) = true) := decide_eq_true (eq_of_take Hlen.out hlt HN.out)
        go_wp2
        go_ret
        exact ⟨by rw [HE.out]; rfl, HW.out⟩
  · have HE : Hid (decide (l = m) = false) := decide_eq_false (fun e => hlen (by rw [e]))
    have z : ((l.length : Int) == (m.length : Int)) = false := by simp; omega
    clear hlen hR hS
    go_enter Tryd.func74, Tryd.ntmps74
    go_wp2
    go_ret
    exact ⟨by rw [HE.out]; rfl, Below.refl _ _⟩
end Go.Proofs.YtphpkedfcmghmaaDoor

/- A lent heap: what is read of it; WholeCells. -/
namespace Go.Proofs.YtphpkedfcmghmaaDoor
open Go.RowKit

abbrev LentW (W : World) (B g : Nat) (H : List Cl) : Prop := W.ownsRow B 59 4 (.slice (some ⟨g, 0, none⟩) (H.length + 2) (H.length + 2)) (H.length + 2) (cl4 H ++ mkC)
theorem lent_at {W : World} {B g : Nat} {H : List Cl} (h : LentW W B g H) : ∃ cs, W.heap[g]? = some (.cells cs 59 (0, 0)) ∧ B ≤ g ∧ ∀ (k : Nat) (u : Value), (cl4 H ++ mkC)[k]? = some u → cs[k]? = some u := by
  obtain ⟨cs, h1, _, _, _, h5, _, h7⟩ := own_out h
  exact ⟨cs, h1, h5, h7⟩
theorem hr_lent {W : World} {B g : Nat} {H : List Cl} (h : LentW W B g H) (hk : ∀ x ∈ H, OkK x) : HR W (some ⟨g, 0, none⟩) H := by
  obtain ⟨cs, h1, _, h3⟩ := lent_at h
  refine ⟨g, 0, .inr rfl, fun j x hx => ⟨heap_lt h1, ?_, hk x (List.mem_of_getElem? hx)⟩⟩
  obtain ⟨q0, q1, q2, q3⟩ := cl4_at H j x hx
  have e : ∀ (k : Nat) (u : Value), (cl4 H)[k]? = some u → cs[k]? = some u := fun k u hu => h3 k u (by rw [List.getElem?_append_left (List.getElem?_eq_some_iff.1 hu).1]; exact hu)
  simp only [Nat.zero_add]
  exact ⟨heap_cell h1 (e _ _ q0), heap_cell h1 (e _ _ q1), heap_cell h1 (e _ _ q2), heap_cell h1 (e _ _ q3)⟩
theorem mark_at {W : World} {B g : Nat} {H : List Cl} (h : LentW W B g H) (j : Nat) (u : Value) (hu : mkC[j]? = some u) : W.cell? ⟨g, H.length * 4 + j, none⟩ = some u := by
  obtain ⟨cs, h1, _, h3⟩ := lent_at h
  refine heap_cell h1 (h3 _ _ ?_)
  rw [List.getElem?_append_right (by rw [cl4_len]; omega), cl4_len, Nat.add_sub_cancel_left]
  exact hu
theorem eqCl_same (a : Int) (w : World) : (binOp .eql 59 (.agg #[.int .u8 0, .int .u8 0, .int .u64 a, .int .u64 0]) (.agg #[.int .u8 0, .int .u8 0, .int .u64 a, .int .u64 0])).run Tryd.prog w = .ok (.bool true) w := by
  have u1 := Tryd.underlying54
  have u2 := Tryd.underlying55
  have u3 := Tryd.underlying57
  have hS : Tryd.prog.underlying 59 = some (.struct (Tryd.prog.fieldsOf 59)) := by kernel_rfl
  have hp : Tryd.prog.stoodInHeld 59 = false := by kernel_rfl
  rw [run_eql_struct, show (10000 : Nat) = 9999 + 1 from rfl, run_equalIn_agg w 9999 59 _ _ hS hp]
  simp only [Program.fieldsOf, Tryd.underlying59]
  have e : (a == a) = true := by simp
  go_simp
set_option maxRecDepth 100000 in
set_option maxHeartbeats 8000000 in
theorem wholeK_any (H : List Cl) (g B : Nat) (rb : Option Addr) (cb : Nat) (w : World) (hl : H.length ≤ 1000000) (h : LentW w B g H) (hk : ∀ x ∈ H, OkK x) (hR : HX w rb H) :
    Calls Tryd.prog 31 #[.slice (some ⟨g, 0, none⟩) H.length (H.length + 2), .slice rb H.length cb] w fun e w' => e = .returned (.bool true) ∧ Below w.heap.size w w' := by
  have HS : Hid _ := sameK_any H H (some ⟨g, 0, none⟩) rb (H.length + 2) cb w (by unfold maxLen; omega) (by unfold maxLen; omega) (hr_lent h hk).hx hR
  rw [decide_eq_true rfl] at HS
  have m0 := mark_at h 0 _ rfl
  have m1 := mark_at h 1 _ rfl
  have m2 := mark_at h 2 _ rfl
  have m3 := mark_at h 3 _ rfl
  have m4 := mark_at h 4 _ rfl
  have m5 := mark_at h 5 _ rfl
  have m6 := mark_at h 6 _ rfl
  have m7 := mark_at h 7 _ rfl
  rw [Nat.add_zero] at m0
  rw [show H.length * 4 + 2 = H.length * 4 + 1 + 1 by omega] at m2
  rw [show H.length * 4 + 3 = H.length * 4 + 1 + 1 + 1 by omega] at m3
  rw [show H.length * 4 + 4 = (H.length + 1) * 4 by omega] at m4
  rw [show H.length * 4 + 5 = (H.length + 1) * 4 + 1 by omega] at m5
  rw [show H.length * 4 + 6 = (H.length + 1) * 4 + 1 + 1 by omega] at m6
  rw [show H.length * 4 + 7 = (H.length + 1) * 4 + 1 + 1 + 1 by omega] at m7
  obtain ⟨cs, h1, _, _⟩ := lent_at h
  have lg := heap_lt h1
  have q1 := eqCl_same 77777771 w
  have q2 := eqCl_same 77777772 w
  clear h hk hR h1
  go_enter Tryd.func31, Tryd.ntmps31
  go_wp2_with fail
  refine Calls.mono HS.out ?_
  rintro e w1 ⟨rfl, hb⟩
  have HB : Hid (Below w.heap.size w w1) := hb
  clear hb HS
  go_wp2
  go_ret
  exact ⟨rfl, HB.out⟩
end Go.Proofs.YtphpkedfcmghmaaDoor

/- Lent and whole lists of numbers and of words (stage 15's). -/
namespace Go.Proofs.YtphpkedfcmghmaaDoor
open Go.RowKit

set_option maxRecDepth 100000 in
set_option maxHeartbeats 4000000 in
theorem sameW_any (l m : List Int) (ra rb : Option Addr) (ca cb : Nat) (w : World) (hl : l.length ≤ maxLen) (_ : m.length ≤ maxLen) (hR : RX (Value.int .u64) w ra l) (hS : RX (Value.int .u64) w rb m) :
    Calls Tryd.prog 75 #[.slice ra l.length ca, .slice rb m.length cb] w fun e w' => e = .returned (.bool (decide (l = m))) ∧ Below w.heap.size w w' := by
  unfold maxLen at hl
  by_cases hlen : l.length = m.length
  · obtain ⟨b, o, h1, h2⟩ := RX.at hR
    obtain ⟨b', o', h1', h2'⟩ := RX.at hS
    rw [← hlen] at h1' ⊢
    have H1 : Hid _ := h1
    have H2 : Hid _ := h2
    have H1' : Hid _ := h1'
    have H2' : Hid _ := h2'
    have Hlen : Hid (l.length = m.length) := hlen
    have z : ((l.length : Int) == (l.length : Int)) = true := by simp
    clear h1 h2 h1' h2' hR hS hlen
    go_enter Tryd.func75, Tryd.ntmps75
    go_wp2
    go_loopw [5] (fun i wr => ∃ j : Nat, i = .int .i64 j ∧ j ≤ l.length ∧ Hid (l.take j = m.take j) ∧ Hid (Below w.heap.size w wr)) (fun i _ => l.length - (intOf i).toNat)
    case atStart => exact ⟨0, rfl, Nat.zero_le _, by show _ = _; simp, Below.refl _ _⟩
    case round =>
      obtain ⟨j, rfl, hj, HN, HW⟩ := hrel
      by_cases hlt : j < l.length
      · have i1 : (j : Int) < (l.length : Int) := by omega
        have hra := H1.out (by omega)
        subst hra
        have hrb := H1'.out (by omega)
        subst hrb
        obtain ⟨x, hx⟩ : ∃ x, l[j]? = some x := ⟨_, List.getElem?_eq_getElem hlt⟩
        obtain ⟨y, hy⟩ : ∃ y, m[j]? = some y := ⟨_, List.getElem?_eq_getElem (by rw [← Hlen.out]; exact hlt)⟩
        obtain ⟨hb, hc⟩ := H2.out j x hx
        obtain ⟨hb', hc'⟩ := H2'.out j y hy
        have f1 : wr.cell? ⟨b, o + j, none⟩ = some (.int .u64 x) := (HW.out.cell (p := ⟨b, o + j, none⟩) hb).trans hc
        have f2 : wr.cell? ⟨b', o' + j, none⟩ = some (.int .u64 y) := (HW.out.cell (p := ⟨b', o' + j, none⟩) hb').trans hc'
        have f3 : b < wr.heap.size := Nat.lt_of_lt_of_le hb HW.out.size
        have f4 : b' < wr.heap.size := Nat.lt_of_lt_of_le hb' HW.out.size
        have HX : Hid (l[j]? = some x) := hx
        have HY : Hid (m[j]? = some y) := hy
        clear hx hy hb hc hb' hc'
        by_cases he : x = y
        · subst he
          have z2 : (x == x) = true := by simp
          go_wp2_with fail
          go_quiet (fail)
          go_wp2
          go_roundw
          case rel =>
            refine ⟨j + 1, by go_num, by omega, ?_, below_drewM HW.out _⟩
            show _ = _
            rw [List.take_add_one, List.take_add_one, HN.out, HX.out, HY.out]
          case measure => simp [intOf]; omega
        · have HE : Hid (decide (l = m) = false) := decide_eq_false (eq_drop Hlen.out HX.out HY.out he)
          have z2 : (x == y) = false := by simpa using he
          clear he
          go_wp2_with fail
          go_quiet (fail)
          go_wp2
          go_ret
          exact ⟨by rw [HE.out]; rfl, below_drewM HW.out _⟩
      · have i1 : ¬ (j : Int) < (l.length : Int) := by omega
        have HE : Hid (decide (l = m) = true) := decide_eq_true (eq_of_take Hlen.out hlt HN.out)
        go_wp2
        go_ret
        exact ⟨by rw [HE.out]; rfl, HW.out⟩
  · have HE : Hid (decide (l = m) = false) := decide_eq_false (fun e => hlen (by rw [e]))
    have z : ((l.length : Int) == (m.length : Int)) = false := by simp; omega
    clear hlen hR hS
    go_enter Tryd.func75, Tryd.ntmps75
    go_wp2
    go_ret
    exact ⟨by rw [HE.out]; rfl, Below.refl _ _⟩
set_option maxRecDepth 100000 in
set_option maxHeartbeats 4000000 in
theorem lentI_any (l : List Int) (ra : Option Addr) (ca : Nat) (w : World) (hR : RX (Value.int .i64) w ra l) (hl : l.length ≤ 1000000) :
    Calls Tryd.prog 26 #[.slice ra l.length ca] w fun e w' => LentR 3 1 l.length (l.map (Value.int .i64) ++ [.int .i64 (-771), .int .i64 (-772)]) w.heap.size e w' ∧ Below w.heap.size w w' := by
  obtain ⟨i0, hi0, hz0, hz1, hz2⟩ := info_parts infoI
  obtain ⟨b, o, h1', h2⟩ := hR
  have h1 : l.length ≠ 0 → ra = some ⟨b, o, none⟩ := fun q => h1'.resolve_left q
  have HN : Hid (ra = none → l.length = 0) := fun h => by
    rcases Nat.eq_zero_or_pos l.length with h0 | h0
    · exact h0
    · rw [h1 (by omega)] at h; cases h
  have HC : Hid (∀ w5 : World, Below w.heap.size w w5 → ∀ ad, ra = some ad → ∀ j u, (l.map (Value.int .i64))[j]? = some u → w5.cell? (ad.add j) = some u) := fun w5 h5 ad had j u hu => by
    rw [List.getElem?_map] at hu
    cases hx : l[j]? with
    | none => rw [hx] at hu; cases hu
    | some x =>
      rw [hx] at hu
      cases hu
      obtain ⟨g1, g2⟩ := h2 j x hx
      have := h1 (by have := (List.getElem?_eq_some_iff.1 hx).1; omega)
      rw [this] at had
      cases had
      rw [ad_add]
      exact (h5.cell (p := ⟨b, o + j, none⟩) g1).trans g2
  have HU : Hid (∀ u ∈ l.map (Value.int .i64), u.oneCell' = true) := fun u hu => by
    obtain ⟨x, _, rfl⟩ := List.mem_map.1 hu
    rfl
  have HLn : Hid ((l.map (Value.int .i64)).length = l.length * 1) := by show _ = _; simp
  clear h1 h1' h2
  go_enter Tryd.func26, Tryd.ntmps26
  go_wp2_with (first | (at_make; refine wpList_make_own _ rfl _ _ 24 rfl w.heap.size 3 i0 (.int .i64 0) 1 Tryd.underlying24 hi0 hz0 hz1 .i64 .i64 _ (l.length + 2) rfl rfl (by first | rfl | omega) (by rw [hz2]; omega) (by unfold maxLen; omega) (Nat.le_refl _) ?_; intro w0 hown0 hgrow0; have HB0 : Hid (Below w.heap.size w w0) := (Below.refl _ w).grown hgrow0 (Nat.le_refl _) (fun k hk => by cases hk); have HO0 : Hid (w0.ownsRow w.heap.size 3 1 (.slice (some ⟨w.heap.size, 0, none⟩) 0 (l.length + 2)) 0 []) := hown0; clear hown0 hgrow0) | (at_builtin; refine stop_of ?_))
  unfold Hid
  refine wpList_append_room0 _ rfl _ _ 24 rfl w.heap.size 3 i0 1 Tryd.underlying24 hi0 hz1 w.heap.size 0 (l.length + 2) [] rfl HO0.out ra l.length ca (l.map (Value.int .i64)) rfl HLn.out HN.out (HC.out w0 HB0.out) HU.out (by omega) ?_
  intro w1 hown1 hgr1
  rw [Nat.zero_add, List.nil_append] at hown1
  have HB1 : Hid (Below w.heap.size w w1) := HB0.out.trans (grown_below hgr1 (Nat.le_refl _) HB0.out.size)
  have HO1 : Hid (w1.ownsRow w.heap.size 3 1 (.slice (some ⟨w.heap.size, 0, none⟩) l.length (l.length + 2)) l.length (l.map (Value.int .i64))) := hown1
  clear hown1 hgr1 HO0 HB0
  rw [Nat.zero_add]
  go_wp2_with (at_builtin; refine stop_of ?_)
  unfold Hid
  refine wpList_append_room0 _ rfl _ _ 24 rfl w.heap.size 3 i0 1 Tryd.underlying24 hi0 hz1 w.heap.size l.length (l.length + 2) (l.map (Value.int .i64)) rfl (HO1.out.alloc _) (some ⟨w1.heap.size, 0, none⟩) 2 2 [.int .i64 (-771), .int .i64 (-772)] rfl rfl (fun h => by cases h) (fun ad had j u hu => ?_) (fun u hu => ?_) (Nat.le_refl _) ?_
  · cases had
    rw [ad_add, Nat.zero_add]
    exact new_cell _ #[.int .i64 (-771), .int .i64 (-772)] _ j u hu
  · simp only [List.mem_cons, List.not_mem_nil, or_false] at hu
    rcases hu with rfl | rfl <;> rfl
  intro w2 hown2 hgr2
  have HB2 : Hid (Below w.heap.size w w2) := HB1.out.trans (((Below.refl _ w1).alloc HB1.out.size _).trans (grown_below hgr2 (Nat.le_refl _) (by rw [World.size_alloc]; have := HB1.out.size; omega)))
  have HO2 : Hid (w2.ownsRow w.heap.size 3 1 (.slice (some ⟨w.heap.size, 0, none⟩) (l.length + 2) (l.length + 2)) (l.length + 2) (l.map (Value.int .i64) ++ [.int .i64 (-771), .int .i64 (-772)])) := hown2
  clear hown2 hgr2 HO1 HB1
  go_wp2
  go_ret
  exact ⟨⟨w.heap.size, rfl, HO2.out⟩, HB2.out⟩
/-- A lent list. -/
abbrev LenI (w : World) (B g : Nat) (l : List Int) : Prop := w.ownsRow B 3 1 (.slice (some ⟨g, 0, none⟩) (l.length + 2) (l.length + 2)) (l.length + 2) (l.map (Value.int .i64) ++ [.int .i64 (-771), .int .i64 (-772)])
theorem lenI_at {w : World} {B g : Nat} {l : List Int} (h : LenI w B g l) : (∀ (j : Nat) (x : Int), l[j]? = some x → w.cell? ⟨g, j, none⟩ = some (.int .i64 x)) ∧ w.cell? ⟨g, l.length, none⟩ = some (.int .i64 (-771)) ∧ w.cell? ⟨g, l.length + 1, none⟩ = some (.int .i64 (-772)) ∧ g < w.heap.size ∧ DR w 3 g (l.length + 2) (fun _ _ => True) := by
  obtain ⟨cs, h1, h2, _, _, _, _, h7⟩ := own_out h
  refine ⟨fun j x hx => heap_cell h1 (h7 j _ ?_), heap_cell h1 (h7 _ _ ?_), heap_cell h1 (h7 _ _ ?_), heap_lt h1, cs, h1, by omega, fun _ _ _ => trivial⟩
  · rw [List.getElem?_append_left (by rw [List.length_map]; exact (List.getElem?_eq_some_iff.1 hx).1), List.getElem?_map, hx]; rfl
  · rw [List.getElem?_append_right (by simp)]; simp
  · rw [List.getElem?_append_right (by simp)]; simp
theorem lenI_rx {w : World} {B g : Nat} {l : List Int} (h : LenI w B g l) : RX (Value.int .i64) w (some ⟨g, 0, none⟩) l := ⟨g, 0, .inr rfl, fun j x hx => ⟨(lenI_at h).2.2.2.1, by rw [Nat.zero_add]; exact (lenI_at h).1 j x hx⟩⟩
set_option maxRecDepth 100000 in
set_option maxHeartbeats 8000000 in
theorem wholeI_any (l : List Int) (g B : Nat) (rb : Option Addr) (cb : Nat) (w : World) (hl : l.length ≤ 1000000) (h : LenI w B g l) (hR : RX (Value.int .i64) w rb l) :
    Calls Tryd.prog 32 #[.slice (some ⟨g, 0, none⟩) l.length (l.length + 2), .slice rb l.length cb] w fun e w' => e = .returned (.bool true) ∧ Below w.heap.size w w' := by
  have HS : Hid _ := sameI_any l l (some ⟨g, 0, none⟩) rb (l.length + 2) cb w (by unfold maxLen; omega) (by unfold maxLen; omega) (lenI_rx h) hR
  rw [decide_eq_true rfl] at HS
  obtain ⟨_, m0, m1, lg, _⟩ := lenI_at h
  clear h hR
  go_enter Tryd.func32, Tryd.ntmps32
  go_wp2_with fail
  refine Calls.mono HS.out ?_
  rintro e w1 ⟨rfl, hb⟩
  have HB : Hid (Below w.heap.size w w1) := hb
  clear hb HS
  go_wp2
  go_ret
  exact ⟨rfl, HB.out⟩
set_option maxRecDepth 100000 in
set_option maxHeartbeats 4000000 in
theorem lentV_any (l : List Int) (ra : Option Addr) (ca : Nat) (w : World) (hR : RX (Value.int .u64) w ra l) (hl : l.length ≤ 1000000) :
    Calls Tryd.prog 27 #[.slice ra l.length ca] w fun e w' => LentR 57 1 l.length (l.map (Value.int .u64) ++ [.int .u64 77777771, .int .u64 77777772]) w.heap.size e w' ∧ Below w.heap.size w w' := by
  obtain ⟨i0, hi0, hz0, hz1, hz2⟩ := info_parts infoWd
  obtain ⟨b, o, h1', h2⟩ := hR
  have h1 : l.length ≠ 0 → ra = some ⟨b, o, none⟩ := fun q => h1'.resolve_left q
  have HN : Hid (ra = none → l.length = 0) := fun h => by
    rcases Nat.eq_zero_or_pos l.length with h0 | h0
    · exact h0
    · rw [h1 (by omega)] at h; cases h
  have HC : Hid (∀ w5 : World, Below w.heap.size w w5 → ∀ ad, ra = some ad → ∀ j u, (l.map (Value.int .u64))[j]? = some u → w5.cell? (ad.add j) = some u) := fun w5 h5 ad had j u hu => by
    rw [List.getElem?_map] at hu
    cases hx : l[j]? with
    | none => rw [hx] at hu; cases hu
    | some x =>
      rw [hx] at hu
      cases hu
      obtain ⟨g1, g2⟩ := h2 j x hx
      have := h1 (by have := (List.getElem?_eq_some_iff.1 hx).1; omega)
      rw [this] at had
      cases had
      rw [ad_add]
      exact (h5.cell (p := ⟨b, o + j, none⟩) g1).trans g2
  have HU : Hid (∀ u ∈ l.map (Value.int .u64), u.oneCell' = true) := fun u hu => by
    obtain ⟨x, _, rfl⟩ := List.mem_map.1 hu
    rfl
  have HLn : Hid ((l.map (Value.int .u64)).length = l.length * 1) := by show _ = _; simp
  clear h1 h1' h2
  go_enter Tryd.func27, Tryd.ntmps27
  go_wp2_with (first | (at_make; refine wpList_make_own _ rfl _ _ 25 rfl w.heap.size 57 i0 (.int .u64 0) 1 Tryd.underlying25 hi0 hz0 hz1 .i64 .i64 _ (l.length + 2) rfl rfl (by first | rfl | omega) (by rw [hz2]; omega) (by unfold maxLen; omega) (Nat.le_refl _) ?_; intro w0 hown0 hgrow0; have HB0 : Hid (Below w.heap.size w w0) := (Below.refl _ w).grown hgrow0 (Nat.le_refl _) (fun k hk => by cases hk); have HO0 : Hid (w0.ownsRow w.heap.size 57 1 (.slice (some ⟨w.heap.size, 0, none⟩) 0 (l.length + 2)) 0 []) := hown0; clear hown0 hgrow0) | (at_builtin; refine stop_of ?_))
  unfold Hid
  refine wpList_append_room0 _ rfl _ _ 25 rfl w.heap.size 57 i0 1 Tryd.underlying25 hi0 hz1 w.heap.size 0 (l.length + 2) [] rfl HO0.out ra l.length ca (l.map (Value.int .u64)) rfl HLn.out HN.out (HC.out w0 HB0.out) HU.out (by omega) ?_
  intro w1 hown1 hgr1
  rw [Nat.zero_add, List.nil_append] at hown1
  have HB1 : Hid (Below w.heap.size w w1) := HB0.out.trans (grown_below hgr1 (Nat.le_refl _) HB0.out.size)
  have HO1 : Hid (w1.ownsRow w.heap.size 57 1 (.slice (some ⟨w.heap.size, 0, none⟩) l.length (l.length + 2)) l.length (l.map (Value.int .u64))) := hown1
  clear hown1 hgr1 HO0 HB0
  rw [Nat.zero_add]
  go_wp2_with (at_builtin; refine stop_of ?_)
  unfold Hid
  refine wpList_append_room0 _ rfl _ _ 25 rfl w.heap.size 57 i0 1 Tryd.underlying25 hi0 hz1 w.heap.size l.length (l.length + 2) (l.map (Value.int .u64)) rfl (HO1.out.alloc _) (some ⟨w1.heap.size, 0, none⟩) 2 2 [.int .u64 77777771, .int .u64 77777772] rfl rfl (fun h => by cases h) (fun ad had j u hu => ?_) (fun u hu => ?_) (Nat.le_refl _) ?_
  · cases had
    rw [ad_add, Nat.zero_add]
    exact new_cell _ #[.int .u64 77777771, .int .u64 77777772] _ j u hu
  · simp only [List.mem_cons, List.not_mem_nil, or_false] at hu
    rcases hu with rfl | rfl <;> rfl
  intro w2 hown2 hgr2
  have HB2 : Hid (Below w.heap.size w w2) := HB1.out.trans (((Below.refl _ w1).alloc HB1.out.size _).trans (grown_below hgr2 (Nat.le_refl _) (by rw [World.size_alloc]; have := HB1.out.size; omega)))
  have HO2 : Hid (w2.ownsRow w.heap.size 57 1 (.slice (some ⟨w.heap.size, 0, none⟩) (l.length + 2) (l.length + 2)) (l.length + 2) (l.map (Value.int .u64) ++ [.int .u64 77777771, .int .u64 77777772])) := hown2
  clear hown2 hgr2 HO1 HB1
  go_wp2
  go_ret
  exact ⟨⟨w.heap.size, rfl, HO2.out⟩, HB2.out⟩
/-- A lent list. -/
abbrev LenV (w : World) (B g : Nat) (l : List Int) : Prop := w.ownsRow B 57 1 (.slice (some ⟨g, 0, none⟩) (l.length + 2) (l.length + 2)) (l.length + 2) (l.map (Value.int .u64) ++ [.int .u64 77777771, .int .u64 77777772])
theorem lenV_at {w : World} {B g : Nat} {l : List Int} (h : LenV w B g l) : (∀ (j : Nat) (x : Int), l[j]? = some x → w.cell? ⟨g, j, none⟩ = some (.int .u64 x)) ∧ w.cell? ⟨g, l.length, none⟩ = some (.int .u64 77777771) ∧ w.cell? ⟨g, l.length + 1, none⟩ = some (.int .u64 77777772) ∧ g < w.heap.size ∧ DR w 57 g (l.length + 2) (fun _ _ => True) := by
  obtain ⟨cs, h1, h2, _, _, _, _, h7⟩ := own_out h
  refine ⟨fun j x hx => heap_cell h1 (h7 j _ ?_), heap_cell h1 (h7 _ _ ?_), heap_cell h1 (h7 _ _ ?_), heap_lt h1, cs, h1, by omega, fun _ _ _ => trivial⟩
  · rw [List.getElem?_append_left (by rw [List.length_map]; exact (List.getElem?_eq_some_iff.1 hx).1), List.getElem?_map, hx]; rfl
  · rw [List.getElem?_append_right (by simp)]; simp
  · rw [List.getElem?_append_right (by simp)]; simp
theorem lenV_rx {w : World} {B g : Nat} {l : List Int} (h : LenV w B g l) : RX (Value.int .u64) w (some ⟨g, 0, none⟩) l := ⟨g, 0, .inr rfl, fun j x hx => ⟨(lenV_at h).2.2.2.1, by rw [Nat.zero_add]; exact (lenV_at h).1 j x hx⟩⟩
set_option maxRecDepth 100000 in
set_option maxHeartbeats 8000000 in
theorem wholeV_any (l : List Int) (g B : Nat) (rb : Option Addr) (cb : Nat) (w : World) (hl : l.length ≤ 1000000) (h : LenV w B g l) (hR : RX (Value.int .u64) w rb l) :
    Calls Tryd.prog 33 #[.slice (some ⟨g, 0, none⟩) l.length (l.length + 2), .slice rb l.length cb] w fun e w' => e = .returned (.bool true) ∧ Below w.heap.size w w' := by
  have HS : Hid _ := sameW_any l l (some ⟨g, 0, none⟩) rb (l.length + 2) cb w (by unfold maxLen; omega) (by unfold maxLen; omega) (lenV_rx h) hR
  rw [decide_eq_true rfl] at HS
  obtain ⟨_, m0, m1, lg, _⟩ := lenV_at h
  clear h hR
  go_enter Tryd.func33, Tryd.ntmps33
  go_wp2_with fail
  refine Calls.mono HS.out ?_
  rintro e w1 ⟨rfl, hb⟩
  have HB : Hid (Below w.heap.size w w1) := hb
  clear hb HS
  go_wp2
  go_ret
  exact ⟨rfl, HB.out⟩
end Go.Proofs.YtphpkedfcmghmaaDoor

/- A view that is lent: where its rows lie. -/
namespace Go.Proofs.YtphpkedfcmghmaaDoor
open Go.RowKit

theorem own_low {w : World} {base base' e size n : Nat} {v : Value} {xs : List Value} (h : w.ownsRow base e size v n xs) (hb : base' ≤ base) : w.ownsRow base' e size v n xs := by
  refine ⟨h.1, ?_⟩
  rcases h.2 with h' | ⟨g, cap, cur, a, b, c⟩
  · exact .inl h'
  · exact .inr ⟨g, cap, cur, a, Nat.le_trans hb b, c⟩
/-- Two views side by side, and the rows of the second. -/
structure LT (w0 W : World) (p : Vp) (v : Vw) (px : Vp) (vx : Vw) (vc : Value) (nc : Nat) (xc : List Value) (vy : Value) (ny : Nat) (xy : List Value) (vg : Value) (ng : Nat) (xg : List Value) (vl : Value) (L : List Lq) : Prop where
  b1 : VB W w0.heap.size p v
  b2 : ∃ cs, W.heap[w0.heap.size + 1]? = some (.cells cs 28 (0, 0)) ∧ cs.size = 7
  b3 : VB W (w0.heap.size + 2) px vx
  c : W.ownsRow w0.heap.size 59 4 vc nc xc
  y : W.ownsRow w0.heap.size 3 1 vy ny xy
  g : W.ownsRow w0.heap.size 57 1 vg ng xg
  l : W.ownsRow w0.heap.size 61 3 vl L.length (lq3 L)
  q : ∀ q ∈ L, ∃ g, q.ra = some ⟨g, 0, none⟩ ∧ q.cc = q.x.roots.length + 2 ∧ LenV W w0.heap.size g q.x.roots
  bel : Below w0.heap.size w0 W
variable {w0 W W' : World} {p px px' : Vp} {v vx vx' : Vw} {vc vy vg vl vl' : Value} {nc ny ng : Nat} {xc xy xg : List Value} {L L' : List Lq}
theorem LT.lt (T : LT w0 W p v px vx vc nc xc vy ny xy vg ng xg vl L) : w0.heap.size + 2 < W.heap.size := heap_lt T.b3
theorem LT.keep (T : LT w0 W p v px vx vc nc xc vy ny xy vg ng xg vl L) (hb : Below w0.heap.size w0 W') (hk : ∀ (k : Nat) (cs : Array Value) (t : TypeId), W.heap[k]? = some (.cells cs t (0, 0)) → W'.heap[k]? = W.heap[k]?) : LT w0 W' p v px vx vc nc xc vy ny xy vg ng xg vl L := by
  have own : ∀ {e size n : Nat} {x : Value} {xs : List Value}, W.ownsRow w0.heap.size e size x n xs → W'.ownsRow w0.heap.size e size x n xs := fun h => own_same h (fun k hk' => by obtain ⟨cs, hc⟩ := own_blk h hk'; exact hk k cs _ hc)
  obtain ⟨cs, q1, q2⟩ := T.b2
  refine ⟨(hk _ _ _ T.b1).trans T.b1, ⟨cs, (hk _ _ _ q1).trans q1, q2⟩, (hk _ _ _ T.b3).trans T.b3, own T.c, own T.y, own T.g, own T.l, fun q hq => ?_, hb⟩
  obtain ⟨g, h1, h2, h3⟩ := T.q q hq
  exact ⟨g, h1, h2, own h3⟩
theorem LT.below (T : LT w0 W p v px vx vc nc xc vy ny xy vg ng xg vl L) (hb : Below W.heap.size W W') : LT w0 W' p v px vx vc nc xc vy ny xy vg ng xg vl L :=
  T.keep (T.bel.trans (hb.mono T.bel.size)) (fun k _ _ h => hb.block k (heap_lt h))
theorem LT.field (T : LT w0 W p v px vx vc nc xc vy ny xy vg ng xg vl L) (j : Nat) (u : Value) (he : (px.cells vx).setIfInBounds j u = px'.cells vx') : LT w0 (W.setCell ⟨w0.heap.size + 2, j, none⟩ u) p v px' vx' vc nc xc vy ny xy vg ng xg vl L := by
  have hk : ∀ k, k ≠ w0.heap.size + 2 → (W.setCell ⟨w0.heap.size + 2, j, none⟩ u).heap[k]? = W.heap[k]? := fun k hk => Below.heap_setCell _ _ _ _ hk
  have own : ∀ {e size n : Nat} {x : Value} {xs : List Value}, W.ownsRow w0.heap.size e size x n xs → 28 ≠ e → (W.setCell ⟨w0.heap.size + 2, j, none⟩ u).ownsRow w0.heap.size e size x n xs := fun h hn => own_same h (fun k hk' => hk k (fun e => own_ty h T.b3 hn (by rw [← e]; exact hk')))
  obtain ⟨cs, q1, q2⟩ := T.b2
  refine ⟨(hk _ (by omega)).trans T.b1, ⟨cs, (hk _ (by omega)).trans q1, q2⟩, ?_, own T.c (by decide), own T.y (by decide), own T.g (by decide), own T.l (by decide), fun q hq => ?_, T.bel.setCell (p := ⟨w0.heap.size + 2, j, none⟩) (Nat.le_add_right _ _) _⟩
  · have := set_atC (j := j) T.b3 u
    rw [he] at this
    exact this
  · obtain ⟨g, h1, h2, h3⟩ := T.q q hq
    exact ⟨g, h1, h2, own h3 (by decide)⟩
theorem LT.growL (T : LT w0 W p v px vx vc nc xc vy ny xy vg ng xg vl L) (hg : W.grownBy W' vl.ownBlock) (ho : W'.ownsRow w0.heap.size 61 3 vl' L'.length (lq3 L')) (hq : ∀ q ∈ L', ∃ g, q.ra = some ⟨g, 0, none⟩ ∧ q.cc = q.x.roots.length + 2 ∧ LenV W w0.heap.size g q.x.roots) : LT w0 W' p v px vx vc nc xc vy ny xy vg ng xg vl' L' := by
  have hk : ∀ k, k < W.heap.size → vl.ownBlock ≠ some k → W'.heap[k]? = W.heap[k]? := fun k hk hn => hg.block k hk (fun e => hn e.symm)
  have own : ∀ {e size n : Nat} {x : Value} {xs : List Value}, W.ownsRow w0.heap.size e size x n xs → e ≠ 61 → W'.ownsRow w0.heap.size e size x n xs := fun h hn => own_same h (fun k hk' => by
    obtain ⟨cs, hc⟩ := own_blk h hk'
    exact hk k (heap_lt hc) (own_ty T.l hc hn))
  obtain ⟨cs, q1, q2⟩ := T.b2
  refine ⟨(hk _ (heap_lt T.b1) (own_ty T.l T.b1 (by decide))).trans T.b1, ⟨cs, (hk _ (heap_lt q1) (own_ty T.l q1 (by decide))).trans q1, q2⟩, (hk _ (heap_lt T.b3) (own_ty T.l T.b3 (by decide))).trans T.b3, own T.c (by decide), own T.y (by decide), own T.g (by decide), ho, fun q hq' => ?_, T.bel.trans (grown_low hg (fun g hg' => (T.l.lt g hg').1) T.bel.size)⟩
  obtain ⟨g, h1, h2, h3⟩ := hq q hq'
  exact ⟨g, h1, h2, own h3 (by decide)⟩
/-- A row is put in place of none. -/
theorem LT.rowC {w1 : World} {vc' : Value} {nc' : Nat} {xc' : List Value} (T : LT w0 W p v px vx vc nc xc vy ny xy vg ng xg vl L) (hb : Below W.heap.size W W') (hs : w0.heap.size ≤ w1.heap.size) (ho : W'.ownsRow w1.heap.size 59 4 vc' nc' xc') : LT w0 W' p v px vx vc' nc' xc' vy ny xy vg ng xg vl L := by
  have t := T.below hb
  exact ⟨t.b1, t.b2, t.b3, own_low ho hs, t.y, t.g, t.l, t.q, t.bel⟩
theorem LT.rowY {w1 : World} {vy' : Value} {ny' : Nat} {xy' : List Value} (T : LT w0 W p v px vx vc nc xc vy ny xy vg ng xg vl L) (hb : Below W.heap.size W W') (hs : w0.heap.size ≤ w1.heap.size) (ho : W'.ownsRow w1.heap.size 3 1 vy' ny' xy') : LT w0 W' p v px vx vc nc xc vy' ny' xy' vg ng xg vl L := by
  have t := T.below hb
  exact ⟨t.b1, t.b2, t.b3, t.c, own_low ho hs, t.g, t.l, t.q, t.bel⟩
theorem LT.rowG {w1 : World} {vg' : Value} {ng' : Nat} {xg' : List Value} (T : LT w0 W p v px vx vc nc xc vy ny xy vg ng xg vl L) (hb : Below W.heap.size W W') (hs : w0.heap.size ≤ w1.heap.size) (ho : W'.ownsRow w1.heap.size 57 1 vg' ng' xg') : LT w0 W' p v px vx vc nc xc vy ny xy vg' ng' xg' vl L := by
  have t := T.below hb
  exact ⟨t.b1, t.b2, t.b3, t.c, t.y, own_low ho hs, t.l, t.q, t.bel⟩
theorem results_vw {fn : Func} {tmps : Array Value} {s b : Nat} {c0 c1 c2 c3 c4 c5 c6 : Value} {W : World} (hres : fn.results = #[.cell s 28])
    (h1 : tmps[s]? = some (.pointer (some ⟨b, 0, none⟩))) (k1 : W.heap[b]? = some (.cells #[c0, c1, c2, c3, c4, c5, c6] 28 (0, 0))) : (results fn tmps).run Tryd.prog W = .ok (.agg #[c0, c1, c2, c3, c4, c5, c6]) W := by
  have a : ∀ j u, (#[c0, c1, c2, c3, c4, c5, c6] : Array Value)[j]? = some u → W.cell? ⟨b, j, none⟩ = some u := fun j u hu => heap_cell k1 hu
  have a0 := a 0 c0 rfl
  have a1 := a 1 c1 rfl
  have a2 := a 2 c2 rfl
  have a3 := a 3 c3 rfl
  have a4 := a 4 c4 rfl
  have a5 := a 5 c5 rfl
  have a6 := a 6 c6 rfl
  obtain ⟨l1, e1⟩ := Array.getElem?_eq_some_iff.1 h1
  simp [results, hres, go_sem, l1, e1, a0, a1, a2, a3, a4, a5, a6]
end Go.Proofs.YtphpkedfcmghmaaDoor
