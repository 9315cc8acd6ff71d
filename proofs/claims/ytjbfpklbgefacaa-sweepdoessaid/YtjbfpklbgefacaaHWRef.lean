/- The document's sweeper; a row of cells that is written into; are two rows the same? -/
import Derived.Test.YtjbfpklbgefacaaHWWhole0
namespace Go.Proofs.Ytjbfpklbgefacaa
open Go.RowKit

theorem below_drewM {n : Nat} {w0 w : World} (h : Below n w0 w) (k : Nat) : Below n w0 (w.drewN k) := by
  induction k generalizing w with
  | zero => exact h
  | succ k ih => exact (ih h).drew
theorem eq_drop {α : Type} {l m : List α} (_ : l.length = m.length) {j : Nat} {x y : α} (hx : l[j]? = some x) (hy : m[j]? = some y) (h : x ≠ y) : l ≠ m := fun e => by subst e; rw [hx] at hy; exact h (Option.some.inj hy)
theorem eq_of_take {α : Type} {l m : List α} (hlen : l.length = m.length) {j : Nat} (hj : ¬ j < l.length) (h : l.take j = m.take j) : l = m := by
  rwa [List.take_of_length_le (by omega), List.take_of_length_le (by omega)] at h
/-- A row of cells that is read, whatever stands in it. -/
def HX (w : World) (ra : Option Addr) (l : List Cl) : Prop := ∃ b o, (l.length = 0 ∨ ra = some ⟨b, o, none⟩) ∧ ∀ (j : Nat) (x : Cl), l[j]? = some x → b < w.heap.size ∧ (w.cell? ⟨b, o + j * 4, none⟩ = some (.int .u8 x.k) ∧ w.cell? ⟨b, o + j * 4 + 1, none⟩ = some (.int .u8 x.c) ∧ w.cell? ⟨b, o + j * 4 + 1 + 1, none⟩ = some (.int .u64 x.a) ∧ w.cell? ⟨b, o + j * 4 + 1 + 1 + 1, none⟩ = some (.int .u64 x.b))
theorem HX.at {w : World} {ra : Option Addr} {l : List Cl} (h : HX w ra l) : ∃ b o, (l.length ≠ 0 → ra = some ⟨b, o, none⟩) ∧ ∀ (j : Nat) (x : Cl), l[j]? = some x → b < w.heap.size ∧ (w.cell? ⟨b, o + j * 4, none⟩ = some (.int .u8 x.k) ∧ w.cell? ⟨b, o + j * 4 + 1, none⟩ = some (.int .u8 x.c) ∧ w.cell? ⟨b, o + j * 4 + 1 + 1, none⟩ = some (.int .u64 x.a) ∧ w.cell? ⟨b, o + j * 4 + 1 + 1 + 1, none⟩ = some (.int .u64 x.b)) := by
  obtain ⟨b, o, h1, h2⟩ := h
  exact ⟨b, o, fun q => h1.resolve_left q, h2⟩
theorem HR.hx {w : World} {ra : Option Addr} {l : List Cl} (h : HR w ra l) : HX w ra l := by
  obtain ⟨b, o, h1, h2⟩ := h
  exact ⟨b, o, h1, fun j x hx => ⟨(h2 j x hx).1, (h2 j x hx).2.1⟩⟩
theorem HX.below {w w' : World} {ra : Option Addr} {l : List Cl} (h : HX w ra l) (hb : Below w.heap.size w w') : HX w' ra l := by
  obtain ⟨b, o, h1, h2⟩ := h
  refine ⟨b, o, h1, fun j x hx => ?_⟩
  obtain ⟨g, a0, a1, a2, a3⟩ := h2 j x hx
  have e := fun q => hb.cell (p := ⟨b, q, none⟩) g
  exact ⟨Nat.lt_of_lt_of_le g hb.size, (e _).trans a0, (e _).trans a1, (e _).trans a2, (e _).trans a3⟩
set_option maxRecDepth 100000 in
set_option maxHeartbeats 4000000 in
theorem sameK_any (l m : List Cl) (ra rb : Option Addr) (ca cb : Nat) (w : World) (hl : l.length ≤ maxLen) (_ : m.length ≤ maxLen) (hR : HX w ra l) (hS : HX w rb m) :
    Calls Try.prog 17 #[.slice ra l.length ca, .slice rb m.length cb] w fun e w' => e = .returned (.bool (decide (l = m))) ∧ Below w.heap.size w w' := by
  unfold maxLen at hl
  by_cases hlen : l.length = m.length
  · obtain ⟨b, o, h1, h2⟩ := HX.at hR
    obtain ⟨b', o', h1', h2'⟩ := HX.at hS
    rw [← hlen] at h1' ⊢
    have H1 : Hid _ := h1
    have H2 : Hid _ := h2
    have H1' : Hid _ := h1'
    have H2' : Hid _ := h2'
    have Hlen : Hid (l.length = m.length) := hlen
    have z : ((l.length : Int) == (l.length : Int)) = true := by simp
    clear h1 h2 h1' h2' hR hS hlen
    go_enter Try.func17, Try.ntmps17
    go_wp2
    go_loopw [5] (fun i wr => ∃ j : Nat, i = .int .i64 j ∧ j ≤ l.length ∧ Hid (l.take j = m.take j) ∧ Hid (Below w.heap.size w wr)) (fun i _ => l.length - (intOf i).toNat)
    case atStart => exact ⟨0, rfl, Nat.zero_le _, by show _ = _; simp, Below.refl _ _⟩
    case round =>
      obtain ⟨j, rfl, hj, HN, HW⟩ := hrel
      by_cases hlt : j < l.length
      · have i1 : (j : Int) < (l.length : Int) := by omega
        have hra := H1.out (by omega)
        subst hra
        have hrb := H1'.out (by omega)
        subst hrb
        obtain ⟨x, hx⟩ : ∃ x, l[j]? = some x := ⟨_, List.getElem?_eq_getElem hlt⟩
        obtain ⟨y, hy⟩ : ∃ y, m[j]? = some y := ⟨_, List.getElem?_eq_getElem (by rw [← Hlen.out]; exact hlt)⟩
        obtain ⟨hb, c0, c1, c2, c3⟩ := H2.out j x hx
        obtain ⟨hb', d0, d1, d2, d3⟩ := H2'.out j y hy
        have e := fun q => HW.out.cell (p := ⟨b, q, none⟩) hb
        have e' := fun q => HW.out.cell (p := ⟨b', q, none⟩) hb'
        have f10 := (e _).trans c0
        have f11 := (e _).trans c1
        have f12 := (e _).trans c2
        have f13 := (e _).trans c3
        have f20 := (e' _).trans d0
        have f21 := (e' _).trans d1
        have f22 := (e' _).trans d2
        have f23 := (e' _).trans d3
        clear e e' c0 c1 c2 c3 d0 d1 d2 d3
        have f3 : b < wr.heap.size := Nat.lt_of_lt_of_le hb HW.out.size
        have f4 : b' < wr.heap.size := Nat.lt_of_lt_of_le hb' HW.out.size
        have HX : Hid (l[j]? = some x) := hx
        have HY : Hid (m[j]? = some y) := hy
        clear hx hy hb hb'
        by_cases he : x = y
        · subst he
          have hq := fun wx => neqCl_same x wx
          go_wp2_with fail
          go_quiet (fail)
          go_wp2
          go_roundw
          case rel =>
            refine ⟨j + 1, by go_num, by omega, ?_, below_drewM HW.out _⟩
            show _ = _
            rw [List.take_add_one, List.take_add_one, HN.out, HX.out, HY.out]
          case measure => simp [intOf]; omega
        · have HE : Hid (decide (l = m) = false) := decide_eq_false (eq_drop Hlen.out HX.out HY.out he)
          have hq := fun wx => neqCl_ne x y he wx
          clear he
          go_wp2_with fail
          go_quiet (fail)
          go_wp2
          go_ret
          exact ⟨by rw [HE.out]; rfl, below_drewM HW.out _⟩
      · have i1 : ¬ (j : Int) < (l.length : Int) := by omega
        have HE : Hid (decide (l = m) = true) := decide_eq_true (eq_of_take Hlen.out hlt HN.out)
        go_wp2
        go_ret
        exact ⟨by rw [HE.out]; rfl, HW.out⟩
  · have HE : Hid (decide (l = m) = false) := decide_eq_false (fun e => hlen (by rw [e]))
    have z : ((l.length : Int) == (m.length : Int)) = false := by simp; omega
    clear hlen hR hS
    go_enter Try.func17, Try.ntmps17
    go_wp2
    go_ret
    exact ⟨by rw [HE.out]; rfl, Below.refl _ _⟩
set_option maxRecDepth 100000 in
set_option maxHeartbeats 4000000 in
theorem done_q {sb hb ab : Nat} {a f : Int} {h : List Cl} (w : World) (H : SW w sb hb a f) (C : CH w hb ab h) : Calls Try.prog 20 #[.pointer (some ⟨sb, 0, none⟩)] w fun e w' => e = .returned (.bool (a == (h.length : Int))) ∧ ∃ m, w' = w.drewN m := by
  obtain ⟨c0, c1, c2, cf⟩ := H.cell
  have HA : Hid (∀ W, W.heap = w.heap → Calls Try.prog 18 #[.pointer (some ⟨sb, 1, none⟩)] W fun e w' => e = .returned (.int .i64 a) ∧ w' = W) := fun W hW => at_any W (H.kept (by rw [hW]))
  have HL : Hid (∀ W, W.heap = w.heap → Calls Try.prog 25 #[.pointer (some ⟨hb, 0, none⟩)] W fun e w' => e = .returned (.int .i64 h.length) ∧ w' = W) := fun W hW => len_any W (C.kept (by rw [hW]) (by rw [hW]) (fun q cs _ => by rw [hW]))
  clear H C
  go_enter Try.func20, Try.ntmps20
  go_wp2_with fail
  go_quiet (first | (go_at_call 18; exact Calls.quiet_of_same (HA.out _ rfl)) | (go_at_call 25; exact Calls.quiet_of_same (HL.out _ rfl)))
  go_wp2_with fail
  go_ret
  exact ⟨rfl, _, rfl⟩
/-- A field's value. -/
def fv (x : Cl) (r : Nat) : Value := match r with
  | 0 => .int .u8 x.k
  | 1 => .int .u8 x.c
  | 2 => .int .u64 x.a
  | _ => .int .u64 x.b
theorem cl_at {h : List Cl} {i r : Nat} {x : Cl} (hx : h[i]? = some x) (hr : r < 4) : (clCells h)[i * 4 + r]? = some (fv x r) := by
  obtain ⟨a0, a1, a2, a3⟩ := clCells_at h i x hx
  match r, hr with
  | 0, _ => exact a0
  | 1, _ => exact a1
  | 2, _ => exact a2
  | 3, _ => exact a3
theorem cl_get {h : List Cl} {k : Nat} {u : Value} (hk : (clCells h)[k]? = some u) : ∃ (i r : Nat) (x : Cl), h[i]? = some x ∧ r < 4 ∧ k = i * 4 + r ∧ u = fv x r := by
  obtain ⟨i, x, hx, ⟨a, b⟩ | ⟨a, b⟩ | ⟨a, b⟩ | ⟨a, b⟩⟩ := clCells_get h k u hk
  · exact ⟨i, 0, x, hx, by omega, by omega, b⟩
  · exact ⟨i, 1, x, hx, by omega, by omega, b⟩
  · exact ⟨i, 2, x, hx, by omega, by omega, b⟩
  · exact ⟨i, 3, x, hx, by omega, by omega, b⟩
/-- A field of a cell in a row is written. -/
theorem KR.setf {W : World} {g i r0 : Nat} {h : List Cl} {x y : Cl} (H : KR W g h h.length) (hx : h[i]? = some x) (hr0 : r0 < 4) (hy : ∀ r, r < 4 → r ≠ r0 → fv y r = fv x r) : KR (W.setCell ⟨g, i * 4 + r0, none⟩ (fv y r0)) g (h.set i y) (h.set i y).length := by
  have hi : i < h.length := (List.getElem?_eq_some_iff.1 hx).1
  unfold KR
  rw [List.length_set]
  refine DR.set H (fun k u hk hu hl => ?_) (fun _ => ?_)
  · have h1 := hu hl
    obtain ⟨i', r, z, hz, hr, e1, e2⟩ := cl_get h1
    by_cases e : i = i'
    · subst e
      rw [hx] at hz
      cases hz
      have hrr : r ≠ r0 := fun e' => hk (by rw [e1, e'])
      rw [e1, cl_at (List.getElem?_set_self hi) hr, e2, hy r hr hrr]
    · rw [e1, cl_at (x := z) (by rw [List.getElem?_set_ne e]; exact hz) hr, e2]
  · exact cl_at (List.getElem?_set_self hi) hr0
theorem KR.zero {W : World} {g i : Nat} {h : List Cl} {x : Cl} (H : KR W g h h.length) (hx : h[i]? = some x) : KR ((((W.setCell ⟨g, i * 4, none⟩ (.int .u8 0)).setCell ⟨g, i * 4 + 1, none⟩ (.int .u8 0)).setCell ⟨g, i * 4 + 1 + 1, none⟩ (.int .u64 0)).setCell ⟨g, i * 4 + 1 + 1 + 1, none⟩ (.int .u64 0)) g (h.set i c0) (h.set i c0).length := by
  have hi : i < h.length := (List.getElem?_eq_some_iff.1 hx).1
  have k1 := H.setf (y := ⟨0, x.c, x.a, x.b⟩) hx (r0 := 0) (by omega) (fun r hr hn => by match r, hr, hn with | 0, _, hn => exact absurd rfl hn | 1, _, _ => rfl | 2, _, _ => rfl | 3, _, _ => rfl)
  have k2 := k1.setf (y := ⟨0, 0, x.a, x.b⟩) (List.getElem?_set_self hi) (r0 := 1) (by omega) (fun r hr hn => by match r, hr, hn with | 1, _, hn => exact absurd rfl hn | 0, _, _ => rfl | 2, _, _ => rfl | 3, _, _ => rfl)
  have k3 := k2.setf (y := ⟨0, 0, 0, x.b⟩) (List.getElem?_set_self (by simpa using hi)) (r0 := 2) (by omega) (fun r hr hn => by match r, hr, hn with | 2, _, hn => exact absurd rfl hn | 0, _, _ => rfl | 1, _, _ => rfl | 3, _, _ => rfl)
  have k4 := k3.setf (y := c0) (List.getElem?_set_self (by simpa using hi)) (r0 := 3) (by omega) (fun r hr hn => by match r, hr, hn with | 3, _, hn => exact absurd rfl hn | 0, _, _ => rfl | 1, _, _ => rfl | 2, _, _ => rfl)
  rw [List.set_set, List.set_set, List.set_set] at k4
  exact k4
theorem KR.white {W : World} {g i : Nat} {h : List Cl} {x : Cl} (H : KR W g h h.length) (hx : h[i]? = some x) : KR (W.setCell ⟨g, i * 4 + 1, none⟩ (.int .u8 0)) g (h.set i ⟨x.k, 0, x.a, x.b⟩) (h.set i ⟨x.k, 0, x.a, x.b⟩).length :=
  H.setf (y := ⟨x.k, 0, x.a, x.b⟩) hx (r0 := 1) (by omega) (fun r hr hn => by match r, hr, hn with | 1, _, hn => exact absurd rfl hn | 0, _, _ => rfl | 2, _, _ => rfl | 3, _, _ => rfl)
/-- The document's sweeper. -/
def RW (w : World) (rb : Nat) (a f : Int) : Prop := w.heap[rb]? = some (.cells #[.int .i64 a, .int .i64 f] 55 (0, 0))
theorem RW.kept {w w' : World} {rb : Nat} {a f : Int} (h : RW w rb a f) (hk : w'.heap[rb]? = w.heap[rb]?) : RW w' rb a f := hk.trans h
theorem RW.lt {w : World} {rb : Nat} {a f : Int} (h : RW w rb a f) : rb < w.heap.size := heap_lt h
theorem RW.cell {w : World} {rb : Nat} {a f : Int} (h : RW w rb a f) : w.cell? ⟨rb, 0, none⟩ = some (.int .i64 a) ∧ w.cell? ⟨rb, 1, none⟩ = some (.int .i64 f) ∧ ∀ j, w.frozen? ⟨rb, j, none⟩ = false :=
  ⟨heap_cell h rfl, heap_cell h rfl, fun j => by simp [World.frozen?, show w.heap[rb]? = _ from h]⟩
theorem RW.set0 {w : World} {rb : Nat} {a f : Int} (h : RW w rb a f) (a' : Int) : RW (w.setCell ⟨rb, 0, none⟩ (.int .i64 a')) rb a' f := set_atC h _
theorem RW.set1 {w : World} {rb : Nat} {a f : Int} (h : RW w rb a f) (f' : Int) : RW (w.setCell ⟨rb, 1, none⟩ (.int .i64 f')) rb a f' := set_atC h _
set_option maxRecDepth 100000 in
set_option maxHeartbeats 4000000 in
theorem rnew_any (n : Int) (w : World) : Calls Try.prog 10 #[.int .i64 n] w fun e w' => ∃ rb, e = .returned (.pointer (some ⟨rb, 0, none⟩)) ∧ RW w' rb n 0 ∧ Below w.heap.size w w' ∧ w.heap.size ≤ rb := by
  go_enter Try.func10, Try.ntmps10
  go_wp2_with fail
  go_ret
  exact ⟨w.heap.size, rfl, heap_alloc_new w _, (Below.refl _ w).alloc (Nat.le_refl _) _, Nat.le_refl _⟩
set_option maxRecDepth 100000 in
set_option maxHeartbeats 4000000 in
theorem rbegin_any {rb : Nat} {a f : Int} (w : World) (H : RW w rb a f) : Calls Try.prog 12 #[.pointer (some ⟨rb, 0, none⟩)] w fun e w' => e = .returned (.tuple #[]) ∧ RW w' rb 0 0 ∧ Fr (fun g => g ≠ rb) w w' := by
  obtain ⟨c0, c1, cf⟩ := H.cell
  have HH : Hid (RW w rb a f) := H
  clear H
  go_enter Try.func12, Try.ntmps12
  go_wp2
  refine bodyPost_end (results_none rfl _ _ _) rfl ?_
  exact ⟨rfl, (HH.out.set0 0).set1 0, fr_set2 w rb 0 1 _ _⟩
theorem rs_zero {w : World} {rb g a : Nat} {h : List Cl} {x : Cl} {a0 f0 : Int} (R : RW w rb a0 f0) (K : KR w g h h.length) (hx : h[a]? = some x) (hne : g ≠ rb) (a1 f1 : Int) :
    RW ((((((w.setCell ⟨rb, 0, none⟩ (.int .i64 a1)).setCell ⟨g, a * 4, none⟩ (.int .u8 0)).setCell ⟨g, a * 4 + 1, none⟩ (.int .u8 0)).setCell ⟨g, a * 4 + 1 + 1, none⟩ (.int .u64 0)).setCell ⟨g, a * 4 + 1 + 1 + 1, none⟩ (.int .u64 0)).setCell ⟨rb, 1, none⟩ (.int .i64 f1)) rb a1 f1 ∧
    KR ((((((w.setCell ⟨rb, 0, none⟩ (.int .i64 a1)).setCell ⟨g, a * 4, none⟩ (.int .u8 0)).setCell ⟨g, a * 4 + 1, none⟩ (.int .u8 0)).setCell ⟨g, a * 4 + 1 + 1, none⟩ (.int .u64 0)).setCell ⟨g, a * 4 + 1 + 1 + 1, none⟩ (.int .u64 0)).setCell ⟨rb, 1, none⟩ (.int .i64 f1)) g (h.set a c0) h.length ∧
    Fr (fun k => k ≠ rb ∧ k ≠ g) w ((((((w.setCell ⟨rb, 0, none⟩ (.int .i64 a1)).setCell ⟨g, a * 4, none⟩ (.int .u8 0)).setCell ⟨g, a * 4 + 1, none⟩ (.int .u8 0)).setCell ⟨g, a * 4 + 1 + 1, none⟩ (.int .u64 0)).setCell ⟨g, a * 4 + 1 + 1 + 1, none⟩ (.int .u64 0)).setCell ⟨rb, 1, none⟩ (.int .i64 f1)) := by
  have hne' : rb ≠ g := fun e => hne e.symm
  have fz : ∀ (W : World) (v1 v2 v3 v4 : Value), Fr (fun k => k ≠ g) W ((((W.setCell ⟨g, a * 4, none⟩ v1).setCell ⟨g, a * 4 + 1, none⟩ v2).setCell ⟨g, a * 4 + 1 + 1, none⟩ v3).setCell ⟨g, a * 4 + 1 + 1 + 1, none⟩ v4) := fun W v1 v2 v3 v4 => (fr_set2 W g _ _ v1 v2).trans (fr_set2 _ g _ _ v3 v4)
  have R1 := R.set0 a1
  have K1 : KR (w.setCell ⟨rb, 0, none⟩ (.int .i64 a1)) g h h.length := K.kept (Below.heap_setCell _ _ _ _ hne)
  have K2 := K1.zero hx
  rw [List.length_set] at K2
  have R2 := R1.kept ((fz (w.setCell ⟨rb, 0, none⟩ (.int .i64 a1)) (.int .u8 0) (.int .u8 0) (.int .u64 0) (.int .u64 0)).2 rb hne' R1.lt)
  refine ⟨R2.set1 f1, K2.kept (Below.heap_setCell _ _ _ _ hne), ?_⟩
  exact (((fr_set1 w rb 0 _).sub (fun _ h => h.1)).trans ((fz _ _ _ _ _).sub (fun _ h => h.2))).trans ((fr_set1 _ rb 1 _).sub (fun _ h => h.1))
theorem rs_white {w : World} {rb g a : Nat} {h : List Cl} {x : Cl} {a0 f0 : Int} (R : RW w rb a0 f0) (K : KR w g h h.length) (hx : h[a]? = some x) (hne : g ≠ rb) (a1 : Int) :
    RW ((w.setCell ⟨rb, 0, none⟩ (.int .i64 a1)).setCell ⟨g, a * 4 + 1, none⟩ (.int .u8 0)) rb a1 f0 ∧
    KR ((w.setCell ⟨rb, 0, none⟩ (.int .i64 a1)).setCell ⟨g, a * 4 + 1, none⟩ (.int .u8 0)) g (h.set a ⟨x.k, 0, x.a, x.b⟩) h.length ∧
    Fr (fun k => k ≠ rb ∧ k ≠ g) w ((w.setCell ⟨rb, 0, none⟩ (.int .i64 a1)).setCell ⟨g, a * 4 + 1, none⟩ (.int .u8 0)) := by
  have hne' : rb ≠ g := fun e => hne e.symm
  have K1 : KR (w.setCell ⟨rb, 0, none⟩ (.int .i64 a1)) g h h.length := K.kept (Below.heap_setCell _ _ _ _ hne)
  have K2 := K1.white hx
  rw [List.length_set] at K2
  refine ⟨(R.set0 a1).kept (Below.heap_setCell _ _ _ _ hne'), K2, ?_⟩
  exact ((fr_set1 w rb 0 _).sub (fun _ h => h.1)).trans ((fr_set1 _ g _ _).sub (fun _ h => h.2))
/-- What the document's step leaves. -/
def RsR (rb g : Nat) (h : List Cl) (a f : Nat) (w : World) (e : Ending) (w' : World) : Prop :=
  e = .returned (.tuple #[.int .i64 (swN h a), .bool (swB h a), .int .i64 (swE h a)]) ∧ RW w' rb (swA h a) (f + (swB h a).toNat : Nat) ∧ KR w' g (swH h a) (swH h a).length ∧ Fr (fun k => k ≠ rb ∧ k ≠ g) w w'
/-- Cells that are used have one of the three colours. -/
def Wf (x : Cl) : Prop := x.k = 0 ∨ x.c ≤ 2
set_option maxRecDepth 100000 in
set_option maxHeartbeats 16000000 in
theorem rstep_any {rb g a f ca : Nat} {h : List Cl} (w : World) (R : RW w rb a f) (K : KR w g h h.length) (ha : a ≤ h.length) (hl : h.length ≤ 4096) (hf : f ≤ 100000) (hok : ∀ x ∈ h, OkK x ∧ Wf x) :
    Calls Try.prog 16 #[.pointer (some ⟨rb, 0, none⟩), .slice (some ⟨g, 0, none⟩) h.length ca] w fun e w' => RsR rb g h a f w e w' := by
  obtain ⟨c0', c1', cf⟩ := R.cell
  obtain ⟨cs, q, _⟩ := id K
  have hne : g ≠ rb := ty_ne q R (by decide)
  have hne' : rb ≠ g := fun e => hne e.symm
  have gl := heap_lt q
  have rl := R.lt
  clear q
  have HR : Hid (RW w rb a f) := R
  have HK : Hid (KR w g h h.length) := K
  have kz : ∀ j, w.frozen? ⟨g, j, none⟩ = false := fun j => DR.fz K j
  clear R K
  by_cases e0 : a = h.length
  · have hx : h[a]? = none := List.getElem?_eq_none (by omega)
    have E : Hid (swN h a = 0 ∧ swB h a = false ∧ swE h a = 160 ∧ swH h a = h ∧ swA h a = a) := by
      have e1 : swE h a = 160 := by unfold swE; rw [hx]
      exact ⟨by unfold swN; rw [e1]; rfl, by unfold swB; rw [hx], e1, by unfold swH; rw [hx], by unfold swA; rw [e1]; rfl⟩
    have z1 : decide ((a : Int) ≥ (h.length : Int)) = true := by rw [e0]; simp
    have z2 : decide ((h.length : Int) ≤ (a : Int)) = true := by rw [e0]; simp
    have z3 : h.length ≤ a := by omega
    unfold RsR
    rw [E.out.1, E.out.2.1, E.out.2.2.1, E.out.2.2.2.1, E.out.2.2.2.2]
    have HE0 : Hid (a = h.length) := e0
    clear hx E e0
    go_enter Try.func16, Try.ntmps16
    go_wp2_with fail
    exact bodyPost_ret (results_tmp3 rfl _ _ _) rfl ⟨rfl, HR.out, HK.out, Fr.refl _ _⟩
  · obtain ⟨x, hx⟩ : ∃ x, h[a]? = some x := ⟨_, List.getElem?_eq_getElem (by omega)⟩
    obtain ⟨hxo, hxw⟩ := hok x (List.mem_of_getElem? hx)
    have hal : a < h.length := by omega
    have a1 : (a : Int) < (h.length : Int) := by omega
    have z1 : decide ((a : Int) ≥ (h.length : Int)) = false := by simp; omega
    have z2 : decide ((h.length : Int) ≤ (a : Int)) = false := by simp; omega
    have z3 : ¬ (h.length ≤ a) := by omega
    obtain ⟨y1, y2, y3, y4⟩ := HK.out.at hx
    have HX : Hid (h[a]? = some x) := hx
    by_cases hk : x.k = 0
    · have E : Hid (swN h a = a ∧ swB h a = false ∧ swE h a = 0 ∧ swH h a = h ∧ swA h a = a + 1) := by
        have e1 : swE h a = 0 := by unfold swE; rw [hx]; dsimp only; rw [if_pos hk]
        exact ⟨by unfold swN; rw [e1]; rfl, by unfold swB; rw [hx]; simp [hk], e1, by unfold swH; rw [hx]; dsimp only; rw [if_pos hk], by unfold swA; rw [e1]; rfl⟩
      unfold RsR
      rw [E.out.1, E.out.2.1, E.out.2.2.1, E.out.2.2.2.1, E.out.2.2.2.2]
      have z4 : (x.k == 0) = true := by simpa using hk
      have z5 : (x.k != 0) = false := by simpa using hk
      clear hx E e0 hk hxo hxw hok
      go_enter Try.func16, Try.ntmps16
      go_wp2_with fail
      refine bodyPost_ret (results_tmp3 rfl _ _ _) rfl ⟨rfl, HR.out.set0 _, HK.out.kept (Below.heap_setCell _ _ _ _ hne), (fr_set1 w rb 0 _).sub (fun _ h => h.1)⟩
    · have z4 : (x.k == 0) = false := by simpa using hk
      have z5 : (x.k != 0) = true := by simpa using hk
      by_cases c1 : x.c = 1
      · have E : Hid (swN h a = 0 ∧ swB h a = false ∧ swE h a = 160 ∧ swH h a = h ∧ swA h a = a) := by
          have e1 : swE h a = 160 := by unfold swE; rw [hx]; dsimp only; rw [if_neg hk, if_pos c1]
          exact ⟨by unfold swN; rw [e1]; rfl, by unfold swB; rw [hx]; simp [c1], e1, by unfold swH; rw [hx]; dsimp only; rw [if_neg hk, if_neg (by omega), if_neg (by omega)], by unfold swA; rw [e1]; rfl⟩
        unfold RsR
        rw [E.out.1, E.out.2.1, E.out.2.2.1, E.out.2.2.2.1, E.out.2.2.2.2]
        have z6 : (x.c == 1) = true := by simpa using c1
        clear hx E e0 hk hxo hxw hok c1
        go_enter Try.func16, Try.ntmps16
        go_wp2_with fail
        exact bodyPost_ret (results_tmp3 rfl _ _ _) rfl ⟨rfl, HR.out, HK.out, Fr.refl _ _⟩
      · have z6 : (x.c == 1) = false := by simpa using c1
        by_cases c0' : x.c = 0
        · have E : Hid (swN h a = a ∧ swB h a = true ∧ swE h a = 0 ∧ swH h a = h.set a c0 ∧ swA h a = a + 1) := by
            have e1 : swE h a = 0 := by unfold swE; rw [hx]; dsimp only; rw [if_neg hk, if_neg c1]
            exact ⟨by unfold swN; rw [e1]; rfl, by unfold swB; rw [hx]; simp [c0', hk], e1, by unfold swH; rw [hx]; dsimp only; rw [if_neg hk, if_pos c0'], by unfold swA; rw [e1]; rfl⟩
          unfold RsR
          rw [E.out.1, E.out.2.1, E.out.2.2.1, E.out.2.2.2.1, E.out.2.2.2.2]
          have z7 : (x.c == 0) = true := by simpa using c0'
          clear hx E e0 hk hxo hxw hok c1 c0'
          go_enter Try.func16, Try.ntmps16
          go_wp2_with fail
          exact bodyPost_ret (results_tmp3 rfl _ _ _) rfl ⟨rfl, rs_zero HR.out HK.out HX.out hne _ _⟩
        · have z7 : (x.c == 0) = false := by simpa using c0'
          have c2 : x.c = 2 := by
            have := hxo.c
            rcases hxw with h | h
            · exact absurd h hk
            · omega
          have E : Hid (swN h a = a ∧ swB h a = false ∧ swE h a = 0 ∧ swH h a = h.set a ⟨x.k, 0, x.a, x.b⟩ ∧ swA h a = a + 1) := by
            have e1 : swE h a = 0 := by unfold swE; rw [hx]; dsimp only; rw [if_neg hk, if_neg c1]
            exact ⟨by unfold swN; rw [e1]; rfl, by unfold swB; rw [hx]; simp [c0'], e1, by unfold swH; rw [hx]; dsimp only; rw [if_neg hk, if_neg c0', if_pos c2], by unfold swA; rw [e1]; rfl⟩
          unfold RsR
          rw [E.out.1, E.out.2.1, E.out.2.2.1, E.out.2.2.2.1, E.out.2.2.2.2]
          clear hx E e0 hk hxo hxw hok c1 c0' c2
          go_enter Try.func16, Try.ntmps16
          go_wp2_with fail
          exact bodyPost_ret (results_tmp3 rfl _ _ _) rfl ⟨rfl, rs_white HR.out HK.out HX.out hne _⟩
end Go.Proofs.Ytjbfpklbgefacaa
