/- The document's SameProcs, SameCode. -/
import Derived.Test.YtnblieohdngmiaaGreatDoorHZSame
import Derived.Deep.RegionWith
namespace Go.Proofs.YtnblieohdngmiaaGreatDoor
open Go.RowKit

theorem keepQ {W W' : World} {b k b' k' : Nat} {u0 u1 u2 u3 : Value} (hb : Below W.heap.size W W')
    (h : (W.cell? ⟨b, k, none⟩ = some u0 ∧ W.cell? ⟨b, k + 1, none⟩ = some u1 ∧ b < W.heap.size) ∧ (W.cell? ⟨b', k', none⟩ = some u2 ∧ W.cell? ⟨b', k' + 1, none⟩ = some u3 ∧ b' < W.heap.size)) :
    (W'.cell? ⟨b, k, none⟩ = some u0 ∧ W'.cell? ⟨b, k + 1, none⟩ = some u1 ∧ b < W'.heap.size) ∧ (W'.cell? ⟨b', k', none⟩ = some u2 ∧ W'.cell? ⟨b', k' + 1, none⟩ = some u3 ∧ b' < W'.heap.size) :=
  ⟨⟨(hb.cell (p := ⟨b, k, none⟩) h.1.2.2).trans h.1.1, (hb.cell (p := ⟨b, k + 1, none⟩) h.1.2.2).trans h.1.2.1, Nat.lt_of_lt_of_le h.1.2.2 hb.size⟩,
   ⟨(hb.cell (p := ⟨b', k', none⟩) h.2.2.2).trans h.2.1, (hb.cell (p := ⟨b', k' + 1, none⟩) h.2.2.2).trans h.2.2.1, Nat.lt_of_lt_of_le h.2.2.2 hb.size⟩⟩
theorem prc_eq {x y : Prc} : x = y ↔ x.params = y.params ∧ x.code = y.code := by
  cases x; cases y; simp
set_option maxRecDepth 100000 in
set_option maxHeartbeats 8000000 in
theorem sameP_any (l m : List Prc) (ra rb : Option Addr) (ca cb : Nat) (w : World) (hl : l.length ≤ maxLen) (hR : PR w ra l) (hS : PR w rb m) :
    Calls Tryz.prog 49 #[.slice ra l.length ca, .slice rb m.length cb] w fun e w' => e = .returned (.bool (samePs l m)) ∧ Below w.heap.size w w' := by
  unfold maxLen at hl
  by_cases hlen : l.length = m.length
  · obtain ⟨b, o, h1, h2⟩ := PR.at hR
    obtain ⟨b', o', h1', h2'⟩ := PR.at hS
    rw [← hlen] at h1' ⊢
    have H1 : Hid (l.length ≠ 0 → ra = some ⟨b, o, none⟩) := h1
    have H2 : Hid (∀ (j : Nat) (x : Prc), l[j]? = some x → b < w.heap.size ∧ w.cell? ⟨b, o + j * 2, none⟩ = some (.int .i64 x.params) ∧ (∃ rc cc, w.cell? ⟨b, o + j * 2 + 1, none⟩ = some (.slice rc x.code.length cc) ∧ NR w rc x.code) ∧ x.code.length ≤ maxLen) := h2
    have H1' : Hid (l.length ≠ 0 → rb = some ⟨b', o', none⟩) := h1'
    have H2' : Hid (∀ (j : Nat) (x : Prc), m[j]? = some x → b' < w.heap.size ∧ w.cell? ⟨b', o' + j * 2, none⟩ = some (.int .i64 x.params) ∧ (∃ rc cc, w.cell? ⟨b', o' + j * 2 + 1, none⟩ = some (.slice rc x.code.length cc) ∧ NR w rc x.code) ∧ x.code.length ≤ maxLen) := h2'
    have Hlen : Hid (l.length = m.length) := hlen
    have z : ((l.length : Int) == (l.length : Int)) = true := by simp
    have hmx : Tryz.prog.follows .mixedOrders = true := by kernel_rfl
    clear h1 h2 h1' h2' hR hS hlen
    go_enter Tryz.func49, Tryz.ntmps49
    go_wp2
    go_loopw [5] (fun i wr => ∃ j : Nat, i = .int .i64 j ∧ j ≤ l.length ∧ Hid (l.take j = m.take j) ∧ Hid (Below w.heap.size w wr)) (fun i _ => l.length - (intOf i).toNat)
    case atStart => exact ⟨0, rfl, Nat.zero_le _, by show _ = _; simp, Below.refl _ _⟩
    case round =>
      obtain ⟨j, rfl, hj, HN, HW⟩ := hrel
      by_cases hlt : j < l.length
      · have i1 : (j : Int) < (l.length : Int) := by omega
        have hra := H1.out (by omega)
        subst hra
        have hrb := H1'.out (by omega)
        subst hrb
        obtain ⟨x, hx⟩ : ∃ x, l[j]? = some x := ⟨_, List.getElem?_eq_getElem hlt⟩
        obtain ⟨y, hy⟩ : ∃ y, m[j]? = some y := ⟨_, List.getElem?_eq_getElem (by rw [← Hlen.out]; exact hlt)⟩
        obtain ⟨hb, hc, ⟨rc, cc, hc1, hN⟩, hxl⟩ := H2.out j x hx
        obtain ⟨hb', hc', ⟨rc', cc', hc1', hN'⟩, hyl⟩ := H2'.out j y hy
        obtain ⟨⟨f1, f2, f3⟩, ⟨f4, f5, f6⟩⟩ := keepQ HW.out ⟨⟨hc, hc1, hb⟩, ⟨hc', hc1', hb'⟩⟩
        have HX : Hid (l[j]? = some x) := hx
        have HY : Hid (m[j]? = some y) := hy
        have HCl : Hid (∀ w5 : World, Below w.heap.size w w5 → Calls Tryz.prog 94 #[.slice rc x.code.length cc, .slice rc' y.code.length cc'] w5 fun e w' => e = .returned (.bool (sameN x.code y.code)) ∧ Below w5.heap.size w5 w') := fun w5 h5 => sameN_any _ _ _ _ _ _ w5 hxl hyl (hN.below h5) (hN'.below h5)
        clear hx hy hb hc hb' hc' hc1 hc1' hN hN' hxl hyl
        by_cases hp : x.params = y.params
        · have zp : (x.params != x.params) = false := by simp
          rw [← hp] at f4
          cases hsn : sameN x.code y.code
          · have HE : Hid (samePs l m = false) := samePs_false (eq_drop Hlen.out HX.out HY.out (fun e => by rw [(sameN_iff _ _).2 (prc_eq.1 e).2] at hsn; cases hsn))
            rw [hsn] at HCl
            clear hsn hp
            go_wp2_with fail
            first | go_region_held3 (fun wx => (wx.cell? ⟨b, o + j * 2, none⟩ = some (.int .i64 x.params) ∧ wx.cell? ⟨b, o + j * 2 + 1, none⟩ = some (.slice rc x.code.length cc) ∧ b < wx.heap.size) ∧ (wx.cell? ⟨b', o' + j * 2, none⟩ = some (.int .i64 x.params) ∧ wx.cell? ⟨b', o' + j * 2 + 1, none⟩ = some (.slice rc' y.code.length cc') ∧ b' < wx.heap.size)) (first | go_keep | exact keepQ hb3 ⟨⟨f1, f2, f3⟩, ⟨f4, f5, f6⟩⟩)
              (first | (go_at_call 94; refine (HCl.out _ HW.out.drew).mono ?_; rintro e w3 ⟨rfl, hb3⟩)) | fail
            go_wp2
            go_ret
            exact ⟨by rw [HE.out]; rfl, HW.out.drew.trans (hb3.mono HW.out.size)⟩
          · have HXY : Hid (x = y) := prc_eq.2 ⟨hp, (sameN_iff _ _).1 hsn⟩
            rw [hsn] at HCl
            clear hsn hp
            go_wp2_with fail
            first | go_region_held3 (fun wx => (wx.cell? ⟨b, o + j * 2, none⟩ = some (.int .i64 x.params) ∧ wx.cell? ⟨b, o + j * 2 + 1, none⟩ = some (.slice rc x.code.length cc) ∧ b < wx.heap.size) ∧ (wx.cell? ⟨b', o' + j * 2, none⟩ = some (.int .i64 x.params) ∧ wx.cell? ⟨b', o' + j * 2 + 1, none⟩ = some (.slice rc' y.code.length cc') ∧ b' < wx.heap.size)) (first | go_keep | exact keepQ hb3 ⟨⟨f1, f2, f3⟩, ⟨f4, f5, f6⟩⟩)
              (first | (go_at_call 94; refine (HCl.out _ HW.out.drew).mono ?_; rintro e w3 ⟨rfl, hb3⟩)) | fail
            go_wp2
            go_roundw
            case rel =>
              refine ⟨j + 1, by go_num, by omega, ?_, HW.out.drew.trans (hb3.mono HW.out.size)⟩
              show _ = _
              rw [List.take_add_one, List.take_add_one, HN.out, HX.out, HY.out, HXY.out]
            case measure => simp [intOf]; omega
        · have zp : (x.params == y.params) = false := by simpa using hp
          have zq : (x.params != y.params) = true := by simpa using hp
          have HE : Hid (samePs l m = false) := samePs_false (eq_drop Hlen.out HX.out HY.out (fun e => hp (prc_eq.1 e).1))
          clear hp
          go_wp2_with fail
          go_quiet (fail)
          go_wp2
          go_ret
          exact ⟨by rw [HE.out]; rfl, below_drewM HW.out _⟩
      · have i1 : ¬ (j : Int) < (l.length : Int) := by omega
        have HE : Hid (samePs l m = true) := samePs_true (eq_of_take Hlen.out hlt HN.out)
        go_wp2
        go_ret
        exact ⟨by rw [HE.out]; rfl, HW.out⟩
  · have HE : Hid (samePs l m = false) := samePs_false (fun e => hlen (by rw [e]))
    have z : ((l.length : Int) == (m.length : Int)) = false := by simp; omega
    clear hlen hR hS
    go_enter Tryz.func49, Tryz.ntmps49
    go_wp2
    go_ret
    exact ⟨by rw [HE.out]; rfl, Below.refl _ _⟩
end Go.Proofs.YtnblieohdngmiaaGreatDoor
