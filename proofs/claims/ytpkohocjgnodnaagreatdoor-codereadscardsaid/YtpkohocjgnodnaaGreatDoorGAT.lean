/- The document's SameWords, SameTexts, SameInstrs.; The document's SameProcs, SameCode.; The document's SameCode. -/
import Derived.Test.YtpkohocjgnodnaaGreatDoorGAG
import Derived.Deep.RegionWith
/- The document's SameWords, SameTexts, SameInstrs. -/
namespace Go.Proofs.YtpkohocjgnodnaaGreatDoor
open Go.RowKit

set_option maxRecDepth 100000 in
set_option maxHeartbeats 4000000 in
theorem sameW_any (l m : List Int) (ra rb : Option Addr) (ca cb : Nat) (w : World) (hl : l.length ≤ maxLen) (_ : m.length ≤ maxLen) (hR : WR w ra l) (hS : WR w rb m) :
    Calls Tryz.prog 43 #[.slice ra l.length ca, .slice rb m.length cb] w fun e w' => e = .returned (.bool (decide (l = m))) ∧ Below w.heap.size w w' := by
  unfold maxLen at hl
  by_cases hlen : l.length = m.length
  · obtain ⟨b, o, h1, h2⟩ := WR.at hR
    obtain ⟨b', o', h1', h2'⟩ := WR.at hS
    rw [← hlen] at h1' ⊢
    have H1 : Hid _ := h1
    have H2 : Hid _ := h2
    have H1' : Hid _ := h1'
    have H2' : Hid _ := h2'
    have Hlen : Hid (l.length = m.length) := hlen
    have z : ((l.length : Int) == (l.length : Int)) = true := by simp
    clear h1 h2 h1' h2' hR hS hlen
    go_enter Tryz.func43, Tryz.ntmps43
    go_wp2
    go_loopw [5] (fun i wr => ∃ j : Nat, i = .int .i64 j ∧ j ≤ l.length ∧ Hid (l.take j = m.take j) ∧ Hid (Below w.heap.size w wr)) (fun i _ => l.length - (intOf i).toNat)
    case atStart => exact ⟨0, rfl, Nat.zero_le _, by show _ = _; simp, Below.refl _ _⟩
    case round =>
      obtain ⟨j, rfl, hj, HN, HW⟩ := hrel
      by_cases hlt : j < l.length
      · have i1 : (j : Int) < (l.length : Int) := by omega
        have hra := H1.out (by omega)
        subst hra
        have hrb := H1'.out (by omega)
        subst hrb
        obtain ⟨x, hx⟩ : ∃ x, l[j]? = some x := ⟨_, List.getElem?_eq_getElem hlt⟩
        obtain ⟨y, hy⟩ : ∃ y, m[j]? = some y := ⟨_, List.getElem?_eq_getElem (by rw [← Hlen.out]; exact hlt)⟩
        obtain ⟨hb, hc, _⟩ := H2.out j x hx
        obtain ⟨hb', hc', _⟩ := H2'.out j y hy
        have f1 : wr.cell? ⟨b, o + j, none⟩ = some (.int .u64 x) := (HW.out.cell (p := ⟨b, o + j, none⟩) hb).trans hc
        have f2 : wr.cell? ⟨b', o' + j, none⟩ = some (.int .u64 y) := (HW.out.cell (p := ⟨b', o' + j, none⟩) hb').trans hc'
        have f3 : b < wr.heap.size := Nat.lt_of_lt_of_le hb HW.out.size
        have f4 : b' < wr.heap.size := Nat.lt_of_lt_of_le hb' HW.out.size
        have HX : Hid (l[j]? = some x) := hx
        have HY : Hid (m[j]? = some y) := hy
        clear hx hy hb hc hb' hc'
        by_cases he : x = y
        · subst he
          have z2 : (x == x) = true := by simp
          go_wp2_with fail
          go_quiet (fail)
          go_wp2
          go_roundw
          case rel =>
            refine ⟨j + 1, by go_num, by omega, ?_, below_drewM HW.out _⟩
            show _ = _
            rw [List.take_add_one, List.take_add_one, HN.out, HX.out, HY.out]
          case measure => simp [intOf]; omega
        · have HE : Hid (decide (l = m) = false) := decide_eq_false (eq_drop Hlen.out HX.out HY.out he)
          have z2 : (x == y) = false := by simpa using he
          clear he
          go_wp2_with fail
          go_quiet (fail)
          go_wp2
          go_ret
          exact ⟨by rw [HE.out]; rfl, below_drewM HW.out _⟩
      · have i1 : ¬ (j : Int) < (l.length : Int) := by omega
        have HE : Hid (decide (l = m) = true) := decide_eq_true (eq_of_take Hlen.out hlt HN.out)
        go_wp2
        go_ret
        exact ⟨by rw [HE.out]; rfl, HW.out⟩
  · have HE : Hid (decide (l = m) = false) := decide_eq_false (fun e => hlen (by rw [e]))
    have z : ((l.length : Int) == (m.length : Int)) = false := by simp; omega
    clear hlen hR hS
    go_enter Tryz.func43, Tryz.ntmps43
    go_wp2
    go_ret
    exact ⟨by rw [HE.out]; rfl, Below.refl _ _⟩
set_option maxRecDepth 100000 in
set_option maxHeartbeats 4000000 in
theorem sameX_any (l m : List (List UInt8)) (ra rb : Option Addr) (ca cb : Nat) (w : World) (hl : l.length ≤ maxLen) (_ : m.length ≤ maxLen) (hR : XR w ra l) (hS : XR w rb m) :
    Calls Tryz.prog 45 #[.slice ra l.length ca, .slice rb m.length cb] w fun e w' => e = .returned (.bool (decide (l = m))) ∧ Below w.heap.size w w' := by
  unfold maxLen at hl
  by_cases hlen : l.length = m.length
  · obtain ⟨b, o, h1, h2⟩ := XR.at hR
    obtain ⟨b', o', h1', h2'⟩ := XR.at hS
    rw [← hlen] at h1' ⊢
    have H1 : Hid _ := h1
    have H2 : Hid _ := h2
    have H1' : Hid _ := h1'
    have H2' : Hid _ := h2'
    have Hlen : Hid (l.length = m.length) := hlen
    have z : ((l.length : Int) == (l.length : Int)) = true := by simp
    clear h1 h2 h1' h2' hR hS hlen
    go_enter Tryz.func45, Tryz.ntmps45
    go_wp2
    go_loopw [5] (fun i wr => ∃ j : Nat, i = .int .i64 j ∧ j ≤ l.length ∧ Hid (l.take j = m.take j) ∧ Hid (Below w.heap.size w wr)) (fun i _ => l.length - (intOf i).toNat)
    case atStart => exact ⟨0, rfl, Nat.zero_le _, by show _ = _; simp, Below.refl _ _⟩
    case round =>
      obtain ⟨j, rfl, hj, HN, HW⟩ := hrel
      by_cases hlt : j < l.length
      · have i1 : (j : Int) < (l.length : Int) := by omega
        have hra := H1.out (by omega)
        subst hra
        have hrb := H1'.out (by omega)
        subst hrb
        obtain ⟨x, hx⟩ : ∃ x, l[j]? = some x := ⟨_, List.getElem?_eq_getElem hlt⟩
        obtain ⟨y, hy⟩ : ∃ y, m[j]? = some y := ⟨_, List.getElem?_eq_getElem (by rw [← Hlen.out]; exact hlt)⟩
        obtain ⟨hb, hc, _⟩ := H2.out j x hx
        obtain ⟨hb', hc', _⟩ := H2'.out j y hy
        have f1 : wr.cell? ⟨b, o + j, none⟩ = some (S x) := (HW.out.cell (p := ⟨b, o + j, none⟩) hb).trans hc
        have f2 : wr.cell? ⟨b', o' + j, none⟩ = some (S y) := (HW.out.cell (p := ⟨b', o' + j, none⟩) hb').trans hc'
        have f3 : b < wr.heap.size := Nat.lt_of_lt_of_le hb HW.out.size
        have f4 : b' < wr.heap.size := Nat.lt_of_lt_of_le hb' HW.out.size
        have HX : Hid (l[j]? = some x) := hx
        have HY : Hid (m[j]? = some y) := hy
        clear hx hy hb hc hb' hc'
        by_cases he : x = y
        · subst he
          have z2 : (x == x) = true := by simp
          go_wp2_with fail
          go_quiet (fail)
          go_wp2
          go_roundw
          case rel =>
            refine ⟨j + 1, by go_num, by omega, ?_, below_drewM HW.out _⟩
            show _ = _
            rw [List.take_add_one, List.take_add_one, HN.out, HX.out, HY.out]
          case measure => simp [intOf]; omega
        · have HE : Hid (decide (l = m) = false) := decide_eq_false (eq_drop Hlen.out HX.out HY.out he)
          have z2 : (x == y) = false := by simpa using he
          clear he
          go_wp2_with fail
          go_quiet (fail)
          go_wp2
          go_ret
          exact ⟨by rw [HE.out]; rfl, below_drewM HW.out _⟩
      · have i1 : ¬ (j : Int) < (l.length : Int) := by omega
        have HE : Hid (decide (l = m) = true) := decide_eq_true (eq_of_take Hlen.out hlt HN.out)
        go_wp2
        go_ret
        exact ⟨by rw [HE.out]; rfl, HW.out⟩
  · have HE : Hid (decide (l = m) = false) := decide_eq_false (fun e => hlen (by rw [e]))
    have z : ((l.length : Int) == (m.length : Int)) = false := by simp; omega
    clear hlen hR hS
    go_enter Tryz.func45, Tryz.ntmps45
    go_wp2
    go_ret
    exact ⟨by rw [HE.out]; rfl, Below.refl _ _⟩
set_option maxRecDepth 100000 in
set_option maxHeartbeats 4000000 in
theorem sameN_any (l m : List Ins) (ra rb : Option Addr) (ca cb : Nat) (w : World) (hl : l.length ≤ maxLen) (_ : m.length ≤ maxLen) (hR : NR w ra l) (hS : NR w rb m) :
    Calls Tryz.prog 89 #[.slice ra l.length ca, .slice rb m.length cb] w fun e w' => e = .returned (.bool (sameN l m)) ∧ Below w.heap.size w w' := by
  unfold maxLen at hl
  by_cases hlen : l.length = m.length
  · obtain ⟨b, o, h1, h2⟩ := NR.at hR
    obtain ⟨b', o', h1', h2'⟩ := NR.at hS
    rw [← hlen] at h1' ⊢
    have H1 : Hid _ := h1
    have H2 : Hid _ := h2
    have H1' : Hid _ := h1'
    have H2' : Hid _ := h2'
    have Hlen : Hid (l.length = m.length) := hlen
    have z : ((l.length : Int) == (l.length : Int)) = true := by simp
    clear h1 h2 h1' h2' hR hS hlen
    go_enter Tryz.func89, Tryz.ntmps89
    go_wp2
    go_loopw [5] (fun i wr => ∃ j : Nat, i = .int .i64 j ∧ j ≤ l.length ∧ Hid (l.take j = m.take j) ∧ Hid (Below w.heap.size w wr)) (fun i _ => l.length - (intOf i).toNat)
    case atStart => exact ⟨0, rfl, Nat.zero_le _, by show _ = _; simp, Below.refl _ _⟩
    case round =>
      obtain ⟨j, rfl, hj, HN, HW⟩ := hrel
      by_cases hlt : j < l.length
      · have i1 : (j : Int) < (l.length : Int) := by omega
        have hra := H1.out (by omega)
        subst hra
        have hrb := H1'.out (by omega)
        subst hrb
        obtain ⟨x, hx⟩ : ∃ x, l[j]? = some x := ⟨_, List.getElem?_eq_getElem hlt⟩
        obtain ⟨y, hy⟩ : ∃ y, m[j]? = some y := ⟨_, List.getElem?_eq_getElem (by rw [← Hlen.out]; exact hlt)⟩
        obtain ⟨hb, hc, hd⟩ := H2.out j x hx
        obtain ⟨hb', hc', hd'⟩ := H2'.out j y hy
        have f1 : wr.cell? ⟨b, o + j * 2, none⟩ = some (.int .u8 x.op) := (HW.out.cell (p := ⟨b, o + j * 2, none⟩) hb).trans hc
        have f5 : wr.cell? ⟨b, o + j * 2 + 1, none⟩ = some (.int .i64 x.a) := (HW.out.cell (p := ⟨b, o + j * 2 + 1, none⟩) hb).trans hd
        have f2 : wr.cell? ⟨b', o' + j * 2, none⟩ = some (.int .u8 y.op) := (HW.out.cell (p := ⟨b', o' + j * 2, none⟩) hb').trans hc'
        have f6 : wr.cell? ⟨b', o' + j * 2 + 1, none⟩ = some (.int .i64 y.a) := (HW.out.cell (p := ⟨b', o' + j * 2 + 1, none⟩) hb').trans hd'
        have f3 : b < wr.heap.size := Nat.lt_of_lt_of_le hb HW.out.size
        have f4 : b' < wr.heap.size := Nat.lt_of_lt_of_le hb' HW.out.size
        have HX : Hid (l[j]? = some x) := hx
        have HY : Hid (m[j]? = some y) := hy
        clear hx hy hb hc hb' hc' hd hd'
        by_cases he : x = y
        · subst he
          have hq := fun wx => neqIns_same x.op x.a wx
          go_wp2_with fail
          go_quiet (fail)
          go_wp2
          go_roundw
          case rel =>
            refine ⟨j + 1, by go_num, by omega, ?_, below_drewM HW.out _⟩
            show _ = _
            rw [List.take_add_one, List.take_add_one, HN.out, HX.out, HY.out]
          case measure => simp [intOf]; omega
        · have HE : Hid (sameN l m = false) := sameN_false (eq_drop Hlen.out HX.out HY.out he)
          have hq := fun wx => neqIns_ne x y he wx
          clear he
          go_wp2_with fail
          go_quiet (fail)
          go_wp2
          go_ret
          exact ⟨by rw [HE.out]; rfl, below_drewM HW.out _⟩
      · have i1 : ¬ (j : Int) < (l.length : Int) := by omega
        have HE : Hid (sameN l m = true) := sameN_true (eq_of_take Hlen.out hlt HN.out)
        go_wp2
        go_ret
        exact ⟨by rw [HE.out]; rfl, HW.out⟩
  · have HE : Hid (sameN l m = false) := sameN_false (fun e => hlen (by rw [e]))
    have z : ((l.length : Int) == (m.length : Int)) = false := by simp; omega
    clear hlen hR hS
    go_enter Tryz.func89, Tryz.ntmps89
    go_wp2
    go_ret
    exact ⟨by rw [HE.out]; rfl, Below.refl _ _⟩
end Go.Proofs.YtpkohocjgnodnaaGreatDoor

/- The document's SameProcs, SameCode. -/
namespace Go.Proofs.YtpkohocjgnodnaaGreatDoor
open Go.RowKit

theorem keepQ {W W' : World} {b k b' k' : Nat} {u0 u1 u2 u3 : Value} (hb : Below W.heap.size W W')
    (h : (W.cell? ⟨b, k, none⟩ = some u0 ∧ W.cell? ⟨b, k + 1, none⟩ = some u1 ∧ b < W.heap.size) ∧ (W.cell? ⟨b', k', none⟩ = some u2 ∧ W.cell? ⟨b', k' + 1, none⟩ = some u3 ∧ b' < W.heap.size)) :
    (W'.cell? ⟨b, k, none⟩ = some u0 ∧ W'.cell? ⟨b, k + 1, none⟩ = some u1 ∧ b < W'.heap.size) ∧ (W'.cell? ⟨b', k', none⟩ = some u2 ∧ W'.cell? ⟨b', k' + 1, none⟩ = some u3 ∧ b' < W'.heap.size) :=
  ⟨⟨(hb.cell (p := ⟨b, k, none⟩) h.1.2.2).trans h.1.1, (hb.cell (p := ⟨b, k + 1, none⟩) h.1.2.2).trans h.1.2.1, Nat.lt_of_lt_of_le h.1.2.2 hb.size⟩,
   ⟨(hb.cell (p := ⟨b', k', none⟩) h.2.2.2).trans h.2.1, (hb.cell (p := ⟨b', k' + 1, none⟩) h.2.2.2).trans h.2.2.1, Nat.lt_of_lt_of_le h.2.2.2 hb.size⟩⟩
theorem prc_eq {x y : Prc} : x = y ↔ x.params = y.params ∧ x.code = y.code := by
  cases x; cases y; simp
set_option maxRecDepth 100000 in
set_option maxHeartbeats 8000000 in
theorem sameP_any (l m : List Prc) (ra rb : Option Addr) (ca cb : Nat) (w : World) (hl : l.length ≤ maxLen) (hR : PR w ra l) (hS : PR w rb m) :
    Calls Tryz.prog 44 #[.slice ra l.length ca, .slice rb m.length cb] w fun e w' => e = .returned (.bool (samePs l m)) ∧ Below w.heap.size w w' := by
  unfold maxLen at hl
  by_cases hlen : l.length = m.length
  · obtain ⟨b, o, h1, h2⟩ := PR.at hR
    obtain ⟨b', o', h1', h2'⟩ := PR.at hS
    rw [← hlen] at h1' ⊢
    have H1 : Hid (l.length ≠ 0 → ra = some ⟨b, o, none⟩) := h1
    have H2 : Hid (∀ (j : Nat) (x : Prc), l[j]? = some x → b < w.heap.size ∧ w.cell? ⟨b, o + j * 2, none⟩ = some (.int .i64 x.params) ∧ (∃ rc cc, w.cell? ⟨b, o + j * 2 + 1, none⟩ = some (.slice rc x.code.length cc) ∧ NR w rc x.code) ∧ x.code.length ≤ maxLen) := h2
    have H1' : Hid (l.length ≠ 0 → rb = some ⟨b', o', none⟩) := h1'
    have H2' : Hid (∀ (j : Nat) (x : Prc), m[j]? = some x → b' < w.heap.size ∧ w.cell? ⟨b', o' + j * 2, none⟩ = some (.int .i64 x.params) ∧ (∃ rc cc, w.cell? ⟨b', o' + j * 2 + 1, none⟩ = some (.slice rc x.code.length cc) ∧ NR w rc x.code) ∧ x.code.length ≤ maxLen) := h2'
    have Hlen : Hid (l.length = m.length) := hlen
    have z : ((l.length : Int) == (l.length : Int)) = true := by simp
    have hmx : Tryz.prog.follows .mixedOrders = true := by kernel_rfl
    clear h1 h2 h1' h2' hR hS hlen
    go_enter Tryz.func44, Tryz.ntmps44
    go_wp2
    go_loopw [5] (fun i wr => ∃ j : Nat, i = .int .i64 j ∧ j ≤ l.length ∧ Hid (l.take j = m.take j) ∧ Hid (Below w.heap.size w wr)) (fun i _ => l.length - (intOf i).toNat)
    case atStart => exact ⟨0, rfl, Nat.zero_le _, by show _ = _; simp, Below.refl _ _⟩
    case round =>
      obtain ⟨j, rfl, hj, HN, HW⟩ := hrel
      by_cases hlt : j < l.length
      · have i1 : (j : Int) < (l.length : Int) := by omega
        have hra := H1.out (by omega)
        subst hra
        have hrb := H1'.out (by omega)
        subst hrb
        obtain ⟨x, hx⟩ : ∃ x, l[j]? = some x := ⟨_, List.getElem?_eq_getElem hlt⟩
        obtain ⟨y, hy⟩ : ∃ y, m[j]? = some y := ⟨_, List.getElem?_eq_getElem (by rw [← Hlen.out]; exact hlt)⟩
        obtain ⟨hb, hc, ⟨rc, cc, hc1, hN⟩, hxl⟩ := H2.out j x hx
        obtain ⟨hb', hc', ⟨rc', cc', hc1', hN'⟩, hyl⟩ := H2'.out j y hy
        obtain ⟨⟨f1, f2, f3⟩, ⟨f4, f5, f6⟩⟩ := keepQ HW.out ⟨⟨hc, hc1, hb⟩, ⟨hc', hc1', hb'⟩⟩
        have HX : Hid (l[j]? = some x) := hx
        have HY : Hid (m[j]? = some y) := hy
        have HCl : Hid (∀ w5 : World, Below w.heap.size w w5 → Calls Tryz.prog 89 #[.slice rc x.code.length cc, .slice rc' y.code.length cc'] w5 fun e w' => e = .returned (.bool (sameN x.code y.code)) ∧ Below w5.heap.size w5 w') := fun w5 h5 => sameN_any _ _ _ _ _ _ w5 hxl hyl (hN.below h5) (hN'.below h5)
        clear hx hy hb hc hb' hc' hc1 hc1' hN hN' hxl hyl
        by_cases hp : x.params = y.params
        · have zp : (x.params != x.params) = false := by simp
          rw [← hp] at f4
          cases hsn : sameN x.code y.code
          · have HE : Hid (samePs l m = false) := samePs_false (eq_drop Hlen.out HX.out HY.out (fun e => by rw [(sameN_iff _ _).2 (prc_eq.1 e).2] at hsn; cases hsn))
            rw [hsn] at HCl
            clear hsn hp
            go_wp2_with fail
            first | go_region_held3 (fun wx => (wx.cell? ⟨b, o + j * 2, none⟩ = some (.int .i64 x.params) ∧ wx.cell? ⟨b, o + j * 2 + 1, none⟩ = some (.slice rc x.code.length cc) ∧ b < wx.heap.size) ∧ (wx.cell? ⟨b', o' + j * 2, none⟩ = some (.int .i64 x.params) ∧ wx.cell? ⟨b', o' + j * 2 + 1, none⟩ = some (.slice rc' y.code.length cc') ∧ b' < wx.heap.size)) (first | go_keep | exact keepQ hb3 ⟨⟨f1, f2, f3⟩, ⟨f4, f5, f6⟩⟩)
              (first | (go_at_call 89; refine (HCl.out _ HW.out.drew).mono ?_; rintro e w3 ⟨rfl, hb3⟩)) | fail
            go_wp2
            go_ret
            exact ⟨by rw [HE.out]; rfl, HW.out.drew.trans (hb3.mono HW.out.size)⟩
          · have HXY : Hid (x = y) := prc_eq.2 ⟨hp, (sameN_iff _ _).1 hsn⟩
            rw [hsn] at HCl
            clear hsn hp
            go_wp2_with fail
            first | go_region_held3 (fun wx => (wx.cell? ⟨b, o + j * 2, none⟩ = some (.int .i64 x.params) ∧ wx.cell? ⟨b, o + j * 2 + 1, none⟩ = some (.slice rc x.code.length cc) ∧ b < wx.heap.size) ∧ (wx.cell? ⟨b', o' + j * 2, none⟩ = some (.int .i64 x.params) ∧ wx.cell? ⟨b', o' + j * 2 + 1, none⟩ = some (.slice rc' y.code.length cc') ∧ b' < wx.heap.size)) (first | go_keep | exact keepQ hb3 ⟨⟨f1, f2, f3⟩, ⟨f4, f5, f6⟩⟩)
              (first | (go_at_call 89; refine (HCl.out _ HW.out.drew).mono ?_; rintro e w3 ⟨rfl, hb3⟩)) | fail
            go_wp2
            go_roundw
            case rel =>
              refine ⟨j + 1, by go_num, by omega, ?_, HW.out.drew.trans (hb3.mono HW.out.size)⟩
              show _ = _
              rw [List.take_add_one, List.take_add_one, HN.out, HX.out, HY.out, HXY.out]
            case measure => simp [intOf]; omega
        · have zp : (x.params == y.params) = false := by simpa using hp
          have zq : (x.params != y.params) = true := by simpa using hp
          have HE : Hid (samePs l m = false) := samePs_false (eq_drop Hlen.out HX.out HY.out (fun e => hp (prc_eq.1 e).1))
          clear hp
          go_wp2_with fail
          go_quiet (fail)
          go_wp2
          go_ret
          exact ⟨by rw [HE.out]; rfl, below_drewM HW.out _⟩
      · have i1 : ¬ (j : Int) < (l.length : Int) := by omega
        have HE : Hid (samePs l m = true) := samePs_true (eq_of_take Hlen.out hlt HN.out)
        go_wp2
        go_ret
        exact ⟨by rw [HE.out]; rfl, HW.out⟩
  · have HE : Hid (samePs l m = false) := samePs_false (fun e => hlen (by rw [e]))
    have z : ((l.length : Int) == (m.length : Int)) = false := by simp; omega
    clear hlen hR hS
    go_enter Tryz.func44, Tryz.ntmps44
    go_wp2
    go_ret
    exact ⟨by rw [HE.out]; rfl, Below.refl _ _⟩
end Go.Proofs.YtpkohocjgnodnaaGreatDoor

/- The document's SameCode. -/
namespace Go.Proofs.YtpkohocjgnodnaaGreatDoor
open Go.RowKit

set_option maxRecDepth 100000 in
set_option maxHeartbeats 4000000 in
theorem sameCode_any (a b : Cd) (va vb : Value) (w : World) (ha : CV w va a) (hb : CV w vb b) :
    Calls Tryz.prog 16 #[va, vb] w fun e w' => e = .returned (.bool (sameC a b)) ∧ Below w.heap.size w w' := by
  obtain ⟨⟨r1, c1, r2, c2, r3, c3, rfl, hw1, hp1, hx1, _⟩, hl1⟩ := ha
  obtain ⟨⟨s1, d1, s2, d2, s3, d3, rfl, hw2, hp2, hx2, _⟩, hl2⟩ := hb
  have hal : Below w.heap.size w ((w.alloc (.cells #[.slice r1 a.consts.length c1, .slice r2 a.procs.length c2, .slice r3 a.globals.length c3] 26)).alloc (.cells #[.slice s1 b.consts.length d1, .slice s2 b.procs.length d2, .slice s3 b.globals.length d3] 26)) := ((Below.refl _ w).alloc (Nat.le_refl _) _).alloc (by simp) _
  have HB : Hid (Below w.heap.size w ((w.alloc (.cells #[.slice r1 a.consts.length c1, .slice r2 a.procs.length c2, .slice r3 a.globals.length c3] 26)).alloc (.cells #[.slice s1 b.consts.length d1, .slice s2 b.procs.length d2, .slice s3 b.globals.length d3] 26))) := hal
  have HQ0 : Hid (((w.alloc (.cells #[.slice r1 a.consts.length c1, .slice r2 a.procs.length c2, .slice r3 a.globals.length c3] 26)).alloc (.cells #[.slice s1 b.consts.length d1, .slice s2 b.procs.length d2, .slice s3 b.globals.length d3] 26)).heap[w.heap.size]? = some (.cells #[.slice r1 a.consts.length c1, .slice r2 a.procs.length c2, .slice r3 a.globals.length c3] 26 (0, 0))) := (Below.heap_alloc _ _ _ (by simp)).trans (heap_alloc_new _ _)
  have HQ1 : Hid (((w.alloc (.cells #[.slice r1 a.consts.length c1, .slice r2 a.procs.length c2, .slice r3 a.globals.length c3] 26)).alloc (.cells #[.slice s1 b.consts.length d1, .slice s2 b.procs.length d2, .slice s3 b.globals.length d3] 26)).heap[w.heap.size + 1]? = some (.cells #[.slice s1 b.consts.length d1, .slice s2 b.procs.length d2, .slice s3 b.globals.length d3] 26 (0, 0))) := by
    have := heap_alloc_new (w.alloc (.cells #[.slice r1 a.consts.length c1, .slice r2 a.procs.length c2, .slice r3 a.globals.length c3] 26)) (.cells #[.slice s1 b.consts.length d1, .slice s2 b.procs.length d2, .slice s3 b.globals.length d3] 26)
    rwa [World.size_alloc] at this
  have HS : Hid (((w.alloc (.cells #[.slice r1 a.consts.length c1, .slice r2 a.procs.length c2, .slice r3 a.globals.length c3] 26)).alloc (.cells #[.slice s1 b.consts.length d1, .slice s2 b.procs.length d2, .slice s3 b.globals.length d3] 26)).heap.size = w.heap.size + 2) := by show _ = _; rw [World.size_alloc, World.size_alloc]
  have H1 : Hid (∀ w5 : World, Below w.heap.size w w5 → Calls Tryz.prog 43 #[.slice r1 a.consts.length c1, .slice s1 b.consts.length d1] w5 fun e w' => e = .returned (.bool (decide (a.consts = b.consts))) ∧ Below w5.heap.size w5 w') := fun w5 h5 => sameW_any _ _ _ _ _ _ w5 hl1.1 hl2.1 (hw1.below h5) (hw2.below h5)
  have H3 : Hid (∀ w5 : World, Below w.heap.size w w5 → Calls Tryz.prog 45 #[.slice r3 a.globals.length c3, .slice s3 b.globals.length d3] w5 fun e w' => e = .returned (.bool (decide (a.globals = b.globals))) ∧ Below w5.heap.size w5 w') := fun w5 h5 => sameX_any _ _ _ _ _ _ w5 hl1.2.2 hl2.2.2 (hx1.below h5) (hx2.below h5)
  have H2 : Hid (∀ w5 : World, Below w.heap.size w w5 → Calls Tryz.prog 44 #[.slice r2 a.procs.length c2, .slice s2 b.procs.length d2] w5 fun e w' => e = .returned (.bool (samePs a.procs b.procs)) ∧ Below w5.heap.size w5 w') := fun w5 h5 => sameP_any _ _ _ _ _ _ w5 hl1.2.1 (hp1.below h5) (hp2.below h5)
  clear hal hw1 hp1 hx1 hw2 hp2 hx2 hl1 hl2
  go_enter Tryz.func16, Tryz.ntmps16
  go_wp2_with fail
  refine (H1.out _ HB.out).mono ?_
  rintro e w1 ⟨rfl, hb1⟩
  have HB1 : Hid (Below w.heap.size w w1) := HB.out.trans (hb1.mono HB.out.size)
  have HS1 : Hid (w.heap.size + 2 ≤ w1.heap.size) := by show _ ≤ _; rw [← HS.out]; exact hb1.size
  have e0 := (hb1.block w.heap.size (by rw [HS.out]; omega)).trans HQ0.out
  have e1 := (hb1.block (w.heap.size + 1) (by rw [HS.out]; omega)).trans HQ1.out
  have HE0 : Hid (w1.heap[w.heap.size]? = some (.cells #[.slice r1 a.consts.length c1, .slice r2 a.procs.length c2, .slice r3 a.globals.length c3] 26 (0, 0))) := e0
  have HE1 : Hid (w1.heap[w.heap.size + 1]? = some (.cells #[.slice s1 b.consts.length d1, .slice s2 b.procs.length d2, .slice s3 b.globals.length d3] 26 (0, 0))) := e1
  clear e0 e1 hb1
  cases h1 : decide (a.consts = b.consts)
  · have HV : Hid (sameC a b = false) := by show _ = _; unfold sameC; rw [h1]; rfl
    clear h1
    go_wp2
    go_ret
    exact ⟨by rw [HV.out]; rfl, HB1.out⟩
  have HV : Hid (sameC a b = (samePs a.procs b.procs && decide (a.globals = b.globals))) := by show _ = _; unfold sameC; rw [h1, Bool.true_and, Bool.and_comm]
  clear h1
  have u2 : w1.cell? ⟨w.heap.size, 1, none⟩ = some (.slice r2 a.procs.length c2) := by simp [World.cell?, HE0.out]
  have v2 : w1.cell? ⟨w.heap.size + 1, 1, none⟩ = some (.slice s2 b.procs.length d2) := by simp [World.cell?, HE1.out]
  go_wp2_with fail
  refine (H2.out _ HB1.out).mono ?_
  rintro e w2 ⟨rfl, hb2⟩
  have HB2 : Hid (Below w.heap.size w w2) := HB1.out.trans (hb2.mono HB1.out.size)
  have e0 := (hb2.block w.heap.size (by have := HS1.out; omega)).trans HE0.out
  have e1 := (hb2.block (w.heap.size + 1) (by have := HS1.out; omega)).trans HE1.out
  have u1 : w2.cell? ⟨w.heap.size, 2, none⟩ = some (.slice r3 a.globals.length c3) := by simp [World.cell?, e0]
  have v1 : w2.cell? ⟨w.heap.size + 1, 2, none⟩ = some (.slice s3 b.globals.length d3) := by simp [World.cell?, e1]
  clear e0 e1 hb2 u2 v2
  cases h2 : samePs a.procs b.procs
  · have HV2 : Hid (sameC a b = false) := by show _ = _; rw [HV.out, h2]; rfl
    clear h2
    go_wp2
    go_ret
    exact ⟨by rw [HV2.out]; rfl, HB2.out⟩
  have HV2 : Hid (sameC a b = decide (a.globals = b.globals)) := by show _ = _; rw [HV.out, h2]; rfl
  clear h2
  go_wp2_with fail
  refine (H3.out _ HB2.out).mono ?_
  rintro e w3 ⟨rfl, hb3⟩
  have HB3 : Hid (Below w.heap.size w w3) := HB2.out.trans (hb3.mono HB2.out.size)
  clear hb3 u1 v1
  go_wp2
  go_ret
  exact ⟨by rw [HV2.out]; rfl, HB3.out⟩
end Go.Proofs.YtpkohocjgnodnaaGreatDoor
