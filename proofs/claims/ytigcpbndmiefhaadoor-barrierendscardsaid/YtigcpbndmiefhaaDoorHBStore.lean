/- Store, Fill. -/
import Derived.Test.YtigcpbndmiefhaaDoorHBShaded
namespace Go.Proofs.YtigcpbndmiefhaaDoor
open Go.RowKit

def storeM (p : Int) (sc : Bool) (a b : Int) (h : List Cl) : List Int := if onB p then (if sc then shM h [a] else shM h [a, b]) else []
def fillM (p : Int) (sc : Bool) (a b : Int) (h : List Cl) : List Int := if onB p && !sc then shM h [a, b] else []
theorem wr_one {w : World} {g : Nat} {a : Int} (h : w.heap[g]? = some (.cells #[.int .u64 a] 24 (0, 0))) (ha : Rng a) : WR w (some ⟨g, 0, none⟩) [a] := by
  refine ⟨g, 0, .inr rfl, fun j x hx => ?_⟩
  match j, hx with
  | 0, hx => cases hx; exact ⟨heap_lt h, heap_cell h rfl, ha⟩
  | j + 1, hx => simp at hx
theorem wr_two {w : World} {g : Nat} {a b : Int} (h : w.heap[g]? = some (.cells #[.int .u64 a, .int .u64 b] 24 (0, 0))) (ha : Rng a) (hb : Rng b) : WR w (some ⟨g, 0, none⟩) [a, b] := by
  refine ⟨g, 0, .inr rfl, fun j x hx => ?_⟩
  match j, hx with
  | 0, hx => cases hx; exact ⟨heap_lt h, heap_cell h rfl, ha⟩
  | 1, hx => cases hx; exact ⟨heap_lt h, heap_cell h rfl, hb⟩
  | j + 2, hx => simp at hx
theorem OutI.from {l : List Int} {e : Ending} {w w1 w' : World} (h : OutI l e w1 w') (hb : Below w.heap.size w w1) : OutI l e w w' := by
  obtain ⟨⟨v', rfl, ho⟩, hb1⟩ := h
  refine ⟨⟨v', rfl, ho.1, ?_⟩, hb.trans (hb1.mono hb.size)⟩
  rcases ho.2 with h' | ⟨g, cap, cur, hv, hbb, r⟩
  · exact .inl h'
  · exact .inr ⟨g, cap, cur, hv, Nat.le_trans hb.size hbb, r⟩
set_option maxRecDepth 100000 in
set_option maxHeartbeats 8000000 in
theorem store_any (p : Int) (sc : Bool) (a b : Int) (h : List Cl) (ra : Option Addr) (ca : Nat) (w : World) (hl : h.length ≤ 281474976710656) (hH : HR w ra h) (ha : Rng a) (hb : Rng b) (hT : Tab w) :
    Calls Tryd.prog 11 #[.int .u8 p, .bool sc, .int .u64 a, .int .u64 b, .slice ra h.length ca] w fun e w' => OutI (storeM p sc a b h) e w w' := by
  have HO : Hid _ := isOn_any p w
  have b1 := (Below.refl _ w).alloc (Nat.le_refl w.heap.size) (.cells #[.int .u64 a] 24)
  have b2 := (Below.refl _ w).alloc (Nat.le_refl w.heap.size) (.cells #[.int .u64 a, .int .u64 b] 24)
  have H1 : Hid (Calls Tryd.prog 36 #[.slice ra h.length ca, .slice (some ⟨w.heap.size, 0, none⟩) 1 1] (w.alloc (.cells #[.int .u64 a] 24)) fun e w' => OutI (shM h [a]) e w w') := (shaded_any h [a] ra _ ca 1 _ hl (by simp) (hH.below b1) (wr_one (heap_alloc_new _ _) ha) (hT.below b1)).mono fun e w' hh => hh.from b1
  have H2 : Hid (Calls Tryd.prog 36 #[.slice ra h.length ca, .slice (some ⟨w.heap.size, 0, none⟩) 2 2] (w.alloc (.cells #[.int .u64 a, .int .u64 b] 24)) fun e w' => OutI (shM h [a, b]) e w w') := (shaded_any h [a, b] ra _ ca 2 _ hl (by simp) (hH.below b2) (wr_two (heap_alloc_new _ _) ha hb) (hT.below b2)).mono fun e w' hh => hh.from b2
  have HZ : Hid (OutI [] (.returned (.slice none 0 0)) w w) := ⟨⟨_, rfl, World.ownsRow_nil _ _ _ _⟩, Below.refl _ _⟩
  clear hH hT ha hb b1 b2
  unfold storeM
  cases ho : onB p
  · rw [ho] at HO
    go_enter Tryd.func11, Tryd.ntmps11
    go_wp2_with fail
    refine Calls.mono HO.out ?_
    rintro e w1 ⟨rfl, hw1⟩
    rw [hw1]
    clear hw1 HO
    go_wp2
    go_ret
    exact HZ.out
  · rw [ho] at HO
    cases sc
    · go_enter Tryd.func11, Tryd.ntmps11
      go_wp2_with fail
      refine Calls.mono HO.out ?_
      rintro e w1 ⟨rfl, hw1⟩
      rw [hw1]
      clear hw1 HO
      go_wp2_with fail
      refine Calls.mono H2.out ?_
      rintro e w2 hh
      obtain ⟨⟨v, rfl, _⟩, _⟩ := id hh
      have HX : Hid (OutI (shM h [a, b]) (.returned v) w w2) := hh
      clear hh H1 H2
      go_wp2
      go_ret
      exact HX.out
    · go_enter Tryd.func11, Tryd.ntmps11
      go_wp2_with fail
      refine Calls.mono HO.out ?_
      rintro e w1 ⟨rfl, hw1⟩
      rw [hw1]
      clear hw1 HO
      go_wp2_with fail
      refine Calls.mono H1.out ?_
      rintro e w2 hh
      obtain ⟨⟨v, rfl, _⟩, _⟩ := id hh
      have HX : Hid (OutI (shM h [a]) (.returned v) w w2) := hh
      clear hh H1 H2
      go_wp2
      go_ret
      exact HX.out
set_option maxRecDepth 100000 in
set_option maxHeartbeats 8000000 in
theorem fill_any (p : Int) (sc : Bool) (a b : Int) (h : List Cl) (ra : Option Addr) (ca : Nat) (w : World) (hl : h.length ≤ 281474976710656) (hH : HR w ra h) (ha : Rng a) (hb : Rng b) (hT : Tab w) :
    Calls Tryd.prog 12 #[.int .u8 p, .bool sc, .int .u64 a, .int .u64 b, .slice ra h.length ca] w fun e w' => OutI (fillM p sc a b h) e w w' := by
  have HO : Hid _ := isOn_any p w
  have b2 := (Below.refl _ w).alloc (Nat.le_refl w.heap.size) (.cells #[.int .u64 a, .int .u64 b] 24)
  have H2 : Hid (Calls Tryd.prog 36 #[.slice ra h.length ca, .slice (some ⟨w.heap.size, 0, none⟩) 2 2] (w.alloc (.cells #[.int .u64 a, .int .u64 b] 24)) fun e w' => OutI (shM h [a, b]) e w w') := (shaded_any h [a, b] ra _ ca 2 _ hl (by simp) (hH.below b2) (wr_two (heap_alloc_new _ _) ha hb) (hT.below b2)).mono fun e w' hh => hh.from b2
  have HZ : Hid (OutI [] (.returned (.slice none 0 0)) w w) := ⟨⟨_, rfl, World.ownsRow_nil _ _ _ _⟩, Below.refl _ _⟩
  clear hH hT ha hb b2
  unfold fillM
  cases ho : onB p
  · rw [ho] at HO
    go_enter Tryd.func12, Tryd.ntmps12
    go_wp2_with fail
    refine Calls.mono HO.out ?_
    rintro e w1 ⟨rfl, hw1⟩
    rw [hw1]
    clear hw1 HO
    go_wp2
    go_ret
    exact HZ.out
  · rw [ho] at HO
    cases sc
    · go_enter Tryd.func12, Tryd.ntmps12
      go_wp2_with fail
      refine Calls.mono HO.out ?_
      rintro e w1 ⟨rfl, hw1⟩
      rw [hw1]
      clear hw1 HO
      go_wp2_with fail
      refine Calls.mono H2.out ?_
      rintro e w2 hh
      obtain ⟨⟨v, rfl, _⟩, _⟩ := id hh
      have HX : Hid (OutI (shM h [a, b]) (.returned v) w w2) := hh
      clear hh H2
      go_wp2
      go_ret
      exact HX.out
    · go_enter Tryd.func12, Tryd.ntmps12
      go_wp2_with fail
      refine Calls.mono HO.out ?_
      rintro e w1 ⟨rfl, hw1⟩
      rw [hw1]
      clear hw1 HO
      go_wp2
      go_ret
      exact HZ.out
end Go.Proofs.YtigcpbndmiefhaaDoor
