/- The document's Store, Fill. -/
import Derived.Test.YtigcpbndmiefhaaDoorHBRefShade
namespace Go.Proofs.YtigcpbndmiefhaaDoor
open Go.RowKit

set_option maxRecDepth 100000 in
set_option maxHeartbeats 8000000 in
theorem refFill_any (p : Int) (sc : Bool) (a b : Int) (h : List Cl) (ra : Option Addr) (ca : Nat) (w : World) (hl : h.length ≤ 281474976710656) (hH : HR w ra h) (ha : Rng a) (hb : Rng b) :
    Calls Tryd.prog 15 #[.int .u8 p, .bool sc, .int .u64 a, .int .u64 b, .slice ra h.length ca] w fun e w' => OutI (fillM p sc a b h) e w w' := by
  have HO : Hid _ := refOn_any p w
  have b2 := (Below.refl _ w).alloc (Nat.le_refl w.heap.size) (.cells #[.int .u64 a, .int .u64 b] 24)
  have H2 : Hid (Calls Tryd.prog 38 #[.slice ra h.length ca, .slice (some ⟨w.heap.size, 0, none⟩) 2 2] (w.alloc (.cells #[.int .u64 a, .int .u64 b] 24)) fun e w' => OutI (shM h [a, b]) e w w') := (refShades_any h [a, b] ra _ ca 2 _ hl (by simp) (hH.below b2) (wr_two (heap_alloc_new _ _) ha hb)).mono fun e w' hh => hh.from b2
  have HZ : Hid (OutI [] (.returned (.slice none 0 0)) w w) := ⟨⟨_, rfl, World.ownsRow_nil _ _ _ _⟩, Below.refl _ _⟩
  clear hH ha hb b2
  unfold fillM
  cases ho : onB p
  · rw [ho] at HO
    go_enter Tryd.func15, Tryd.ntmps15
    go_wp2_with fail
    refine Calls.mono HO.out ?_
    rintro e w1 ⟨rfl, hw1⟩
    rw [hw1]
    clear hw1 HO
    go_wp2
    go_ret
    exact HZ.out
  · rw [ho] at HO
    cases sc
    · go_enter Tryd.func15, Tryd.ntmps15
      go_wp2_with fail
      refine Calls.mono HO.out ?_
      rintro e w1 ⟨rfl, hw1⟩
      rw [hw1]
      clear hw1 HO
      go_wp2_with fail
      refine Calls.mono H2.out ?_
      rintro e w2 hh
      obtain ⟨⟨v, rfl, _⟩, _⟩ := id hh
      have HX : Hid (OutI (shM h [a, b]) (.returned v) w w2) := hh
      clear hh H2
      go_wp2
      go_ret
      exact HX.out
    · go_enter Tryd.func15, Tryd.ntmps15
      go_wp2_with fail
      refine Calls.mono HO.out ?_
      rintro e w1 ⟨rfl, hw1⟩
      rw [hw1]
      clear hw1 HO
      go_wp2
      go_ret
      exact HZ.out
theorem infoWd : (Tryd.prog.info? 24).map (fun i => (i.zero, i.size, i.bytes)) = some (some (.int .u64 0), 1, 8) := by kernel_rfl
theorem own_wr {w : World} {base n : Nat} {ra : Option Addr} {c : Nat} {l : List Int} (h : w.ownsRow base 24 1 (.slice ra n c) n (l.map (Value.int .u64))) (hn : l.length = n) (hr : ∀ x ∈ l, Rng x) : WR w ra l := by
  rcases h.2 with ⟨_, h0⟩ | ⟨g, cap, cur, hv, _⟩
  · exact ⟨0, 0, .inl (by omega), fun j x hx => by have := (List.getElem?_eq_some_iff.1 hx).1; omega⟩
  · cases hv
    obtain ⟨cs, hc⟩ := own_blk h rfl
    exact ⟨g, 0, .inr rfl, fun j x hx => ⟨heap_lt hc, by rw [Nat.zero_add]; exact own_cell h (by rw [List.getElem?_map, hx]; rfl), hr x (List.mem_of_getElem? hx)⟩⟩
set_option maxRecDepth 100000 in
set_option maxHeartbeats 8000000 in
theorem refStore_any (p : Int) (sc : Bool) (a b : Int) (h : List Cl) (ra : Option Addr) (ca : Nat) (w : World) (hl : h.length ≤ 281474976710656) (hH : HR w ra h) (ha : Rng a) (hb : Rng b) :
    Calls Tryd.prog 14 #[.int .u8 p, .bool sc, .int .u64 a, .int .u64 b, .slice ra h.length ca] w fun e w' => OutI (storeM p sc a b h) e w w' := by
  have HO : Hid _ := refOn_any p w
  have b1 := (Below.refl _ w).alloc (Nat.le_refl w.heap.size) (.cells #[.int .u64 a] 24)
  have H1 : Hid (Calls Tryd.prog 38 #[.slice ra h.length ca, .slice (some ⟨w.heap.size, 0, none⟩) 1 1] (w.alloc (.cells #[.int .u64 a] 24)) fun e w' => OutI (shM h [a]) e w w') := (refShades_any h [a] ra _ ca 1 _ hl (by simp) (hH.below b1) (wr_one (heap_alloc_new _ _) ha)).mono fun e w' hh => hh.from b1
  have HZ : Hid (OutI [] (.returned (.slice none 0 0)) w w) := ⟨⟨_, rfl, World.ownsRow_nil _ _ _ _⟩, Below.refl _ _⟩
  unfold storeM
  cases ho : onB p
  · rw [ho] at HO
    clear hH ha hb b1
    go_enter Tryd.func14, Tryd.ntmps14
    go_wp2_with fail
    refine Calls.mono HO.out ?_
    rintro e w1 ⟨rfl, hw1⟩
    rw [hw1]
    clear hw1 HO
    go_wp2
    go_ret
    exact HZ.out
  · rw [ho] at HO
    cases sc
    · obtain ⟨i0, hi0, hz0, hz1, hz2⟩ := info_parts infoWd
      have n1 := heap_alloc_new w (.cells #[.int .u64 a] 24)
      have HOw : Hid ((w.alloc (.cells #[.int .u64 a] 24)).ownsRow w.heap.size 24 1 (.slice (some ⟨w.heap.size, 0, none⟩) 1 1) 1 [.int .u64 a]) := ⟨rfl, .inr ⟨w.heap.size, 1, #[.int .u64 a], rfl, Nat.le_refl _, n1, Nat.le_refl _, by decide, rfl, rfl⟩⟩
      have HB1 : Hid (Below w.heap.size w (w.alloc (.cells #[.int .u64 a] 24))) := b1
      have HHb : Hid (HR w ra h ∧ Rng a ∧ Rng b) := ⟨hH, ha, hb⟩
      clear hH ha hb b1 n1
      go_enter Tryd.func14, Tryd.ntmps14
      go_wp2_with fail
      refine Calls.mono HO.out ?_
      rintro e w1 ⟨rfl, hw1⟩
      rw [hw1]
      clear hw1 HO
      go_upto_region 6 with fail
      obtain ⟨W1, hW1⟩ : ∃ W1, W1 = w.alloc (.cells #[.int .u64 a] 24) := ⟨_, rfl⟩
      rw [← hW1] at HOw HB1 ⊢
      clear hW1 H1
      have sz := HB1.out.size
      go_wp2_with (at_builtin; refine stop_of ?_)
      unfold Hid
      refine wpList_append_lies _ rfl _ _ 62 rfl w.heap.size 24 i0 _ 1 8 Tryd.underlying62 hi0 hz0 hz1 hz2 rfl (by decide) (.slice (some ⟨w.heap.size, 0, none⟩) 1 1) 1 [.int .u64 a] rfl (World.ownsRow.alloc HOw.out _) ⟨W1.heap.size, 0, none⟩ 1 1 [.int .u64 b] rfl rfl (fun k u hu => ?_) (fun u hu => ?_) (by omega) (by unfold maxLen; omega) (by omega) (by rw [World.size_alloc]; omega) _ rfl ?_
      · rw [ad_add, Nat.zero_add]
        exact new_cell _ #[.int .u64 b] _ k u hu
      · simp at hu; subst hu; rfl
      intro g5 cp w5 hown hgr hat hl3
      have hmid : Below w.heap.size w (W1.alloc (.cells #[.int .u64 b] 24)) := HB1.out.alloc sz _
      have hb5 : Below w.heap.size w w5 := hmid.grown hgr hmid.size (fun k hk => (World.ownsRow.lt HOw.out k hk).1)
      have H2 : Hid (Calls Tryd.prog 38 #[.slice ra h.length ca, .slice (some ⟨g5, 0, none⟩) 2 cp] w5 fun e w' => OutI (shM h [a, b]) e w w') := (refShades_any h [a, b] ra _ ca cp w5 hl (by simp) (HHb.out.1.below hb5) (own_wr (l := [a, b]) hown rfl (fun x hx => by
        simp at hx
        rcases hx with rfl | rfl
        · exact HHb.out.2.1
        · exact HHb.out.2.2))).mono fun e w' hh => hh.from hb5
      clear hown hgr hat hmid hb5 HOw HB1 HHb hi0 hz0 hz1 hz2 HZ
      go_wp2_with fail
      refine Calls.mono H2.out ?_
      rintro e w2 hh
      obtain ⟨⟨v, rfl, _⟩, _⟩ := id hh
      have HX : Hid (OutI (shM h [a, b]) (.returned v) w w2) := hh
      clear hh H2
      go_wp2
      go_ret
      exact HX.out
    · clear hH ha hb b1
      go_enter Tryd.func14, Tryd.ntmps14
      go_wp2_with fail
      refine Calls.mono HO.out ?_
      rintro e w1 ⟨rfl, hw1⟩
      rw [hw1]
      clear hw1 HO
      go_wp2_with fail
      refine Calls.mono H1.out ?_
      rintro e w2 hh
      obtain ⟨⟨v, rfl, _⟩, _⟩ := id hh
      have HX : Hid (OutI (shM h [a]) (.returned v) w w2) := hh
      clear hh H1
      go_wp2
      go_ret
      exact HX.out
end Go.Proofs.YtigcpbndmiefhaaDoor
