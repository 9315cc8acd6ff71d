/- leastAhead: who is ahead of whom on the least shortest ways. -/
import Derived.Test.YtdcmkifljcdmmaaGreatDoorHGSort1
import Derived.Test.YtdcmkifljcdmmaaGreatDoorGG
namespace Go.Proofs.YtdcmkifljcdmmaaGreatDoor
open Go.RowKit

theorem wr_own {w : World} {B : Nat} {ra : Option Addr} {n c : Nat} {l : List Int} (h : w.ownsRow B 53 1 (.slice ra n c) n (encU l)) (hl : l.length = n) (hR : ∀ x ∈ l, Rng x) : WR w ra l := by
  rcases h.2 with ⟨h0, h1⟩ | ⟨g, cap, cur, hv, _⟩
  · exact ⟨0, 0, .inl (by omega), fun j x hx => by
      have := (List.getElem?_eq_some_iff.1 hx).1
      omega⟩
  · cases hv
    refine ⟨g, 0, .inr rfl, fun j x hx => ⟨(h.lt g rfl).2, ?_, hR x (List.mem_of_getElem? hx)⟩⟩
    have := h.cells rfl j (.int .u64 x) (by rw [List.getElem?_map, hx]; rfl)
    rwa [ad_add] at this
theorem heapB_same {h : List Cl} {l sl : List Int} (hm : ∀ x, x ∈ sl ↔ x ∈ l) (hh : heapB h l = true) : heapB h sl = true := by
  unfold heapB at hh ⊢
  rw [Bool.and_eq_true] at hh ⊢
  exact ⟨hh.1, List.all_eq_true.2 (fun x hx => List.all_eq_true.1 hh.2 x ((hm x).1 hx))⟩
theorem wr_rng {w : World} {rb : Option Addr} {l : List Int} (h : WR w rb l) : ∀ x ∈ l, Rng x := fun x hx => by
  obtain ⟨j, hj⟩ := List.getElem?_of_mem hx
  obtain ⟨b, o, _, h2⟩ := h
  exact (h2 j x hj).2.2
theorem own_fr {w w' : World} {B e size n : Nat} {v : Value} {xs : List Value} {A : Nat → Prop} (h : w.ownsRow B e size v n xs) (hA : ∀ g, v.ownBlock = some g → A g) (hf : Fr A w w') : w'.ownsRow B e size v n xs :=
  own_same h (fun g hg => hf.2 g (hA g hg) (h.lt g hg).2)
set_option maxRecDepth 100000 in
set_option maxHeartbeats 8000000 in
theorem leastAhead_any (h : List Cl) (l sl : List Int) (ra rb : Option Addr) (ca cb : Nat) (w : World) (hS : SortOk l sl) (hMu : MulOk Tryz.prog 84) (hH : HR w ra h) (hR : WR w rb l) (hT : Tab w) (hok : heapB h l = true) (hn : h.length ≤ 1000000) (hl : l.length ≤ 1000000) :
    Calls Tryz.prog 54 #[.slice ra h.length ca, .slice rb l.length cb] w fun e w' => (∃ g, w.heap.size ≤ g ∧ e = .returned (.slice (some ⟨g, 0, none⟩) h.length h.length) ∧ DR w' 3 g h.length (fun k u => u = .int .i64 (aheadM (walkM h true sl) k))) ∧ Below w.heap.size w w' := by
  have HH : Hid (HR w ra h ∧ WR w rb l ∧ Tab w ∧ SortOk l sl ∧ heapB h l = true) := ⟨hH, hR, hT, hS, hok⟩
  have a1 : Below w.heap.size w (w.alloc (.cells #[.int .i64 (-2)] 3)) := (Below.refl _ w).alloc (Nat.le_refl _) _
  have s1 : (w.alloc (.cells #[.int .i64 (-2)] 3)).heap.size = w.heap.size + 1 := World.size_alloc ..
  have HRp : Hid (Calls Tryz.prog 73 #[.slice (some ⟨w.heap.size, 0, none⟩) 1 1, .int .i64 h.length] (w.alloc (.cells #[.int .i64 (-2)] 3)) fun e w' => (∃ g, (w.alloc (.cells #[.int .i64 (-2)] 3)).heap.size ≤ g ∧ e = .returned (.slice (some ⟨g, 0, none⟩) h.length h.length) ∧ DR w' 3 g h.length (fun _ u => u = .int .i64 (-2))) ∧ Below (w.alloc (.cells #[.int .i64 (-2)] 3)).heap.size (w.alloc (.cells #[.int .i64 (-2)] 3)) w') := repeat_any (-2) h.length w.heap.size _ hMu (by rw [s1]; omega) (new_cell _ _ _ 0 _ rfl) hn
  have HA1 : Hid (Below w.heap.size w (w.alloc (.cells #[.int .i64 (-2)] 3))) := a1
  clear hH hR hT hS hok hMu a1
  go_enter Tryz.func54, Tryz.ntmps54
  go_wp2_with fail
  refine Calls.mono HRp.out ?_
  rintro e w1 ⟨⟨g, hg, rfl, hd⟩, hb1⟩
  rw [s1] at hg hb1
  have HB1 : Hid (Below w.heap.size w w1) := HA1.out.trans (hb1.mono (by omega))
  have z1 := HB1.out.size
  have HD1 : Hid (DR w1 3 g h.length (fun _ u => u = .int .i64 (-2))) := hd
  have lg := hd.lt
  clear hd hb1 HRp HA1 s1
  have HV2 : Hid ((w1.alloc (.cells #[.slice (some ⟨g, 0, none⟩) h.length h.length] 59)).heap[w1.heap.size]? = some (.cells #[.slice (some ⟨g, 0, none⟩) h.length h.length] 59 (0, 0))) := heap_alloc_new _ _
  have HA2 : Hid (Below w1.heap.size w1 (w1.alloc (.cells #[.slice (some ⟨g, 0, none⟩) h.length h.length] 59))) := (Below.refl _ w1).alloc (Nat.le_refl _) _
  have HW2 : Hid (Below w.heap.size w (w1.alloc (.cells #[.slice (some ⟨g, 0, none⟩) h.length h.length] 59))) := HB1.out.trans (HA2.out.mono z1)
  have HZ : Hid ((w1.alloc (.cells #[.slice (some ⟨g, 0, none⟩) h.length h.length] 59)).heap.size = w1.heap.size + 1) := World.size_alloc ..
  go_wp2_with fail
  generalize w1.alloc (.cells #[.slice (some ⟨g, 0, none⟩) h.length h.length] 59) = W2 at *
  refine Calls.mono (values_any rb l.length cb W2) ?_
  rintro e w3 ⟨rfl, hw3⟩
  have a3 : Below W2.heap.size W2 w3 := by rw [hw3]; exact (Below.refl _ W2).alloc (Nat.le_refl _) _
  have b3 : w3.heap[W2.heap.size]? = some (.cells #[.slice rb l.length cb] 23 (0, 0)) := by rw [hw3]; exact heap_alloc_new _ _
  have W3 : Below w.heap.size w w3 := HW2.out.trans (a3.mono HW2.out.size)
  have HSo : Hid (Calls Tryz.prog 74 #[.func (.func 87) #[] #[.pointer (some ⟨W2.heap.size, 0, none⟩)]] w3 fun e w' => Below w3.heap.size w3 w' ∧
      ∃ v, e = .returned v ∧ w'.ownsRow w3.heap.size 53 1 v l.length (encU sl)) := sorted_any _ cb rb l sl hl HH.out.2.2.2.1 w3 (HH.out.2.1.below W3) b3
  have HA3 : Hid (Below W2.heap.size W2 w3) := a3
  clear a3 b3 W3 hw3
  go_wp2_with fail
  refine Calls.mono HSo.out ?_
  rintro e w4 ⟨hb4, v, rfl, ho4⟩
  obtain ⟨rs, cs, rfl⟩ := own_sl ho4
  obtain ⟨hH, hR, hT, hS, hok⟩ := HH.out
  have z2 := HZ.out
  have z3 := HA3.out.size
  have z4 := hb4.size
  have b24 : Below W2.heap.size W2 w4 := HA3.out.trans (hb4.mono z3)
  have b04 : Below w.heap.size w w4 := HW2.out.trans (b24.mono HW2.out.size)
  have hv4 : w4.heap[w1.heap.size]? = some (.cells #[.slice (some ⟨g, 0, none⟩) h.length h.length] 59 (0, 0)) := (b24.block _ (by omega)).trans HV2.out
  have hd4 : DR w4 3 g h.length (fun _ u => u = .int .i64 (-2)) := HD1.out.kept ((b24.block _ (by omega)).trans (HA2.out.block _ lg))
  have nb : ∀ k, (Value.slice rs l.length cs).ownBlock = some k → w3.heap.size ≤ k := fun k hk => (ho4.lt k hk).1
  have hI4 : IA h.length w1.heap.size g [] w4 (fun k => k < w.heap.size ∨ (Value.slice rs l.length cs).ownBlock = some k) := ⟨hv4, hd4.mono (fun k u _ hu => by rw [hu]; rfl), fun hk => by
    rcases hk with hk | hk
    · omega
    · have := nb _ hk; omega, fun hk => by
    rcases hk with hk | hk
    · omega
    · have := nb _ hk; omega, by omega⟩
  have hlen := hS.len
  have hK : ∀ wr, Fr (fun k => k < w.heap.size ∨ (Value.slice rs l.length cs).ownBlock = some k) w4 wr → HR wr ra h ∧ WR wr rs sl ∧ Tab wr := fun wr hf => by
    have hb : Below w.heap.size w wr := b04.trans (Fr.below (B := w.heap.size) ⟨hf.1, fun k hk hl => hf.2 k (.inl hk) hl⟩ b04.size)
    exact ⟨hH.below hb, wr_own (own_fr ho4 (fun k hk => .inr hk) hf) hlen (fun x hx => wr_rng hR x ((hS.mem x).1 hx)), hT.below hb⟩
  have HWk := walk_gen (s := true) h sl ra rs ca cs w4 (ahead_ok h.length w1.heap.size g) leastFirst_ok hI4 (fun k hk => by
    rcases hk with hk | hk
    · exact Nat.lt_of_lt_of_le hk b04.size
    · exact (ho4.lt k hk).2) hK (heapB_same hS.mem hok) hn (by omega)
  rw [hlen] at HWk
  have HWh : Hid _ := HWk
  have HB4 : Hid (Below w.heap.size w w4) := b04
  clear z2 z3 z4 HWk hK hI4 nb hd4 hv4 b04 b24 hb4 ho4 hS hH hR hT hok HH HSo
  go_wp2_with fail
  refine Calls.mono HWh.out ?_
  rintro e w5 ⟨rfl, ⟨g1, g2, _, _, _⟩, hf5⟩
  have v0 : w5.cell? ⟨w1.heap.size, 0, none⟩ = some (.slice (some ⟨g, 0, none⟩) h.length h.length) := heap_cell g1 rfl
  have HD5 : Hid (DR w5 3 g h.length (fun k u => u = .int .i64 (aheadM (walkM h true sl) k))) := g2
  have HB5 : Hid (Below w.heap.size w w5) := HB4.out.trans (Fr.below (B := w.heap.size) ⟨hf5.1, fun k hk hl => hf5.2 k (.inl hk) hl⟩ HB4.out.size)
  clear g1 g2 hf5 HWh
  go_wp2
  go_ret
  exact ⟨⟨g, by omega, rfl, HD5.out⟩, HB5.out⟩
end Go.Proofs.YtdcmkifljcdmmaaGreatDoor
