/- Reach and Order. -/
import Derived.Test.YtdcmkifljcdmmaaGreatDoorHGWalk
namespace Go.Proofs.YtdcmkifljcdmmaaGreatDoor
open Go.RowKit

/-- What Reach keeps of the cells that are met. -/
def IR (n vb g : Nat) (r : St) (w : World) (A : Nat → Prop) : Prop :=
  w.heap[vb]? = some (.cells #[.slice (some ⟨g, 0, none⟩) n n] 70 (0, 0)) ∧ DR w 4 g n (fun k u => u = .bool (metB r k)) ∧ ¬ A vb ∧ ¬ A g ∧ vb ≠ g
set_option maxRecDepth 100000 in
set_option maxHeartbeats 4000000 in
theorem reach1_any {n vb g : Nat} (r : St) (c : Nat) (q : Int) (w : World) (A : Nat → Prop) (hI : IR n vb g r w A) (hc : c < n) :
    Calls Tryz.prog 63 #[.int .i64 c, .int .i64 q, .pointer (some ⟨vb, 0, none⟩)] w fun e w' => e = .returned (.tuple #[]) ∧ IR n vb g (r ++ [(c, q)]) w' A ∧ Fr A w w' := by
  obtain ⟨h1, h2, h3, h4, h5⟩ := hI
  have v0 : w.cell? ⟨vb, 0, none⟩ = some (.slice (some ⟨g, 0, none⟩) n n) := heap_cell h1 rfl
  have lv := heap_lt h1
  have lg := h2.lt
  obtain ⟨u, hu, _⟩ := h2.cell hc
  have hfz := h2.fz c
  have i1 : (c : Int) < (n : Int) := by omega
  have HE : Hid (IR n vb g (r ++ [(c, q)]) (w.setCell ⟨g, c, none⟩ (.bool true)) A ∧ Fr A w (w.setCell ⟨g, c, none⟩ (.bool true))) := by
    refine ⟨⟨(Below.heap_setCell _ _ _ _ h5).trans h1, h2.set (fun k u hk hh => ?_) ?_, h3, h4, h5⟩, (Below.refl 0 w).setCell (p := ⟨g, c, none⟩) (Nat.zero_le _) _, fun k hk _ => Below.heap_setCell _ _ _ _ (fun e => h4 (by have e2 : k = g := e; rw [← e2]; exact hk))⟩
    · rw [hh, metB_snoc, show (c == k) = false by simpa using fun e => hk e.symm, Bool.or_false]
    · rw [metB_snoc]; simp
  clear h1 h2 h3 h4 h5 hc
  go_enter Tryz.func63, Tryz.ntmps63
  go_wp2
  go_end0
  exact ⟨rfl, HE.out.1, HE.out.2⟩
theorem reach_ok (n vb g : Nat) : MeetOk n 63 vb (IR n vb g) where
  enter := fun args w => by go_simp
  call := fun r c q w A hI hc _ _ => reach1_any r c q w A hI hc
  stab := fun r w w' A A' ⟨h1, h2, h3, h4, h5⟩ hs hk hA _ => by
    have lv := heap_lt h1
    have lg := h2.lt
    exact ⟨(hk _ lv h3).trans h1, h2.kept (hk _ lg h4), fun h => by rcases hA _ h with h | h; exact h3 h; omega, fun h => by rcases hA _ h with h | h; exact h4 h; omega, h5⟩
/-- What Reach tells. -/
def ReachR (h : List Cl) (l : List Int) (B : Nat) (e : Ending) (w' : World) : Prop :=
  (heapB h l = false ∧ e = .returned (.tuple #[.slice none 0 0, .int .i64 100])) ∨ (heapB h l = true ∧ ∃ g, B ≤ g ∧ e = .returned (.tuple #[.slice (some ⟨g, 0, none⟩) h.length h.length, .int .i64 0]) ∧ DR w' 4 g h.length (fun k u => u = .bool (metB (walkM h false l) k)))
set_option maxRecDepth 100000 in
set_option maxHeartbeats 8000000 in
theorem reach_any (h : List Cl) (l : List Int) (ra rb : Option Addr) (ca cb : Nat) (w : World) (hH : HR w ra h) (hR : WR w rb l) (hT : Tab w) (hn : h.length ≤ 1000000) (hl : l.length ≤ 1000000) :
    Calls Tryz.prog 21 #[.slice ra h.length ca, .slice rb l.length cb] w fun e w' => ReachR h l w.heap.size e w' ∧ Below w.heap.size w w' := by
  have HIs : Hid (Calls Tryz.prog 53 #[.slice ra h.length ca, .slice rb l.length cb] w fun e w' => e = .returned (.bool (heapB h l)) ∧ Below w.heap.size w w') := isHeap_any h l ra rb ca cb w hH hR (by omega) (by omega) hT
  have HH : Hid (HR w ra h ∧ WR w rb l ∧ Tab w) := ⟨hH, hR, hT⟩
  obtain ⟨i0, hi0, hz0, hz1, hz2⟩ := info_parts infoB
  clear hH hR hT
  cases hok : heapB h l
  · rw [hok] at HIs
    have Hk : Hid (heapB h l = false) := hok
    clear hok
    go_enter Tryz.func21, Tryz.ntmps21
    go_wp2_with fail
    refine Calls.mono HIs.out ?_
    rintro e w1 ⟨rfl, hb1⟩
    have HB1 : Hid (Below w.heap.size w w1) := hb1
    clear hb1
    go_wp2
    go_ret2
    exact ⟨.inl ⟨Hk.out, rfl⟩, HB1.out⟩
  · rw [hok] at HIs
    have Hk : Hid (heapB h l = true) := hok
    clear hok
    go_enter Tryz.func21, Tryz.ntmps21
    go_wp2_with fail
    refine Calls.mono HIs.out ?_
    rintro e w1 ⟨rfl, hb1⟩
    have HB1 : Hid (Below w.heap.size w w1) := hb1
    have s1 := hb1.size
    clear hb1 HIs
    go_wp2_with (at_make; refine stop_of ?_)
    unfold Hid
    refine wpList_make_full _ rfl _ _ 70 rfl w1.heap.size 4 i0 (.bool false) 1 Tryz.underlying70 hi0 hz0 hz1 .i64 .i64 _ _ h.length rfl rfl rfl rfl (by rw [hz2]; omega) (by unfold maxLen; omega) (Nat.le_refl _) ?_
    intro w2 hown hgr
    have hd2 := dr_made hown (made_false _)
    have hb2 : Below w1.heap.size w1 w2 := grown_low hgr (fun g hg => by cases hg) (Nat.le_refl _)
    have ld2 := hd2.lt
    have a3 : Below w2.heap.size w2 (w2.alloc (.cells #[.slice (some ⟨w1.heap.size, 0, none⟩) h.length h.length] 70)) := (Below.refl _ w2).alloc (Nat.le_refl _) _
    have b3 : Below w.heap.size w (w2.alloc (.cells #[.slice (some ⟨w1.heap.size, 0, none⟩) h.length h.length] 70)) := HB1.out.trans ((hb2.mono s1).trans (a3.mono (by omega)))
    have hi3 : IR h.length w2.heap.size w1.heap.size [] (w2.alloc (.cells #[.slice (some ⟨w1.heap.size, 0, none⟩) h.length h.length] 70)) (fun g => g < w.heap.size) := ⟨heap_alloc_new _ _, (hd2.mono (fun k u _ hu => by rw [hu]; rfl)).kept (a3.block _ ld2), by omega, by omega, by omega⟩
    have HWk : Hid (Calls Tryz.prog 61 #[.slice ra h.length ca, .slice rb l.length cb, .func (.func 62) #[] #[], .func (.func 63) #[] #[.pointer (some ⟨w2.heap.size, 0, none⟩)]] (w2.alloc (.cells #[.slice (some ⟨w1.heap.size, 0, none⟩) h.length h.length] 70)) fun e w' => e = .returned (.tuple #[]) ∧ IR h.length w2.heap.size w1.heap.size (walkM h false l) w' (fun g => g < w.heap.size) ∧ Below w.heap.size (w2.alloc (.cells #[.slice (some ⟨w1.heap.size, 0, none⟩) h.length h.length] 70)) w') := walk_any h l ra rb ca cb w _ (reach_ok _ _ _) asLaid_ok hi3 rfl b3 HH.out.1 HH.out.2.1 HH.out.2.2 Hk.out hn hl
    have HB3 : Hid (Below w.heap.size w (w2.alloc (.cells #[.slice (some ⟨w1.heap.size, 0, none⟩) h.length h.length] 70))) := b3
    have lw := heap_alloc_new w2 (.cells #[.slice (some ⟨w1.heap.size, 0, none⟩) h.length h.length] 70)
    clear hown hgr hd2 hb2 a3 b3 hi3 lw
    go_wp2_with fail
    refine Calls.mono HWk.out ?_
    rintro e w4 ⟨rfl, ⟨g1, g2, _, _, _⟩, hb4⟩
    have v0 : w4.cell? ⟨w2.heap.size, 0, none⟩ = some (.slice (some ⟨w1.heap.size, 0, none⟩) h.length h.length) := heap_cell g1 rfl
    have HR : Hid (DR w4 4 w1.heap.size h.length (fun k u => u = .bool (metB (walkM h false l) k))) := g2
    have HBe : Hid (Below w.heap.size w w4) := HB3.out.trans hb4
    clear g1 g2 hb4 HWk
    go_wp2
    go_ret2
    exact ⟨.inr ⟨Hk.out, w1.heap.size, s1, rfl, HR.out⟩, HBe.out⟩
end Go.Proofs.YtdcmkifljcdmmaaGreatDoor
