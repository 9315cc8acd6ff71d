/- Order. -/
import Derived.Test.YtdcmkifljcdmmaaGreatDoorHGReach
namespace Go.Proofs.YtdcmkifljcdmmaaGreatDoor
open Go.RowKit

def IOr (vb : Nat) (r : St) (w : World) (A : Nat → Prop) : Prop :=
  ∃ rv cv, w.heap[vb]? = some (.cells #[.slice rv r.length cv] 59 (0, 0)) ∧ w.ownsRow (vb + 1) 3 1 (.slice rv r.length cv) r.length (r.map (fun p => .int .i64 p.1)) ∧ ¬ A vb ∧ (∀ g, (Value.slice rv r.length cv).ownBlock = some g → ¬ A g) ∧ ∀ g, A g → g < w.heap.size
set_option maxRecDepth 100000 in
set_option maxHeartbeats 4000000 in
theorem order1_any {n vb : Nat} (hn : n ≤ 1000000) (r : St) (c : Nat) (q : Int) (w : World) (A : Nat → Prop) (hI : IOr vb r w A) (hok : OkS n r) :
    Calls Tryz.prog 64 #[.int .i64 c, .int .i64 q, .pointer (some ⟨vb, 0, none⟩)] w fun e w' => e = .returned (.tuple #[]) ∧ IOr vb (r ++ [(c, q)]) w' A ∧ Fr A w w' := by
  obtain ⟨rv, cv, h1, h2, h3, h4, h5⟩ := hI
  obtain ⟨i0, hi0, hz0, hz1, hz2⟩ := info_parts infoI
  have hlen := hok.len
  have v0 : w.cell? ⟨vb, 0, none⟩ = some (.slice rv r.length cv) := heap_cell h1 rfl
  have lv := heap_lt h1
  have H1 : Hid (w.heap[vb]? = some (.cells #[.slice rv r.length cv] 59 (0, 0))) := h1
  have H2 : Hid (w.ownsRow (vb + 1) 3 1 (.slice rv r.length cv) r.length (r.map (fun p => .int .i64 p.1))) := h2
  have H4 : Hid (¬ A vb ∧ (∀ g, (Value.slice rv r.length cv).ownBlock = some g → ¬ A g) ∧ ∀ g, A g → g < w.heap.size) := ⟨h3, h4, h5⟩
  clear h1 h2 h3 h4 h5 hok
  go_enter Tryz.func64, Tryz.ntmps64
  go_wp2_with (at_builtin; refine stop_of ?_)
  unfold Hid
  refine wpList_append_lies _ rfl _ _ 59 rfl (vb + 1) 3 i0 (.int .i64 0) 1 8 Tryz.underlying59 hi0 hz0 hz1 hz2 rfl (by decide) (.slice rv r.length cv) r.length (r.map (fun p => .int .i64 p.1)) rfl (H2.out.alloc _) ⟨w.heap.size, 0, none⟩ 1 1 [.int .i64 c] rfl rfl (fun j u hu => ?_) (fun u hu => ?_) (by omega) (by unfold maxLen; omega) (by omega) (by rw [World.size_alloc]; omega) _ rfl ?_
  · rw [ad_add, Nat.zero_add]
    exact new_cell _ #[.int .i64 c] _ j u hu
  · simp at hu; subst hu; rfl
  intro g cap w2 hown hgr hat hlt2
  have hal : Below w.heap.size w (w.alloc (.cells #[.int .i64 (c : Int)] 3)) := (Below.refl _ w).alloc (Nat.le_refl _) _
  obtain ⟨h3, h4, h5⟩ := H4.out
  have nb : ∀ k, (Value.slice rv r.length cv).ownBlock = some k → vb + 1 ≤ k := fun k hk => (H2.out.lt k hk).1
  have k2 : ∀ k, k < w.heap.size → (Value.slice rv r.length cv).ownBlock ≠ some k → w2.heap[k]? = w.heap[k]? := fun k q1 q2 => (hgr.block k (by rw [World.size_alloc]; omega) (fun e => q2 e.symm)).trans (hal.block k q1)
  have hv2 : w2.heap[vb]? = some (.cells #[.slice rv r.length cv] 59 (0, 0)) := (k2 _ lv (fun e => by have := nb _ e; omega)).trans H1.out
  have b2 : Below 0 w w2 := (hal.mono (Nat.zero_le _)).trans (grown_low hgr (fun _ _ => Nat.zero_le _) (Nat.zero_le _))
  have hgA : ¬ A g := fun hA => by
    rcases hat with h' | h'
    · exact h4 g h' hA
    · have := h5 g hA; rw [World.size_alloc] at h'; omega
  have HE : Hid (IOr vb (r ++ [(c, q)]) (w2.setCell ⟨vb, 0, none⟩ (.slice (some ⟨g, 0, none⟩) (r.length + 1) cap)) A ∧ Fr A w (w2.setCell ⟨vb, 0, none⟩ (.slice (some ⟨g, 0, none⟩) (r.length + 1) cap))) := by
    have e1 : (r ++ [(c, q)]).length = r.length + 1 := by simp
    refine ⟨⟨some ⟨g, 0, none⟩, cap, ?_, ?_, h3, fun k hk => ?_, fun k hk => ?_⟩, b2.setCell (p := ⟨vb, 0, none⟩) (Nat.zero_le _) _, fun k hk hk2 => ?_⟩
    · rw [e1]; exact set_atC hv2 _
    · rw [e1, List.map_append]
      exact own_same hown (fun k hk => Below.heap_setCell _ _ _ _ (by show k ≠ vb; have := (hown.lt k hk).1; omega))
    · have : g = k := by simpa [Value.ownBlock] using hk
      rw [← this]; exact hgA
    · rw [World.size_setCell]; exact Nat.lt_of_lt_of_le (h5 k hk) b2.size
    · exact (Below.heap_setCell _ _ _ _ (by show k ≠ vb; exact fun e => h3 (by rw [← e]; exact hk))).trans (k2 k hk2 (fun e => h4 k e hk))
  have sc0 : w2.cell? ⟨vb, 0, none⟩ = some (.slice rv r.length cv) := heap_cell hv2 rfl
  have sf0 : w2.frozen? ⟨vb, 0, none⟩ = false := by simp [World.frozen?, hv2]
  have sl0 : vb < w2.heap.size := heap_lt hv2
  clear hown hgr hat hal k2 hv2 b2 nb hgA h3 h4 h5
  go_wp2
  go_end0
  exact ⟨rfl, HE.out.1, HE.out.2⟩
theorem order_ok (n vb : Nat) (hn : n ≤ 1000000) : MeetOk n 64 vb (IOr vb) where
  enter := fun args w => by go_simp
  call := fun r c q w A hI _ _ hok => order1_any hn r c q w A hI hok
  stab := fun r w w' A A' ⟨rv, cv, h1, h2, h3, h4, h5⟩ hs hk hA hA' => by
    have lv := heap_lt h1
    exact ⟨rv, cv, (hk _ lv h3).trans h1, own_same h2 (fun g hg => hk g (h2.lt g hg).2 (h4 g hg)), fun h => by rcases hA _ h with h | h; exact h3 h; omega, fun g hg h => by
      have := (h2.lt g hg).2
      rcases hA _ h with h | h
      · exact h4 g hg h
      · omega, hA'⟩
/-- What Order tells. -/
def OrderR (h : List Cl) (l : List Int) (B : Nat) (e : Ending) (w' : World) : Prop :=
  (heapB h l = false ∧ e = .returned (.tuple #[.slice none 0 0, .int .i64 100])) ∨ (heapB h l = true ∧ ∃ rv cv, e = .returned (.tuple #[.slice rv (walkM h false l).length cv, .int .i64 0]) ∧ w'.ownsRow B 3 1 (.slice rv (walkM h false l).length cv) (walkM h false l).length ((walkM h false l).map (fun p => .int .i64 p.1)))
theorem own_mono {w : World} {base base' e size n : Nat} {v : Value} {xs : List Value} (h : w.ownsRow base e size v n xs) (hb : base' ≤ base) : w.ownsRow base' e size v n xs := by
  refine ⟨h.1, ?_⟩
  rcases h.2 with h' | ⟨g, cap, cur, hv, hg, hh, r⟩
  · exact .inl h'
  · exact .inr ⟨g, cap, cur, hv, Nat.le_trans hb hg, hh, r⟩
set_option maxRecDepth 100000 in
set_option maxHeartbeats 8000000 in
theorem order_any (h : List Cl) (l : List Int) (ra rb : Option Addr) (ca cb : Nat) (w : World) (hH : HR w ra h) (hR : WR w rb l) (hT : Tab w) (hn : h.length ≤ 1000000) (hl : l.length ≤ 1000000) :
    Calls Tryz.prog 22 #[.slice ra h.length ca, .slice rb l.length cb] w fun e w' => OrderR h l w.heap.size e w' ∧ Below w.heap.size w w' := by
  have HIs : Hid (Calls Tryz.prog 53 #[.slice ra h.length ca, .slice rb l.length cb] w fun e w' => e = .returned (.bool (heapB h l)) ∧ Below w.heap.size w w') := isHeap_any h l ra rb ca cb w hH hR (by omega) (by omega) hT
  have HH : Hid (HR w ra h ∧ WR w rb l ∧ Tab w) := ⟨hH, hR, hT⟩
  clear hH hR hT
  cases hok : heapB h l
  · rw [hok] at HIs
    have Hk : Hid (heapB h l = false) := hok
    clear hok
    go_enter Tryz.func22, Tryz.ntmps22
    go_wp2_with fail
    refine Calls.mono HIs.out ?_
    rintro e w1 ⟨rfl, hb1⟩
    have HB1 : Hid (Below w.heap.size w w1) := hb1
    clear hb1
    go_wp2
    go_ret2
    exact ⟨.inl ⟨Hk.out, rfl⟩, HB1.out⟩
  · rw [hok] at HIs
    have Hk : Hid (heapB h l = true) := hok
    clear hok
    go_enter Tryz.func22, Tryz.ntmps22
    go_wp2_with fail
    refine Calls.mono HIs.out ?_
    rintro e w1 ⟨rfl, hb1⟩
    have s1 := hb1.size
    have a3 : Below w1.heap.size w1 (w1.alloc (.cells #[.slice none 0 0] 59)) := (Below.refl _ w1).alloc (Nat.le_refl _) _
    have b3 : Below w.heap.size w (w1.alloc (.cells #[.slice none 0 0] 59)) := hb1.trans (a3.mono s1)
    have hi3 : IOr w1.heap.size [] (w1.alloc (.cells #[.slice none 0 0] 59)) (fun g => g < w.heap.size) := ⟨none, 0, heap_alloc_new _ _, ⟨by simp, .inl ⟨rfl, rfl⟩⟩, by omega, (fun g hg => by cases hg), fun g hg => Nat.lt_of_lt_of_le hg b3.size⟩
    have HWk : Hid (Calls Tryz.prog 61 #[.slice ra h.length ca, .slice rb l.length cb, .func (.func 62) #[] #[], .func (.func 64) #[] #[.pointer (some ⟨w1.heap.size, 0, none⟩)]] (w1.alloc (.cells #[.slice none 0 0] 59)) fun e w' => e = .returned (.tuple #[]) ∧ IOr w1.heap.size (walkM h false l) w' (fun g => g < w.heap.size) ∧ Below w.heap.size (w1.alloc (.cells #[.slice none 0 0] 59)) w') := walk_any h l ra rb ca cb w _ (order_ok _ _ hn) asLaid_ok hi3 rfl b3 HH.out.1 HH.out.2.1 HH.out.2.2 Hk.out hn hl
    have HB3 : Hid (Below w.heap.size w (w1.alloc (.cells #[.slice none 0 0] 59))) := b3
    clear a3 b3 hi3 hb1 HIs
    go_wp2_with fail
    refine Calls.mono HWk.out ?_
    rintro e w4 ⟨rfl, ⟨rv, cv, g1, g2, _, _, _⟩, hb4⟩
    have v0 : w4.cell? ⟨w1.heap.size, 0, none⟩ = some (.slice rv (walkM h false l).length cv) := heap_cell g1 rfl
    have HR : Hid (w4.ownsRow w.heap.size 3 1 (.slice rv (walkM h false l).length cv) (walkM h false l).length ((walkM h false l).map (fun p => .int .i64 p.1))) := own_mono g2 (by omega)
    have HBe : Hid (Below w.heap.size w w4) := HB3.out.trans hb4
    clear g1 g2 hb4 HWk
    go_wp2
    go_ret2
    exact ⟨.inr ⟨Hk.out, rv, cv, rfl, HR.out⟩, HBe.out⟩
end Go.Proofs.YtdcmkifljcdmmaaGreatDoor
