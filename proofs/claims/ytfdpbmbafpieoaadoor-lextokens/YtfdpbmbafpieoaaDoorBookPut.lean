/- The book: a list of tokens put in. -/
import Derived.Test.YtfdpbmbafpieoaaDoorBookOwn
namespace Go.Proofs.YtfdpbmbafpieoaaDoor
open Go.RowKit

theorem bk_set {W : World} {b : Nat} {v u : Value} (h : Bk W b v) : Bk (W.setCell ⟨b, 8, none⟩ u) b u := by
  have hlt := h.lt
  have h1 := h.heap
  rw [Array.getElem?_eq_getElem hlt] at h1
  have h2 := Option.some.inj h1
  refine ⟨?_⟩
  show (W.heap.modify b _)[b]? = _
  rw [Array.getElem?_eq_getElem (by simpa using hlt), Array.getElem_modify_self, h2]
  rfl
theorem Bk.cell8 {W : World} {b : Nat} {v : Value} (h : Bk W b v) : W.cell? ⟨b, 8, none⟩ = some v := by simp [World.cell?, h.heap]
theorem Bk.free8 {W : World} {b : Nat} {v : Value} (h : Bk W b v) : W.frozen? ⟨b, 8, none⟩ = false := by simp [World.frozen?, h.heap]
theorem slice_one (ra : Option Addr) (n c : Nat) : ∀ u ∈ [Value.slice ra n c], u.oneCell' = true := by
  intro u hu
  obtain rfl : u = .slice ra n c := by simpa using hu
  rfl

set_option maxRecDepth 100000 in
set_option maxHeartbeats 2000000 in
theorem bookTokens_any (base b k : Nat) (v : Value) (ra : Option Addr) (n c : Nat) (rows : List Value) (w : World) (hk : Bk w b v) (hb : b < base) (hbs : base ≤ w.heap.size) (hrow : w.ownsRow base 25 1 v k rows) (hkm : k ≤ 1000000) :
    Calls Tryd.prog 15 #[.pointer (some ⟨b, 0, none⟩), .slice ra n c] w fun e w' => (∃ r, e = .returned r) ∧ ∃ v', Bk w' b v' ∧ w'.ownsRow base 25 1 v' (k + 1) (rows ++ [.slice ra n c]) ∧
      (v'.ownBlock = v.ownBlock ∨ v'.ownBlock = some (w.heap.size + 1)) ∧ w.heap.size ≤ w'.heap.size ∧ (∀ g, g < w.heap.size → g ≠ b → v.ownBlock ≠ some g → w'.heap[g]? = w.heap[g]?) ∧ Below b w w' := by
  obtain ⟨i3, hi3, hy0, hy1, hy2⟩ := info_parts infoToks
  have HK : Hid (Bk w b v) := hk
  have HR : Hid (w.ownsRow base 25 1 v k rows) := hrow
  clear hk hrow
  have c8 : w.cell? ⟨b, 8, none⟩ = some v := by simp [World.cell?, HK.out.heap]
  obtain ⟨ra0, n0, c0, hv0⟩ : ∃ ra0 n0 c0, v = .slice ra0 n0 c0 := by
    rcases HR.out.2 with ⟨h, _⟩ | ⟨g, cap, cur, h, _⟩
    · exact ⟨_, _, _, h⟩
    · exact ⟨_, _, _, h⟩
  go_enter Tryd.func15, Tryd.ntmps15
  have hne : ∀ g, v.ownBlock = some g → base ≤ g := fun g hg => (HR.out.lt g hg).1
  have Hne : Hid _ := hne
  clear hne
  subst hv0
  go_wp2_with (at_builtin; refine wpList_append_told _ rfl _ _ 39 rfl base 25 i3 (.slice none 0 0) 1 24 Tryd.underlying39 hi3 hy0 hy1 hy2 rfl (by decide) (.slice ra0 n0 c0) k rows rfl (HR.out.alloc _) _ 1 1 [.slice ra n c] rfl rfl (cell_one_new _ _ _) (slice_one _ _ _) (by unfold maxLen; omega) (by omega) (by simp; omega) (by decide) ?_; intro v1 w1 hown1 hgrow1 hold1 hw1; obtain ⟨g', cap', rfl⟩ := ownsRow_succ hown1; have hB1 : Bk w1 b (.slice ra0 n0 c0) := ⟨(hgrow1.block b (by have := HK.out.lt; simp; omega) (fun e => by have := Hne.out b e.symm; omega)).trans ((Below.heap_alloc _ _ _ HK.out.lt).trans HK.out.heap)⟩; have hc1 := hB1.cell8; have hf1 := hB1.free8)
  go_end0
  refine ⟨⟨_, rfl⟩, .slice (some ⟨g', 0, none⟩) (k + 1) cap', bk_set hB1, ?_, ?_, ?_, ?_, ?_⟩
  · exact ownsRow_setCell_below hown1 (by show b < base; exact hb) _
  · simpa using hw1
  · have := hgrow1.size; simp at this ⊢; omega
  · intro g hg hgb hgv
    rw [Below.heap_setCell _ _ _ _ hgb, hgrow1.block g (by simp; omega) (fun e => hgv e.symm), Below.heap_alloc _ _ _ hg]
  · refine Below.setCell (((Below.refl b w).alloc (by omega) _).grown hgrow1 (by simp; omega) fun g hg => ?_) (p := ⟨b, 8, none⟩) (Nat.le_refl _) _
    have := Hne.out g hg; omega
end Go.Proofs.YtfdpbmbafpieoaaDoor
