/- What the collector makes of a holder. -/
import Derived.Test.YtphpkedfcmghmaaDoorHBNamed
namespace Go.Proofs.YtphpkedfcmghmaaDoor
open Go.RowKit

/-- A holder that is one of the view's. -/
def HdOk (v : Vw) (x : Hd) : Prop := (x.s = 0 ∧ x.i < v.h.length) ∨ x.s = 1 ∨ (x.s = 2 ∧ x.i < v.lanes.length)
set_option maxRecDepth 100000 in
set_option maxHeartbeats 4000000 in
theorem colourOf_any (p : Vp) (v : Vw) (w : World) (x : Hd) (hV : VL w p v) (hx : HdOk v x) :
    Calls Tryd.prog 57 #[.agg (p.cells v), hdV x] w fun e w' => e = .returned (.int .u8 (colM v x)) ∧ Below w.heap.size w w' := by
  have hl := hV.hl
  have hll := hV.ll
  have HB : Hid (Below w.heap.size w ((w.alloc (.cells (p.cells v) 28)).alloc (.cells #[.int .u8 x.s, .int .i64 x.i] 113))) := ((Below.refl _ w).alloc (Nat.le_refl _) _).alloc (by simp) _
  have hV2 := hV.kc (kc_below (Nat.le_refl _) HB.out)
  obtain ⟨s, i, ws⟩ := x
  have HM : Hid (colM v ⟨s, i, ws⟩ = colM v ⟨s, i, ws⟩) := rfl
  unfold hdV
  simp only at HB hV2
  rcases hx with ⟨h0, hi⟩ | h0 | ⟨h0, hi⟩ <;> simp only at h0 <;> subst h0
  · simp only at hi
    obtain ⟨c, hc⟩ : ∃ c, v.h[i]? = some c := ⟨_, List.getElem?_eq_getElem hi⟩
    obtain ⟨bb, o, hor, hcs⟩ := hV2.h
    have hra : p.cr = some ⟨bb, o, none⟩ := hor.resolve_left (by omega)
    have HP : Hid (p.cr = some ⟨bb, o, none⟩) := hra
    obtain ⟨g1, ⟨y2, y3, y4, y5⟩, _⟩ := hcs i c hc
    have HR : Hid (colM v ⟨0, i, ws⟩ = c.c) := by show _ = _; unfold colM; simp [hc]
    have k1 : (i : Int) < (v.h.length : Int) := by omega
    clear hcs hor hc hV2 HM
    simp only [nat0] at *
    unfold Vp.cells at *
    rw [hra] at g1 y2 y3 y4 y5 ⊢
    rw [HR.out]
    go_enter Tryd.func57, Tryd.ntmps57
    go_wp2
    go_ret
    exact ⟨rfl, by have := HB.out; rw [HP.out] at this; exact this⟩
  · simp only [nat1] at *
    unfold Vp.cells at *
    clear hV2
    by_cases hla : v.laid ≤ (i : Int)
    · have HR : Hid (colM v ⟨1, i, ws⟩ = 1) := by show _ = _; unfold colM; simp [hla]
      have z : (i : Int) ≥ v.laid := hla
      rw [HR.out]
      go_enter Tryd.func57, Tryd.ntmps57
      go_wp2
      go_ret
      exact ⟨rfl, HB.out⟩
    · have HR : Hid (colM v ⟨1, i, ws⟩ = 2) := by show _ = _; unfold colM; simp [hla]
      have z : ¬ (i : Int) ≥ v.laid := hla
      rw [HR.out]
      go_enter Tryd.func57, Tryd.ntmps57
      go_wp2
      go_ret
      exact ⟨rfl, HB.out⟩
  · simp only at hi
    obtain ⟨c, hc⟩ : ∃ c, v.lanes[i]? = some c := ⟨_, List.getElem?_eq_getElem hi⟩
    obtain ⟨bb, o, hor, hcs⟩ := hV2.l
    have hra : p.lr = some ⟨bb, o, none⟩ := hor.resolve_left (by omega)
    have HP : Hid (p.lr = some ⟨bb, o, none⟩) := hra
    obtain ⟨g1, _, y3, y4⟩ := hcs i c hc
    have HR : Hid (colM v ⟨2, i, ws⟩ = if c.sc then 2 else 1) := by show _ = _; unfold colM; cases hs : c.sc <;> simp [hc, hs]
    have k1 : (i : Int) < (v.lanes.length : Int) := by omega
    clear hcs hor hc hV2 HM
    simp only [nat2] at *
    unfold Vp.cells at *
    rw [hra] at g1 y3 y4 ⊢
    rw [HR.out]
    cases hs : c.sc
    · rw [hs] at y3
      go_enter Tryd.func57, Tryd.ntmps57
      go_wp2
      go_ret
      exact ⟨rfl, by have := HB.out; rw [HP.out] at this; exact this⟩
    · rw [hs] at y3
      go_enter Tryd.func57, Tryd.ntmps57
      go_wp2
      go_ret
      exact ⟨rfl, by have := HB.out; rw [HP.out] at this; exact this⟩
end Go.Proofs.YtphpkedfcmghmaaDoor
