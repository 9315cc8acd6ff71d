/- .. and the one that asks of lanes whether they have ended. -/
import Derived.Test.YtphpkedfcmghmaaDoorHBSrc
namespace Go.Proofs.YtphpkedfcmghmaaDoor
open Go.RowKit

def endB (v : Vw) (x : Hd) : Bool := match v.lanes[x.i]? with | some l => l.en | none => false
def wellC (v : Vw) (x : Hd) : Bool := (colM v x == 1) && (((x.s : Int) != 2) || endB v x)
theorem enters_g1 : ∀ args W, (callFunc 67 args).run Tryd.prog W = .ok (.enter 67 args) W := enters_of Tryd.func67 (by kernel_rfl) rfl
set_option maxRecDepth 100000 in
set_option maxHeartbeats 4000000 in
theorem guarded2_any (p : Vp) (v : Vw) (w : World) (x : Hd) (b bf : Nat) (hV : VL w p v) (hB : VB w b p v) (hF : Boxed w bf 114 (.func (.func 67) #[] #[.pointer (some ⟨b, 0, none⟩)])) (hx : HdOk v x) :
    Calls Tryd.prog 68 #[hdV x, .pointer (some ⟨bf, 0, none⟩), .pointer (some ⟨b, 0, none⟩)] w fun e w' => e = .returned (.bool (wellC v x)) ∧ Below w.heap.size w w' := by
  obtain ⟨h1, h2, h3⟩ := two_box (.cells #[.int .u8 x.s, .int .i64 x.i] 113) hV hB
  have HC : Hid _ := guarded1_any p v (w.alloc (.cells #[.int .u8 x.s, .int .i64 x.i] 113)) x b h1 h2 hx
  have HB : Hid (Below w.heap.size w (w.alloc (.cells #[.int .u8 x.s, .int .i64 x.i] 113))) := h3
  have HV1 : Hid (VL w p v) := hV
  have HVB : Hid (VB w b p v) := hB
  have HX : Hid (HdOk v x) := hx
  have f1 := (hF.alloc (.cells #[.int .u8 x.s, .int .i64 x.i] 113)).cell
  have hN : (w.alloc (.cells #[.int .u8 x.s, .int .i64 x.i] 113)).heap[w.heap.size]? = some (.cells #[.int .u8 x.s, .int .i64 x.i] 113 (0, 0)) := World.alloc_heap_new _ _
  have HNw : Hid _ := hN
  have hll := hV.ll
  have eg := enters_g1
  clear h1 h2 h3 hV hB hx hF hN
  unfold hdV
  unfold hdV at HC
  go_enter Tryd.func68, Tryd.ntmps68
  go_wp2_with fail
  refine Calls.mono HC.out ?_
  rintro e w' ⟨rfl, hb⟩
  have HB2 : Hid (Below w.heap.size w w') := HB.out.trans (hb.mono HB.out.size)
  have hk := kc_below (N := w.heap.size) (Nat.le_refl _) HB2.out
  have hn2 : w'.heap[w.heap.size]? = some (.cells #[.int .u8 x.s, .int .i64 x.i] 113 (0, 0)) := (hb.block _ (by simp)).trans HNw.out
  have n0 : w'.cell? ⟨w.heap.size, 0, none⟩ = some (.int .u8 x.s) := by simp [World.cell?, hn2]
  have n1 : w'.cell? ⟨w.heap.size, 1, none⟩ = some (.int .i64 x.i) := by simp [World.cell?, hn2]
  obtain ⟨d0, d1, d2, d3, d4, d5, d6⟩ := (HVB.out.kc hk).at7
  have hL := (HV1.out.kc hk).l
  clear hb HC HB hn2 HNw hk f1
  cases hc : (colM v x == 1)
  · have HF : Hid (wellC v x = false) := by show _ = _; unfold wellC; rw [hc]; rfl
    clear hL
    go_wp2
    go_ret
    exact ⟨ret_bool HF.out.symm, HB2.out⟩
  · cases hs : ((x.s : Int) != 2)
    · have hs2 : x.s = 2 := by simp at hs; omega
      have hi : x.i < v.lanes.length := by
        rcases HX.out with ⟨h0, _⟩ | h0 | ⟨_, h0⟩
        · omega
        · omega
        · exact h0
      obtain ⟨c, hcc⟩ : ∃ c, v.lanes[x.i]? = some c := ⟨_, List.getElem?_eq_getElem hi⟩
      obtain ⟨bb, o, hor, hcs⟩ := hL
      have hra : p.lr = some ⟨bb, o, none⟩ := hor.resolve_left (by omega)
      obtain ⟨g1, _, y3, y4⟩ := hcs x.i c hcc
      have k1 : (x.i : Int) < (v.lanes.length : Int) := by omega
      have HF : Hid (wellC v x = c.en) := by show _ = _; unfold wellC endB; rw [hc, hs, hcc]; rfl
      rw [hra] at d6
      clear hcs hor hcc hs2
      go_wp2
      go_ret
      exact ⟨ret_bool HF.out.symm, HB2.out⟩
    · have HF : Hid (wellC v x = true) := by show _ = _; unfold wellC; rw [hc, hs]; rfl
      clear hL
      go_wp2
      go_ret
      exact ⟨ret_bool HF.out.symm, HB2.out⟩
end Go.Proofs.YtphpkedfcmghmaaDoor
