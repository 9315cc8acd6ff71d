/- The closures that say what counts as a source.; .. and the one that asks of lanes whether they have ended.; A cell is met. -/
import Derived.Test.YtomdbcddokaagaaDoorGE
import Derived.Deep.RegionHeld3
import Derived.BigQuiet
/- The closures that say what counts as a source. -/
namespace Go.Proofs.YtomdbcddokaagaaDoor
open Go.RowKit

theorem two_box {w : World} {p : Vp} {v : Vw} {b : Nat} (o : Obj) (hV : VL w p v) (hB : VB w b p v) : VL (w.alloc o) p v ∧ VB (w.alloc o) b p v ∧ Below w.heap.size w (w.alloc o) :=
  have hb := (Below.refl _ w).alloc (Nat.le_refl w.heap.size) o
  have hk := kc_below (N := w.heap.size) (Nat.le_refl _) hb
  ⟨hV.kc hk, hB.kc hk, hb⟩
set_option maxRecDepth 100000 in
set_option maxHeartbeats 4000000 in
theorem guarded1_any (p : Vp) (v : Vw) (w : World) (x : Hd) (b : Nat) (hV : VL w p v) (hB : VB w b p v) (hx : HdOk v x) :
    Calls Tryd.prog 67 #[hdV x, .pointer (some ⟨b, 0, none⟩)] w fun e w' => e = .returned (.bool (colM v x == 1)) ∧ Below w.heap.size w w' := by
  obtain ⟨h1, h2, h3⟩ := two_box (.cells #[.int .u8 x.s, .int .i64 x.i] 113) hV hB
  have HC : Hid _ := colourOf_any p v (w.alloc (.cells #[.int .u8 x.s, .int .i64 x.i] 113)) x h1 hx
  have HB : Hid (Below w.heap.size w (w.alloc (.cells #[.int .u8 x.s, .int .i64 x.i] 113))) := h3
  obtain ⟨d0, d1, d2, d3, d4, d5, d6⟩ := h2.at7
  clear h1 h2 h3 hV hB hx
  unfold hdV
  go_enter Tryd.func67, Tryd.ntmps67
  go_wp2_with fail
  refine Calls.mono HC.out ?_
  rintro e w' ⟨rfl, hb⟩
  have HB2 : Hid (Below w.heap.size w w') := HB.out.trans (hb.mono HB.out.size)
  clear hb HC HB
  go_wp2
  go_ret
  exact ⟨rfl, HB2.out⟩
set_option maxRecDepth 100000 in
set_option maxHeartbeats 4000000 in
theorem holds2_any (p : Vp) (v : Vw) (w : World) (x : Hd) (b : Nat) (hV : VL w p v) (hB : VB w b p v) (hx : HdOk v x) :
    Calls Tryd.prog 56 #[hdV x, .pointer (some ⟨b, 0, none⟩)] w fun e w' => e = .returned (.bool (colM v x == 2)) ∧ Below w.heap.size w w' := by
  obtain ⟨h1, h2, h3⟩ := two_box (.cells #[.int .u8 x.s, .int .i64 x.i] 113) hV hB
  have HC : Hid _ := colourOf_any p v (w.alloc (.cells #[.int .u8 x.s, .int .i64 x.i] 113)) x h1 hx
  have HB : Hid (Below w.heap.size w (w.alloc (.cells #[.int .u8 x.s, .int .i64 x.i] 113))) := h3
  obtain ⟨d0, d1, d2, d3, d4, d5, d6⟩ := h2.at7
  clear h1 h2 h3 hV hB hx
  unfold hdV
  go_enter Tryd.func56, Tryd.ntmps56
  go_wp2_with fail
  refine Calls.mono HC.out ?_
  rintro e w' ⟨rfl, hb⟩
  have HB2 : Hid (Below w.heap.size w w') := HB.out.trans (hb.mono HB.out.size)
  clear hb HC HB
  go_wp2
  go_ret
  exact ⟨rfl, HB2.out⟩
set_option maxRecDepth 100000 in
set_option maxHeartbeats 4000000 in
theorem holds1_any (w : World) (x : Hd) :
    Calls Tryd.prog 54 #[hdV x] w fun e w' => e = .returned (.bool ((x.s : Int) != 0)) ∧ Below w.heap.size w w' := by
  have HB : Hid (Below w.heap.size w (w.alloc (.cells #[.int .u8 x.s, .int .i64 x.i] 113))) := (Below.refl _ w).alloc (Nat.le_refl w.heap.size) _
  unfold hdV
  go_enter Tryd.func54, Tryd.ntmps54
  go_wp2
  go_ret
  exact ⟨rfl, HB.out⟩
end Go.Proofs.YtomdbcddokaagaaDoor

/- .. and the one that asks of lanes whether they have ended. -/
namespace Go.Proofs.YtomdbcddokaagaaDoor
open Go.RowKit

def endB (v : Vw) (x : Hd) : Bool := match v.lanes[x.i]? with | some l => l.en | none => false
def wellC (v : Vw) (x : Hd) : Bool := (colM v x == 1) && (((x.s : Int) != 2) || endB v x)
theorem enters_g1 : ∀ args W, (callFunc 67 args).run Tryd.prog W = .ok (.enter 67 args) W := enters_of Tryd.func67 (by kernel_rfl) rfl
set_option maxRecDepth 100000 in
set_option maxHeartbeats 4000000 in
theorem guarded2_any (p : Vp) (v : Vw) (w : World) (x : Hd) (b bf : Nat) (hV : VL w p v) (hB : VB w b p v) (hF : Boxed w bf 114 (.func (.func 67) #[] #[.pointer (some ⟨b, 0, none⟩)])) (hx : HdOk v x) :
    Calls Tryd.prog 68 #[hdV x, .pointer (some ⟨bf, 0, none⟩), .pointer (some ⟨b, 0, none⟩)] w fun e w' => e = .returned (.bool (wellC v x)) ∧ Below w.heap.size w w' := by
  obtain ⟨h1, h2, h3⟩ := two_box (.cells #[.int .u8 x.s, .int .i64 x.i] 113) hV hB
  have HC : Hid _ := guarded1_any p v (w.alloc (.cells #[.int .u8 x.s, .int .i64 x.i] 113)) x b h1 h2 hx
  have HB : Hid (Below w.heap.size w (w.alloc (.cells #[.int .u8 x.s, .int .i64 x.i] 113))) := h3
  have HV1 : Hid (VL w p v) := hV
  have HVB : Hid (VB w b p v) := hB
  have HX : Hid (HdOk v x) := hx
  have f1 := (hF.alloc (.cells #[.int .u8 x.s, .int .i64 x.i] 113)).cell
  have hN : (w.alloc (.cells #[.int .u8 x.s, .int .i64 x.i] 113)).heap[w.heap.size]? = some (.cells #[.int .u8 x.s, .int .i64 x.i] 113 (0, 0)) := World.alloc_heap_new _ _
  have HNw : Hid _ := hN
  have hll := hV.ll
  have eg := enters_g1
  clear h1 h2 h3 hV hB hx hF hN
  unfold hdV
  unfold hdV at HC
  go_enter Tryd.func68, Tryd.ntmps68
  go_wp2_with fail
  refine Calls.mono HC.out ?_
  rintro e w' ⟨rfl, hb⟩
  have HB2 : Hid (Below w.heap.size w w') := HB.out.trans (hb.mono HB.out.size)
  have hk := kc_below (N := w.heap.size) (Nat.le_refl _) HB2.out
  have hn2 : w'.heap[w.heap.size]? = some (.cells #[.int .u8 x.s, .int .i64 x.i] 113 (0, 0)) := (hb.block _ (by simp)).trans HNw.out
  have n0 : w'.cell? ⟨w.heap.size, 0, none⟩ = some (.int .u8 x.s) := by simp [World.cell?, hn2]
  have n1 : w'.cell? ⟨w.heap.size, 1, none⟩ = some (.int .i64 x.i) := by simp [World.cell?, hn2]
  obtain ⟨d0, d1, d2, d3, d4, d5, d6⟩ := (HVB.out.kc hk).at7
  have hL := (HV1.out.kc hk).l
  clear hb HC HB hn2 HNw hk f1
  cases hc : (colM v x == 1)
  · have HF : Hid (wellC v x = false) := by show _ = _; unfold wellC; rw [hc]; rfl
    clear hL
    go_wp2
    go_ret
    exact ⟨ret_bool HF.out.symm, HB2.out⟩
  · cases hs : ((x.s : Int) != 2)
    · have hs2 : x.s = 2 := by simp at hs; omega
      have hi : x.i < v.lanes.length := by
        rcases HX.out with ⟨h0, _⟩ | h0 | ⟨_, h0⟩
        · omega
        · omega
        · exact h0
      obtain ⟨c, hcc⟩ : ∃ c, v.lanes[x.i]? = some c := ⟨_, List.getElem?_eq_getElem hi⟩
      obtain ⟨bb, o, hor, hcs⟩ := hL
      have hra : p.lr = some ⟨bb, o, none⟩ := hor.resolve_left (by omega)
      obtain ⟨g1, _, y3, y4⟩ := hcs x.i c hcc
      have k1 : (x.i : Int) < (v.lanes.length : Int) := by omega
      have HF : Hid (wellC v x = c.en) := by show _ = _; unfold wellC endB; rw [hc, hs, hcc]; rfl
      rw [hra] at d6
      clear hcs hor hcc hs2
      go_wp2
      go_ret
      exact ⟨ret_bool HF.out.symm, HB2.out⟩
    · have HF : Hid (wellC v x = true) := by show _ = _; unfold wellC; rw [hc, hs]; rfl
      clear hL
      go_wp2
      go_ret
      exact ⟨ret_bool HF.out.symm, HB2.out⟩
end Go.Proofs.YtomdbcddokaagaaDoor

/- A cell is met. -/
namespace Go.Proofs.YtomdbcddokaagaaDoor
open Go.RowKit

/-- How the walk's blocks stand when r have been met. -/
structure MS (w0 : World) (bm g bf bv br B fm : Nat) (p : Vp) (v : Vw) (rv : Value) (r : List Nat) (W : World) : Prop where
  m : Boxed W bm 73 (.slice (some ⟨g, 0, none⟩) v.h.length v.h.length)
  o : DR W 4 g v.h.length (fun k u => u = .bool (r.contains k))
  f : Boxed W bf 110 (.func (.func fm) #[] #[])
  v0 : VB W bv p v
  b : Below w0.heap.size w0 W
  lv : VL w0 p v
  q : Boxed W br 24 rv
  row : W.ownsRow B 3 1 rv r.length (r.map (fun (k : Nat) => .int .i64 (k : Int)))
  ord : w0.heap.size ≤ bv ∧ bv < bf ∧ bf < g ∧ g < bm ∧ bm < br ∧ br < B
theorem own_grow {W W' : World} {B t s k : Nat} {rv : Value} {xs : List Value} (h : W.ownsRow B t s rv k xs) (hb : Below W.heap.size W W') : W'.ownsRow B t s rv k xs := own_same h (fun g hg => hb.block g (h.lt g hg).2)
theorem MS.l {w0 : World} {bm g bf bv br B fm : Nat} {p : Vp} {v : Vw} {rv : Value} {r : List Nat} {W : World} (h : MS w0 bm g bf bv br B fm p v rv r W) : VL W p v := h.lv.kc (kc_below (Nat.le_refl _) h.b)
theorem MS.grow {w0 : World} {bm g bf bv br B fm : Nat} {p : Vp} {v : Vw} {rv : Value} {r : List Nat} {W W' : World} (h : MS w0 bm g bf bv br B fm p v rv r W) (hb : Below W.heap.size W W') : MS w0 bm g bf bv br B fm p v rv r W' :=
  have hk := kc_below (N := W.heap.size) (Nat.le_refl _) hb
  ⟨hk.2 _ _ _ _ h.m, h.o.kc hk, hk.2 _ _ _ _ h.f, h.v0.kc hk, h.b.trans (hb.mono h.b.size), h.lv, hk.2 _ _ _ _ h.q, own_grow h.row hb, h.ord⟩
theorem below_d {B : Nat} (w : World) : Below B w w.drew := ⟨rfl, rfl, rfl, Nat.le_refl _, fun _ _ => rfl⟩
theorem below_dn {B : Nat} {a w : World} (h : Below B a w) (n : Nat) : Below B a (w.drewN n) := h.trans ⟨rfl, rfl, rfl, Nat.le_refl _, fun _ _ => rfl⟩
set_option maxRecDepth 100000 in
set_option maxHeartbeats 8000000 in
theorem meet_met {w0 : World} {bm g bf bv br B fm : Nat} {p : Vp} {v : Vw} {rv : Value} {r : List Nat} {W : World} (h : MS w0 bm g bf bv br B fm p v rv r W) {c : Nat} (hc : c < v.h.length) (hr : r.contains c = true) :
    Calls Tryd.prog 77 #[.int .i64 c, .pointer (some ⟨bm, 0, none⟩), .pointer (some ⟨bf, 0, none⟩), .pointer (some ⟨bv, 0, none⟩), .pointer (some ⟨br, 0, none⟩)] W fun e W' => (∃ v, e = .returned v) ∧ Below W.heap.size W W' := by
  have c1 := h.m.cell
  obtain ⟨u, c2, hu⟩ := h.o.cell hc
  rw [hu, hr] at c2
  have hl := h.l.hl
  have k1 : (c : Int) < (v.h.length : Int) := by omega
  clear h hu
  go_enter Tryd.func77, Tryd.ntmps77
  go_wp2_with fail
  go_quiet (fail)
  go_wp2
  refine bodyPost_end (results_none rfl _ _ _) rfl ?_
  exact ⟨⟨_, rfl⟩, below_dn (Below.refl _ _) _⟩
set_option maxRecDepth 100000 in
set_option maxHeartbeats 8000000 in
theorem meet_not {w0 : World} {bm g bf bv br B fm : Nat} {p : Vp} {v : Vw} {rv : Value} {r : List Nat} {W : World} {mf : Cl → Bool} (h : MS w0 bm g bf bv br B fm p v rv r W) {c : Nat} {x : Cl} (hx : v.h[c]? = some x) (hr : r.contains c = false)
    (eg : ∀ args W, (callFunc fm args).run Tryd.prog W = .ok (.enter fm args) W) (hM : ∀ x W, Calls Tryd.prog fm #[cV x] W fun e W' => e = .returned (.bool (mf x)) ∧ Below W.heap.size W W') (hm : mf x = false) :
    Calls Tryd.prog 77 #[.int .i64 c, .pointer (some ⟨bm, 0, none⟩), .pointer (some ⟨bf, 0, none⟩), .pointer (some ⟨bv, 0, none⟩), .pointer (some ⟨br, 0, none⟩)] W fun e W' => (∃ v, e = .returned v) ∧ Below W.heap.size W W' := by
  have hc : c < v.h.length := (List.getElem?_eq_some_iff.1 hx).1
  have c1 := h.m.cell
  obtain ⟨u, c2, hu⟩ := h.o.cell hc
  rw [hu, hr] at c2
  have hl := h.l.hl
  have k1 : (c : Int) < (v.h.length : Int) := by omega
  have c3 := h.f.cell
  have c4 := h.v0.at.1
  obtain ⟨bb, o, hor, hcs⟩ := h.l.h
  have hra : p.cr = some ⟨bb, o, none⟩ := hor.resolve_left (by omega)
  obtain ⟨g1, ⟨y2, y3, y4, y5⟩, _⟩ := hcs c x hx
  rw [hra] at c4
  have HM : Hid (∀ x W, Calls Tryd.prog fm #[cV x] W fun e W' => e = .returned (.bool (mf x)) ∧ Below W.heap.size W W') := hM
  have l1 := h.m.lt
  have l2 := h.o.lt
  have l3 := h.f.lt
  have l4 : bv < W.heap.size := (Array.getElem?_eq_some_iff.1 h.v0).1
  have mk : ∀ wx, Below W.heap.size W wx → (wx.cell? ⟨bm, 0, none⟩ = some (.slice (some ⟨g, 0, none⟩) v.h.length v.h.length) ∧ wx.cell? ⟨g, c, none⟩ = some (.bool false) ∧ wx.cell? ⟨bf, 0, none⟩ = some (.func (.func fm) #[] #[]) ∧ wx.cell? ⟨bv, 0, none⟩ = some (.slice (some ⟨bb, o, none⟩) v.h.length p.cc) ∧ wx.cell? ⟨bb, o + c * 4, none⟩ = some (.int .u8 x.k) ∧ wx.cell? ⟨bb, o + c * 4 + 1, none⟩ = some (.int .u8 x.c) ∧ wx.cell? ⟨bb, o + c * 4 + 1 + 1, none⟩ = some (.int .u64 x.a) ∧ wx.cell? ⟨bb, o + c * 4 + 1 + 1 + 1, none⟩ = some (.int .u64 x.b)) ∧ Below W.heap.size W wx := fun wx hb => ⟨⟨(hb.cell (p := ⟨bm, 0, none⟩) l1).trans c1, (hb.cell (p := ⟨g, c, none⟩) l2).trans c2, (hb.cell (p := ⟨bf, 0, none⟩) l3).trans c3, (hb.cell (p := ⟨bv, 0, none⟩) l4).trans c4, (hb.cell (p := ⟨bb, _, none⟩) g1).trans y2, (hb.cell (p := ⟨bb, _, none⟩) g1).trans y3, (hb.cell (p := ⟨bb, _, none⟩) g1).trans y4, (hb.cell (p := ⟨bb, _, none⟩) g1).trans y5⟩, hb⟩
  clear h hu hx hcs hor hM
  go_enter Tryd.func77, Tryd.ntmps77
  go_wp2_with fail
  go_region_held3 (fun wx => (wx.cell? ⟨bm, 0, none⟩ = some (.slice (some ⟨g, 0, none⟩) v.h.length v.h.length) ∧ wx.cell? ⟨g, c, none⟩ = some (.bool false) ∧ wx.cell? ⟨bf, 0, none⟩ = some (.func (.func fm) #[] #[]) ∧ wx.cell? ⟨bv, 0, none⟩ = some (.slice (some ⟨bb, o, none⟩) v.h.length p.cc) ∧ wx.cell? ⟨bb, o + c * 4, none⟩ = some (.int .u8 x.k) ∧ wx.cell? ⟨bb, o + c * 4 + 1, none⟩ = some (.int .u8 x.c) ∧ wx.cell? ⟨bb, o + c * 4 + 1 + 1, none⟩ = some (.int .u64 x.a) ∧ wx.cell? ⟨bb, o + c * 4 + 1 + 1 + 1, none⟩ = some (.int .u64 x.b)) ∧ Below W.heap.size W wx) (first | (go_keep; done) | exact mk _ (below_d _) | exact mk _ ((below_d W).trans hb)) (first | (refine (HM.out x _).mono ?_; rintro e w' ⟨rfl, hb⟩) | fail)
  go_wp2
  refine bodyPost_end (results_none rfl _ _ _) rfl ?_
  exact ⟨⟨_, rfl⟩, (below_d W).trans hb⟩
end Go.Proofs.YtomdbcddokaagaaDoor
