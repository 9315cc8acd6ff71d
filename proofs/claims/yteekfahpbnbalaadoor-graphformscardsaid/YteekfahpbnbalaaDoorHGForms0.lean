/- The walk of GraphForms. -/
import Derived.Test.YteekfahpbnbalaaDoorHGFMem
namespace Go.Proofs.YteekfahpbnbalaaDoor
open Go.RowKit

/-- What lies there as long as nobody turns it: the heap, its roots, the order, the table; what was given, in its box. -/
structure Gv (h : List Cl) (l od : List Int) (at' : Int) (ra rb rc : Option Addr) (ca cb cc bx : Nat) (w : World) : Prop where
  hh : HR w ra h
  ll : WR w rb l
  oo : RX (Value.int .i64) w rc od
  t : Tab w
  b : w.heap[bx]? = some (.cells #[.slice ra h.length ca, .slice rb l.length cb, .slice rc od.length cc, .int .i64 at'] 45 (0, 0))
theorem Gv.below {h : List Cl} {l od : List Int} {at' : Int} {ra rb rc : Option Addr} {ca cb cc bx : Nat} {w w' : World} (g : Gv h l od at' ra rb rc ca cb cc bx w) (hb : Below w.heap.size w w') : Gv h l od at' ra rb rc ca cb cc bx w' :=
  ⟨g.hh.below hb, g.ll.below hb, g.oo.below hb, g.t.below hb, (hb.block _ (heap_lt g.b)).trans g.b⟩
theorem cell_far4 {W : World} {g a b c d k o : Nat} {va vb vc vd : Value} (h : ¬ k = g) : ((((W.setCell ⟨g, a, none⟩ va).setCell ⟨g, b, none⟩ vb).setCell ⟨g, c, none⟩ vc).setCell ⟨g, d, none⟩ vd).drew.cell? ⟨k, o, none⟩ = W.cell? ⟨k, o, none⟩ := by
  have e : ((((W.setCell ⟨g, a, none⟩ va).setCell ⟨g, b, none⟩ vb).setCell ⟨g, c, none⟩ vc).setCell ⟨g, d, none⟩ vd).drew.heap[k]? = W.heap[k]? := (Below.heap_setCell _ _ _ k h).trans ((Below.heap_setCell _ _ _ k h).trans ((Below.heap_setCell _ _ _ k h).trans (Below.heap_setCell _ _ _ k h)))
  simp only [World.cell?, e]
theorem sameK_true {l m : List Cl} {ra rb : Option Addr} {ca cb : Nat} {w : World} (hl : l.length ≤ 1000001) (hx : HX w ra l) (hy : HX w rb m) (he : l = m) : Calls Tryd.prog 13 #[.slice ra l.length ca, .slice rb m.length cb] w fun e w' => e = .returned (.bool true) ∧ Below w.heap.size w w' := by
  refine (sameK_any l m ra rb ca cb w (by unfold maxLen; omega) (by rw [← he]; unfold maxLen; omega) hx hy).mono ?_
  rintro e w' ⟨h1, h2⟩
  exact ⟨by rw [h1, decide_eq_true he], h2⟩
theorem sameK_false {l m : List Cl} {ra rb : Option Addr} {ca cb : Nat} {w : World} (hl : l.length ≤ 1000001) (hm : m.length ≤ 1000001) (hx : HX w ra l) (hy : HX w rb m) (he : l ≠ m) : Calls Tryd.prog 13 #[.slice ra l.length ca, .slice rb m.length cb] w fun e w' => e = .returned (.bool false) ∧ Below w.heap.size w w' := by
  refine (sameK_any l m ra rb ca cb w (by unfold maxLen; omega) (by unfold maxLen; omega) hx hy).mono ?_
  rintro e w' ⟨h1, h2⟩
  exact ⟨by rw [h1, decide_eq_false he], h2⟩
theorem sameW_true {l m : List Int} {ra rb : Option Addr} {ca cb : Nat} {w : World} (hl : l.length ≤ 1000001) (hx : WR w ra l) (hy : WR w rb m) (he : l = m) : Calls Tryd.prog 14 #[.slice ra l.length ca, .slice rb m.length cb] w fun e w' => e = .returned (.bool true) ∧ Below w.heap.size w w' := by
  refine (sameW_any l m ra rb ca cb w (by unfold maxLen; omega) (by rw [← he]; unfold maxLen; omega) hx.rx hy.rx).mono ?_
  rintro e w' ⟨h1, h2⟩
  exact ⟨by rw [h1, decide_eq_true he], h2⟩
set_option maxRecDepth 100000 in
set_option maxHeartbeats 40000000 in
theorem graphForms_big (h : List Cl) (l od : List Int) (at' : Int) (ra rb rc : Option Addr) (ca cb cc : Nat) (w : World) (hH : HR w ra h) (hR : WR w rb l) (hO : RX (Value.int .i64) w rc od) (hT : Tab w) (hod : ∀ x ∈ od, -9223372036854775808 ≤ x ∧ x ≤ 9223372036854775807) (hbig : 2000 < h.length ∨ 1000 < l.length ∨ 4000 < od.length) :
    Calls Tryd.prog 5 #[.agg #[.slice ra h.length ca, .slice rb l.length cb, .slice rc od.length cc, .int .i64 at']] w fun e w' => e = .returned (.bool true) ∧ Below w.heap.size w w' := by
  have a0 := al_below w (.cells #[.slice ra h.length ca, .slice rb l.length cb, .slice rc od.length cc, .int .i64 at'] 45)
  have b0 := heap_alloc_new w (.cells #[.slice ra h.length ca, .slice rb l.length cb, .slice rc od.length cc, .int .i64 at'] 45)
  have c0 := heap_cell (j := 0) b0 rfl
  have c1 := heap_cell (j := 1) b0 rfl
  have c2 := heap_cell (j := 2) b0 rfl
  have l0 := heap_lt b0
  have HG : Hid (Gv h l od at' ra rb rc ca cb cc w.heap.size (w.alloc (.cells #[.slice ra h.length ca, .slice rb l.length cb, .slice rc od.length cc, .int .i64 at'] 45))) := ⟨hH.below a0, hR.below a0, hO.below a0, hT.below a0, b0⟩
  have HB : Hid (Below w.heap.size w (w.alloc (.cells #[.slice ra h.length ca, .slice rb l.length cb, .slice rc od.length cc, .int .i64 at'] 45))) := a0
  have HN : Hid (∀ x ∈ od, -9223372036854775808 ≤ x ∧ x ≤ 9223372036854775807) := hod
  clear hH hR hO hT a0 b0 hod
  by_cases h1 : (2000 : Int) < (h.length : Int)
  · clear hbig
    go_enter Tryd.func5, Tryd.ntmps5
    go_upto_region 1 with fail
    generalize w.alloc (.cells #[.slice ra h.length ca, .slice rb l.length cb, .slice rc od.length cc, .int .i64 at'] 45) = W at *
    go_wp2
    go_ret
    exact ⟨rfl, HB.out⟩
  by_cases h2 : (1000 : Int) < (l.length : Int)
  · clear hbig
    go_enter Tryd.func5, Tryd.ntmps5
    go_upto_region 1 with fail
    generalize w.alloc (.cells #[.slice ra h.length ca, .slice rb l.length cb, .slice rc od.length cc, .int .i64 at'] 45) = W at *
    go_wp2
    go_ret
    exact ⟨rfl, HB.out⟩
  have h3 : (4000 : Int) < (od.length : Int) := by omega
  clear hbig
  go_enter Tryd.func5, Tryd.ntmps5
  go_upto_region 1 with fail
  generalize w.alloc (.cells #[.slice ra h.length ca, .slice rb l.length cb, .slice rc od.length cc, .int .i64 at'] 45) = W at *
  go_wp2
  go_ret
  exact ⟨rfl, HB.out⟩
end Go.Proofs.YteekfahpbnbalaaDoor
