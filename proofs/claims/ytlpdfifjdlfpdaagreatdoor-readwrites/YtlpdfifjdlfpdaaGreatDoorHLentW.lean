/- LentData, LentDatum: what is handed in, laid once more. -/
import Derived.Test.YtlpdfifjdlfpdaaGreatDoorHLent
import Derived.Deep.RegionHeld3
namespace Go.Proofs.YtlpdfifjdlfpdaaGreatDoor
open Go.RowKit

def LentC (N : Nat) : Prop := ∀ (f : Fo) (ra : Option Addr) (ca : Nat) (w : World), f.size ≤ N → f.size ≤ 1000000 → f.len ≤ 1000000 → RS w ra f →
  Calls Tryz.prog 13 #[.slice ra f.len ca] w fun e w' => ∃ v, e = .returned v ∧ Lent w' w.heap.size v f ∧ Below w.heap.size w w'
def LentD (N : Nat) : Prop := ∀ (k n : Int) (t : List UInt8) (s : Fo) (d : Bool) (rk : Option Addr) (ck : Nat) (w : World), s.size ≤ N → s.size ≤ 1000000 → s.len ≤ 1000000 → RS w rk s →
  Calls Tryz.prog 51 #[.agg #[.int .u8 k, .int .i64 n, S t, .slice rk s.len ck, .bool d]] w fun e w' => ∃ v, e = .returned (.agg #[.int .u8 k, .int .i64 n, S t, v, .bool d]) ∧ Lent w' w.heap.size v s ∧ Below w.heap.size w w'

abbrev X5 (k n : Int) (t : List UInt8) (v : Value) (d : Bool) : Obj := .cells #[.int .u8 k, .int .i64 n, S t, v, .bool d] 58
theorem keepM {W W' : World} {g : Nat} {v0 v1 v2 v3 v4 : Value} (hb : Below W.heap.size W W')
    (h : (W.cell? ⟨g, 0, none⟩ = some v0 ∧ W.cell? ⟨g, 1, none⟩ = some v1 ∧ W.cell? ⟨g, 2, none⟩ = some v2 ∧ W.cell? ⟨g, 3, none⟩ = some v3 ∧ W.cell? ⟨g, 4, none⟩ = some v4) ∧ g < W.heap.size) :
    (W'.cell? ⟨g, 0, none⟩ = some v0 ∧ W'.cell? ⟨g, 1, none⟩ = some v1 ∧ W'.cell? ⟨g, 2, none⟩ = some v2 ∧ W'.cell? ⟨g, 3, none⟩ = some v3 ∧ W'.cell? ⟨g, 4, none⟩ = some v4) ∧ g < W'.heap.size := by
  obtain ⟨⟨a0, a1, a2, a3, a4⟩, hl⟩ := h
  have e : ∀ o, W'.cell? ⟨g, o, none⟩ = W.cell? ⟨g, o, none⟩ := fun o => hb.cell (p := ⟨g, o, none⟩) hl
  exact ⟨⟨(e _).trans a0, (e _).trans a1, (e _).trans a2, (e _).trans a3, (e _).trans a4⟩, Nat.lt_of_lt_of_le hl hb.size⟩

set_option maxRecDepth 100000 in
set_option maxHeartbeats 4000000 in
theorem lentD_of {N : Nat} (h : LentC N) : LentD N := by
  intro k n t s d rk ck w hN hb hm hR
  have HC : Hid (LentC N) := h
  have hW : Below w.heap.size w ((w.alloc (X5 k n t (.slice rk s.len ck) d)).alloc Z5) := (((Below.refl _ w).alloc (Nat.le_refl _) _).alloc (by simp) _)
  have HW : Hid (Below w.heap.size w ((w.alloc (X5 k n t (.slice rk s.len ck) d)).alloc Z5)) := hW
  have HR : Hid (RS ((w.alloc (X5 k n t (.slice rk s.len ck) d)).alloc Z5) rk s) := hR.below hW
  have q0 : ((w.alloc (X5 k n t (.slice rk s.len ck) d)).alloc Z5).heap[w.heap.size]? = some (.cells #[.int .u8 k, .int .i64 n, S t, .slice rk s.len ck, .bool d] 58 (0, 0)) := (Below.heap_alloc _ _ _ (by simp)).trans (World.alloc_heap_new w _)
  have q1 : ((w.alloc (X5 k n t (.slice rk s.len ck) d)).alloc Z5).heap[w.heap.size + 1]? = some (.cells #[.int .u8 0, .int .i64 0, .string ⟨#[]⟩, .slice none 0 0, .bool false] 58 (0, 0)) := by
    have := World.alloc_heap_new (w.alloc (X5 k n t (.slice rk s.len ck) d)) Z5
    rwa [World.size_alloc] at this
  have HQ1 : Hid _ := q1
  obtain ⟨z0, z1, z2, z3, z4, _⟩ := cells5 q0
  obtain ⟨y0, y1, y2, y3, y4, yf⟩ := cells5 q1
  have f0 := yf 0
  have f1 := yf 1
  have f2 := yf 2
  have f3 := yf 3
  have f4 := yf 4
  have sz0 : w.heap.size < ((w.alloc (X5 k n t (.slice rk s.len ck) d)).alloc Z5).heap.size := by simp; omega
  have sz : w.heap.size + 1 < ((w.alloc (X5 k n t (.slice rk s.len ck) d)).alloc Z5).heap.size := by simp
  clear h hR hW q0 q1 yf
  go_enter Tryz.func51, Tryz.ntmps51
  go_wp2_with fail
  generalize (w.alloc (X5 k n t (.slice rk s.len ck) d)).alloc Z5 = W at *
  have hmx : Tryz.prog.follows .mixedOrders = true := by kernel_rfl
  clear y0 y1 y2 y3 y4 f0 f1 f2 f3 f4
  go_region_held3 (fun wx => (wx.cell? ⟨w.heap.size, 0, none⟩ = some (.int .u8 k) ∧ wx.cell? ⟨w.heap.size, 1, none⟩ = some (.int .i64 n) ∧ wx.cell? ⟨w.heap.size, 2, none⟩ = some (S t) ∧ wx.cell? ⟨w.heap.size, 3, none⟩ = some (.slice rk s.len ck) ∧ wx.cell? ⟨w.heap.size, 4, none⟩ = some (.bool d)) ∧ w.heap.size < wx.heap.size) (first | go_keep | exact keepM hb1 (by go_keep))
      (first | (go_at_call 13; refine (HC.out s rk ck _ hN hb hm (HR.out.below (Below.refl _ _).drew)).mono ?_; rintro e w1 ⟨v, rfl, ⟨g, cs, rfl, ho, hc⟩, hb1⟩; obtain ⟨y0, y1, y2, y3, y4, yf⟩ := cells5 ((hb1.block (w.heap.size + 1) sz).trans HQ1.out); have f0 := yf 0; have f1 := yf 1; have f2 := yf 2; have f3 := yf 3; have f4 := yf 4))
  have HQ2 : Hid (w1.heap[w.heap.size + 1]? = _) := (hb1.block (w.heap.size + 1) sz).trans HQ1.out
  have HB1 : Hid (Below W.heap.size W w1) := (Below.refl _ W).drew.trans hb1
  have HL1 : Hid (Lent w1 W.heap.size (.slice (some ⟨g, 0, none⟩) s.len (s.len + 1)) s) := ⟨g, cs, rfl, ho, hc⟩
  clear hb1 ho hc
  go_wp2_with fail
  refine bodyPost_five (s := 2) rfl rfl rfl HQ2.out fun W5 o5 b5 => ?_
  have hb5 := b5 w.heap.size (w.heap.size + 1) (Nat.le_succ _)
  have hWs := HW.out.size
  refine ⟨_, rfl, (HL1.out.kept fun g' h1 _ => o5 g' (by omega)).mono hWs, HW.out.trans ((HB1.out.mono hWs).trans ⟨hb5.os, hb5.tape, hb5.output, hb5.size, fun g' h1 => o5 g' (by omega)⟩)⟩
end Go.Proofs.YtlpdfifjdlfpdaaGreatDoor
