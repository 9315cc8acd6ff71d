/- lent. -/
import Derived.Test.YtphpkedfcmghmaaDoorGG
namespace Go.Proofs.YtphpkedfcmghmaaDoor
open Go.RowKit

theorem len_flat {l : List Ln} {x : Ln} (h : x ∈ l) : x.roots.length ≤ (l.map Ln.roots).flatten.length := by
  induction l with
  | nil => cases h
  | cons y r ih =>
    rw [List.map_cons, List.flatten_cons, List.length_append]
    rcases List.mem_cons.1 h with rfl | h
    · omega
    · have := ih h; omega
theorem WR.rx {w : World} {ra : Option Addr} {l : List Int} (h : WR w ra l) : RX (Value.int .u64) w ra l := by
  obtain ⟨b, o, h1, h2⟩ := h
  exact ⟨b, o, h1, fun j x hx => ⟨(h2 j x hx).1, (h2 j x hx).2.1⟩⟩
theorem set7 {W : World} {b : Nat} {t : TypeId} {c0 c1 c2 c3 c4 c5 c6 : Value} (h : W.heap[b]? = some (.cells #[c0, c1, c2, c3, c4, c5, c6] t (0, 0))) (a0 a1 a2 a3 a4 a5 a6 : Value) : (((((((W.setCell ⟨b, 0, none⟩ a0).setCell ⟨b, 1, none⟩ a1).setCell ⟨b, 2, none⟩ a2).setCell ⟨b, 3, none⟩ a3).setCell ⟨b, 4, none⟩ a4).setCell ⟨b, 5, none⟩ a5).setCell ⟨b, 6, none⟩ a6).heap[b]? = some (.cells #[a0, a1, a2, a3, a4, a5, a6] t (0, 0)) := by
  have h0 : (W.setCell ⟨b, 0, none⟩ a0).heap[b]? = some (.cells #[a0, c1, c2, c3, c4, c5, c6] t (0, 0)) := by
    rw [set_atC h a0]
    rfl
  have h1 : ((W.setCell ⟨b, 0, none⟩ a0).setCell ⟨b, 1, none⟩ a1).heap[b]? = some (.cells #[a0, a1, c2, c3, c4, c5, c6] t (0, 0)) := by
    rw [set_atC h0 a1]
    rfl
  have h2 : (((W.setCell ⟨b, 0, none⟩ a0).setCell ⟨b, 1, none⟩ a1).setCell ⟨b, 2, none⟩ a2).heap[b]? = some (.cells #[a0, a1, a2, c3, c4, c5, c6] t (0, 0)) := by
    rw [set_atC h1 a2]
    rfl
  have h3 : ((((W.setCell ⟨b, 0, none⟩ a0).setCell ⟨b, 1, none⟩ a1).setCell ⟨b, 2, none⟩ a2).setCell ⟨b, 3, none⟩ a3).heap[b]? = some (.cells #[a0, a1, a2, a3, c4, c5, c6] t (0, 0)) := by
    rw [set_atC h2 a3]
    rfl
  have h4 : (((((W.setCell ⟨b, 0, none⟩ a0).setCell ⟨b, 1, none⟩ a1).setCell ⟨b, 2, none⟩ a2).setCell ⟨b, 3, none⟩ a3).setCell ⟨b, 4, none⟩ a4).heap[b]? = some (.cells #[a0, a1, a2, a3, a4, c5, c6] t (0, 0)) := by
    rw [set_atC h3 a4]
    rfl
  have h5 : ((((((W.setCell ⟨b, 0, none⟩ a0).setCell ⟨b, 1, none⟩ a1).setCell ⟨b, 2, none⟩ a2).setCell ⟨b, 3, none⟩ a3).setCell ⟨b, 4, none⟩ a4).setCell ⟨b, 5, none⟩ a5).heap[b]? = some (.cells #[a0, a1, a2, a3, a4, a5, c6] t (0, 0)) := by
    rw [set_atC h4 a5]
    rfl
  have h6 : (((((((W.setCell ⟨b, 0, none⟩ a0).setCell ⟨b, 1, none⟩ a1).setCell ⟨b, 2, none⟩ a2).setCell ⟨b, 3, none⟩ a3).setCell ⟨b, 4, none⟩ a4).setCell ⟨b, 5, none⟩ a5).setCell ⟨b, 6, none⟩ a6).heap[b]? = some (.cells #[a0, a1, a2, a3, a4, a5, a6] t (0, 0)) := by
    rw [set_atC h5 a6]
    rfl
  exact h6
theorem far7 {W : World} {b k : Nat} (hk : k ≠ b) (a0 a1 a2 a3 a4 a5 a6 : Value) : (((((((W.setCell ⟨b, 0, none⟩ a0).setCell ⟨b, 1, none⟩ a1).setCell ⟨b, 2, none⟩ a2).setCell ⟨b, 3, none⟩ a3).setCell ⟨b, 4, none⟩ a4).setCell ⟨b, 5, none⟩ a5).setCell ⟨b, 6, none⟩ a6).heap[k]? = W.heap[k]? :=
  (Below.heap_setCell _ _ _ _ hk).trans ((Below.heap_setCell _ _ _ _ hk).trans ((Below.heap_setCell _ _ _ _ hk).trans ((Below.heap_setCell _ _ _ _ hk).trans ((Below.heap_setCell _ _ _ _ hk).trans ((Below.heap_setCell _ _ _ _ hk).trans (Below.heap_setCell _ _ _ _ hk))))))
theorem below7 {n : Nat} {w W : World} {b : Nat} (h : Below n w W) (hb : n ≤ b) (a0 a1 a2 a3 a4 a5 a6 : Value) : Below n w (((((((W.setCell ⟨b, 0, none⟩ a0).setCell ⟨b, 1, none⟩ a1).setCell ⟨b, 2, none⟩ a2).setCell ⟨b, 3, none⟩ a3).setCell ⟨b, 4, none⟩ a4).setCell ⟨b, 5, none⟩ a5).setCell ⟨b, 6, none⟩ a6) :=
  (((((((h.setCell (p := ⟨b, 0, none⟩) hb _).setCell (p := ⟨b, 1, none⟩) hb _).setCell (p := ⟨b, 2, none⟩) hb _).setCell (p := ⟨b, 3, none⟩) hb _).setCell (p := ⟨b, 4, none⟩) hb _).setCell (p := ⟨b, 5, none⟩) hb _).setCell (p := ⟨b, 6, none⟩) hb _)
/-- A view that was lent. -/
structure LV (W : World) (B : Nat) (v : Vw) (gc gy gg : Nat) (lr : Option Addr) (lc : Nat) (L : List Lq) : Prop where
  c : LentW W B gc v.h
  y : LenI W B gy v.grey
  g : LenV W B gg v.gl
  l : W.ownsRow B 61 3 (.slice lr L.length lc) L.length (lq3 L)
  q : ∀ q ∈ L, ∃ g, q.ra = some ⟨g, 0, none⟩ ∧ q.cc = q.x.roots.length + 2 ∧ LenV W B g q.x.roots
  e : L.map Lq.x = v.lanes
def lvP (v : Vw) (gc gy gg : Nat) (lr : Option Addr) (lc : Nat) : Vp := ⟨some ⟨gc, 0, none⟩, v.h.length + 2, some ⟨gy, 0, none⟩, v.grey.length + 2, some ⟨gg, 0, none⟩, v.gl.length + 2, lr, lc⟩
def LnR (w : World) (v : Vw) (e : Ending) (w' : World) : Prop := ∃ gc gy gg lr lc L, e = .returned (.agg ((lvP v gc gy gg lr lc).cells v)) ∧ LV w' w.heap.size v gc gy gg lr lc L ∧ Below w.heap.size w w'
set_option maxRecDepth 100000 in
set_option maxHeartbeats 32000000 in
theorem lent_any (p : Vp) (v : Vw) (w : World) (hV : VL w p v) (hsm : v.h.length + v.grey.length + v.gl.length + v.lanes.length + (v.lanes.map Ln.roots).flatten.length ≤ 20000) :
    Calls Tryd.prog 8 #[.agg (p.cells v)] w fun e w' => LnR w v e w' := by
  obtain ⟨pcr, pcc, pyr, pyc, pgr, pgc, plr, plc⟩ := p
  have HV : Hid (VL w ⟨pcr, pcc, pyr, pyc, pgr, pgc, plr, plc⟩ v) := hV
  have HSm : Hid (v.h.length + v.grey.length + v.gl.length + v.lanes.length + (v.lanes.map Ln.roots).flatten.length ≤ 20000) := hsm
  have q1 : v.h.length ≤ 20000 := by omega
  have q2 : v.grey.length ≤ 20000 := by omega
  have q3 : v.gl.length ≤ 20000 := by omega
  have q4 : v.lanes.length ≤ 20000 := by omega
  obtain ⟨i1, hi1, hy0, hy1, hy2⟩ := info_parts infoLn
  obtain ⟨o2, ho2⟩ : ∃ o2 : Obj, o2 = .cells #[.slice none 0 0, .int .u8 0, .int .i64 0, .slice none 0 0, .slice none 0 0, .int .i64 0, .slice none 0 0] 28 := ⟨_, rfl⟩
  obtain ⟨W1, hW1⟩ : ∃ W1, ((w.alloc (.cells ((⟨pcr, pcc, pyr, pyc, pgr, pgc, plr, plc⟩ : Vp).cells v) 28)).alloc o2).alloc (.cells ((⟨pcr, pcc, pyr, pyc, pgr, pgc, plr, plc⟩ : Vp).cells v) 28) = W1 := ⟨_, rfl⟩
  have b1 : Below w.heap.size w W1 := by
    rw [← hW1]
    exact (((Below.refl _ w).alloc (Nat.le_refl _) _).alloc (by rw [World.size_alloc]; omega) _).alloc (by rw [World.size_alloc, World.size_alloc]; omega) _
  have HT1 : Hid (LT w W1 ⟨pcr, pcc, pyr, pyc, pgr, pgc, plr, plc⟩ v ⟨pcr, pcc, pyr, pyc, pgr, pgc, plr, plc⟩ v (.slice none 0 0) 0 [] (.slice none 0 0) 0 [] (.slice none 0 0) 0 [] (.slice none 0 0) []) := by
    refine ⟨?_, ⟨#[.slice none 0 0, .int .u8 0, .int .i64 0, .slice none 0 0, .slice none 0 0, .int .i64 0, .slice none 0 0], ?_, rfl⟩, ?_, World.ownsRow_nil _ _ _ _, World.ownsRow_nil _ _ _ _, World.ownsRow_nil _ _ _ _, World.ownsRow_nil _ _ _ _, (fun q hq => by cases hq), b1⟩
    · unfold VB
      rw [← hW1, Below.heap_alloc _ _ _ (by rw [World.size_alloc, World.size_alloc]; omega), Below.heap_alloc _ _ _ (by rw [World.size_alloc]; omega)]
      exact World.alloc_heap_new w _
    · rw [← hW1, Below.heap_alloc _ _ _ (by rw [World.size_alloc, World.size_alloc]; omega)]
      have := World.alloc_heap_new (w.alloc (.cells ((⟨pcr, pcc, pyr, pyc, pgr, pgc, plr, plc⟩ : Vp).cells v) 28)) o2
      rw [World.size_alloc] at this
      rw [this, ho2]
    · unfold VB
      rw [← hW1]
      have := World.alloc_heap_new ((w.alloc (.cells ((⟨pcr, pcc, pyr, pyc, pgr, pgc, plr, plc⟩ : Vp).cells v) 28)).alloc o2) (.cells ((⟨pcr, pcc, pyr, pyc, pgr, pgc, plr, plc⟩ : Vp).cells v) 28)
      rw [World.size_alloc, World.size_alloc] at this
      exact this
  have HW1 : Hid _ := hW1
  rw [ho2] at HW1
  unfold Vp.cells at HW1
  unfold Vp.cells
  dsimp only at HW1 ⊢
  clear hW1 hV b1 hsm ho2
  go_enter Tryd.func8, Tryd.ntmps8
  go_upto_region 2 with fail
  rw [HW1.out]
  clear HW1
  obtain ⟨d0, d1, d2, d3, d4, d5, d6⟩ := HT1.out.b1.at7
  dsimp only at d0 d3 d4 d6
  have l1 := HT1.out.lt
  have l1' : w.heap.size < W1.heap.size := by omega
  go_wp2_with fail
  refine Calls.mono (lentK_any v.h pcr pcc W1 (HV.out.h.below HT1.out.bel) (by omega)) ?_
  rintro e W2 ⟨⟨gc, rfl, hc⟩, b2⟩
  have HT2' : Hid (LT w W2 ⟨pcr, pcc, pyr, pyc, pgr, pgc, plr, plc⟩ v ⟨pcr, pcc, pyr, pyc, pgr, pgc, plr, plc⟩ v (.slice (some ⟨gc, 0, none⟩) (v.h.length + 2) (v.h.length + 2)) (v.h.length + 2) (cl4 v.h ++ mkC) (.slice none 0 0) 0 [] (.slice none 0 0) 0 [] (.slice none 0 0) []) := HT1.out.rowC b2 HT1.out.bel.size hc
  have HT2 : Hid (LT w (W2.setCell ⟨w.heap.size + 2, 0, none⟩ (.slice (some ⟨gc, 0, none⟩) v.h.length (v.h.length + 2))) ⟨pcr, pcc, pyr, pyc, pgr, pgc, plr, plc⟩ v ⟨some ⟨gc, 0, none⟩, v.h.length + 2, pyr, pyc, pgr, pgc, plr, plc⟩ v (.slice (some ⟨gc, 0, none⟩) (v.h.length + 2) (v.h.length + 2)) (v.h.length + 2) (cl4 v.h ++ mkC) (.slice none 0 0) 0 [] (.slice none 0 0) 0 [] (.slice none 0 0) []) := HT2'.out.field 0 _ rfl
  clear hc b2 HT1 d0 d1 d2 d3 d4 d5 d6 l1 l1'
  have f2 : W2.frozen? ⟨w.heap.size + 2, 0, none⟩ = false := vb_fz HT2'.out.b3 0
  obtain ⟨x0, x1, x2, x3, x4, x5, x6⟩ := HT2'.out.b3.at7
  dsimp only at x0 x3 x4 x6
  have l2 := HT2'.out.lt
  go_upto_region 3 with fail
  generalize W2.setCell ⟨w.heap.size + 2, 0, none⟩ (.slice (some ⟨gc, 0, none⟩) v.h.length (v.h.length + 2)) = W3 at HT2 ⊢
  clear x0 x1 x2 x3 x4 x5 x6 l2 f2 HT2'
  obtain ⟨d0, d1, d2, d3, d4, d5, d6⟩ := HT2.out.b1.at7
  dsimp only at d0 d3 d4 d6
  have l3 := HT2.out.lt
  have l3' : w.heap.size < W3.heap.size := by omega
  go_wp2_with fail
  refine Calls.mono (lentI_any v.grey pyr pyc W3 (HV.out.y.below HT2.out.bel) (by omega)) ?_
  rintro e W4 ⟨⟨gy, rfl, hc⟩, b4⟩
  have HT4' : Hid (LT w W4 ⟨pcr, pcc, pyr, pyc, pgr, pgc, plr, plc⟩ v ⟨some ⟨gc, 0, none⟩, v.h.length + 2, pyr, pyc, pgr, pgc, plr, plc⟩ v (.slice (some ⟨gc, 0, none⟩) (v.h.length + 2) (v.h.length + 2)) (v.h.length + 2) (cl4 v.h ++ mkC) (.slice (some ⟨gy, 0, none⟩) (v.grey.length + 2) (v.grey.length + 2)) (v.grey.length + 2) (v.grey.map (Value.int .i64) ++ [.int .i64 (-771), .int .i64 (-772)]) (.slice none 0 0) 0 [] (.slice none 0 0) []) := HT2.out.rowY b4 HT2.out.bel.size hc
  have HT4 : Hid (LT w (W4.setCell ⟨w.heap.size + 2, 3, none⟩ (.slice (some ⟨gy, 0, none⟩) v.grey.length (v.grey.length + 2))) ⟨pcr, pcc, pyr, pyc, pgr, pgc, plr, plc⟩ v ⟨some ⟨gc, 0, none⟩, v.h.length + 2, some ⟨gy, 0, none⟩, v.grey.length + 2, pgr, pgc, plr, plc⟩ v (.slice (some ⟨gc, 0, none⟩) (v.h.length + 2) (v.h.length + 2)) (v.h.length + 2) (cl4 v.h ++ mkC) (.slice (some ⟨gy, 0, none⟩) (v.grey.length + 2) (v.grey.length + 2)) (v.grey.length + 2) (v.grey.map (Value.int .i64) ++ [.int .i64 (-771), .int .i64 (-772)]) (.slice none 0 0) 0 [] (.slice none 0 0) []) := HT4'.out.field 3 _ rfl
  clear hc b4 HT2 d0 d1 d2 d3 d4 d5 d6 l3 l3'
  have f4 : W4.frozen? ⟨w.heap.size + 2, 3, none⟩ = false := vb_fz HT4'.out.b3 3
  obtain ⟨x0, x1, x2, x3, x4, x5, x6⟩ := HT4'.out.b3.at7
  dsimp only at x0 x3 x4 x6
  have l4 := HT4'.out.lt
  go_upto_region 4 with fail
  generalize W4.setCell ⟨w.heap.size + 2, 3, none⟩ (.slice (some ⟨gy, 0, none⟩) v.grey.length (v.grey.length + 2)) = W5 at HT4 ⊢
  clear x0 x1 x2 x3 x4 x5 x6 l4 f4 HT4'
  obtain ⟨d0, d1, d2, d3, d4, d5, d6⟩ := HT4.out.b1.at7
  dsimp only at d0 d3 d4 d6
  have l5 := HT4.out.lt
  have l5' : w.heap.size < W5.heap.size := by omega
  go_wp2_with fail
  refine Calls.mono (lentV_any v.gl pgr pgc W5 ((HV.out.g.below HT4.out.bel).rx) (by omega)) ?_
  rintro e W6 ⟨⟨gg, rfl, hc⟩, b6⟩
  have HT6' : Hid (LT w W6 ⟨pcr, pcc, pyr, pyc, pgr, pgc, plr, plc⟩ v ⟨some ⟨gc, 0, none⟩, v.h.length + 2, some ⟨gy, 0, none⟩, v.grey.length + 2, pgr, pgc, plr, plc⟩ v (.slice (some ⟨gc, 0, none⟩) (v.h.length + 2) (v.h.length + 2)) (v.h.length + 2) (cl4 v.h ++ mkC) (.slice (some ⟨gy, 0, none⟩) (v.grey.length + 2) (v.grey.length + 2)) (v.grey.length + 2) (v.grey.map (Value.int .i64) ++ [.int .i64 (-771), .int .i64 (-772)]) (.slice (some ⟨gg, 0, none⟩) (v.gl.length + 2) (v.gl.length + 2)) (v.gl.length + 2) (v.gl.map (Value.int .u64) ++ [.int .u64 77777771, .int .u64 77777772]) (.slice none 0 0) []) := HT4.out.rowG b6 HT4.out.bel.size hc
  have HT6 : Hid (LT w ((W6.setCell ⟨w.heap.size + 2, 4, none⟩ (.slice (some ⟨gg, 0, none⟩) v.gl.length (v.gl.length + 2))).setCell ⟨w.heap.size + 2, 6, none⟩ (.slice none 0 0)) ⟨pcr, pcc, pyr, pyc, pgr, pgc, plr, plc⟩ v ⟨some ⟨gc, 0, none⟩, v.h.length + 2, some ⟨gy, 0, none⟩, v.grey.length + 2, some ⟨gg, 0, none⟩, v.gl.length + 2, none, 0⟩ ⟨v.h, v.ph, v.sw, v.grey, v.gl, v.laid, []⟩ (.slice (some ⟨gc, 0, none⟩) (v.h.length + 2) (v.h.length + 2)) (v.h.length + 2) (cl4 v.h ++ mkC) (.slice (some ⟨gy, 0, none⟩) (v.grey.length + 2) (v.grey.length + 2)) (v.grey.length + 2) (v.grey.map (Value.int .i64) ++ [.int .i64 (-771), .int .i64 (-772)]) (.slice (some ⟨gg, 0, none⟩) (v.gl.length + 2) (v.gl.length + 2)) (v.gl.length + 2) (v.gl.map (Value.int .u64) ++ [.int .u64 77777771, .int .u64 77777772]) (.slice none 0 0) []) := (HT6'.out.field (px' := ⟨some ⟨gc, 0, none⟩, v.h.length + 2, some ⟨gy, 0, none⟩, v.grey.length + 2, some ⟨gg, 0, none⟩, v.gl.length + 2, plr, plc⟩) (vx' := v) 4 _ rfl).field 6 _ rfl
  clear hc b6 HT4 d0 d1 d2 d3 d4 d5 d6 l5 l5'
  have f6 : ∀ j, W6.frozen? ⟨w.heap.size + 2, j, none⟩ = false := fun j => vb_fz HT6'.out.b3 j
  obtain ⟨x0, x1, x2, x3, x4, x5, x6⟩ := HT6'.out.b3.at7
  dsimp only at x0 x3 x4 x6
  have l6 := HT6'.out.lt
  go_upto_region 6 with fail
  generalize (W6.setCell ⟨w.heap.size + 2, 4, none⟩ (.slice (some ⟨gg, 0, none⟩) v.gl.length (v.gl.length + 2))).setCell ⟨w.heap.size + 2, 6, none⟩ (.slice none 0 0) = W7 at HT6 ⊢
  clear x0 x1 x2 x3 x4 x5 x6 l6 f6 HT6'
  go_wp2_with fail
  go_loopw [4] (fun i wr => ∃ (k : Nat) (L : List Lq) (rl : Option Addr) (cl : Nat), i = .int .i64 k ∧ k ≤ v.lanes.length ∧ L.length = k ∧ Hid (L.map Lq.x = v.lanes.take k) ∧ Hid (LT w wr ⟨pcr, pcc, pyr, pyc, pgr, pgc, plr, plc⟩ v ⟨some ⟨gc, 0, none⟩, v.h.length + 2, some ⟨gy, 0, none⟩, v.grey.length + 2, some ⟨gg, 0, none⟩, v.gl.length + 2, rl, cl⟩ ⟨v.h, v.ph, v.sw, v.grey, v.gl, v.laid, L.map Lq.x⟩ (.slice (some ⟨gc, 0, none⟩) (v.h.length + 2) (v.h.length + 2)) (v.h.length + 2) (cl4 v.h ++ mkC) (.slice (some ⟨gy, 0, none⟩) (v.grey.length + 2) (v.grey.length + 2)) (v.grey.length + 2) (v.grey.map (Value.int .i64) ++ [.int .i64 (-771), .int .i64 (-772)]) (.slice (some ⟨gg, 0, none⟩) (v.gl.length + 2) (v.gl.length + 2)) (v.gl.length + 2) (v.gl.map (Value.int .u64) ++ [.int .u64 77777771, .int .u64 77777772]) (.slice rl L.length cl) L)) (fun i _ => v.lanes.length - (intOf i).toNat)
  case atStart => exact ⟨0, [], none, 0, rfl, Nat.zero_le _, rfl, rfl, HT6⟩
  case round =>
    clear HT6
    obtain ⟨k, L, rl, cl, rfl, hk, hLk, HM, HT⟩ := hrel
    subst hLk
    obtain ⟨d0, d1, d2, d3, d4, d5, d6⟩ := HT.out.b1.at7
    dsimp only at d6
    clear d0 d1 d2 d3 d4 d5
    have l1 := HT.out.lt
    have l1' : w.heap.size < wr.heap.size := by omega
    by_cases hkl : L.length < v.lanes.length
    · have k1 : (L.length : Int) < (v.lanes.length : Int) := by omega
      obtain ⟨x, hx⟩ : ∃ x, v.lanes[L.length]? = some x := ⟨_, List.getElem?_eq_getElem hkl⟩
      obtain ⟨b, o, hor, hcs⟩ := HV.out.l.below HT.out.bel
      have hlr : plr = some ⟨b, o, none⟩ := hor.resolve_left (by omega)
      subst hlr
      obtain ⟨g1, ⟨ry, rc, c0, hw, c3⟩, c4, c5⟩ := hcs L.length x hx
      have HM2 : Hid (v.lanes.take (L.length + 1) = L.map Lq.x ++ [x]) := by show _ = _; rw [List.take_add_one, hx, HM.out]; rfl
      have hrl : x.roots.length ≤ 20000 := by
        have h1 : x.roots.length ≤ (v.lanes.map Ln.roots).flatten.length := len_flat (List.mem_of_getElem? hx)
        have := HSm.out
        omega
      obtain ⟨W8, hW8⟩ : ∃ W8, wr.alloc (.cells #[.slice ry x.roots.length rc, .bool x.sc, .bool x.en] 61) = W8 := ⟨_, rfl⟩
      have b8 : Below wr.heap.size wr W8 := by rw [← hW8]; exact (Below.refl _ wr).alloc (Nat.le_refl _) _
      have n8 : W8.heap[wr.heap.size]? = some (.cells #[.slice ry x.roots.length rc, .bool x.sc, .bool x.en] 61 (0, 0)) := by rw [← hW8]; exact World.alloc_heap_new _ _
      have HT8 : Hid (LT w W8 ⟨pcr, pcc, pyr, pyc, pgr, pgc, some ⟨b, o, none⟩, plc⟩ v ⟨some ⟨gc, 0, none⟩, v.h.length + 2, some ⟨gy, 0, none⟩, v.grey.length + 2, some ⟨gg, 0, none⟩, v.gl.length + 2, rl, cl⟩ ⟨v.h, v.ph, v.sw, v.grey, v.gl, v.laid, L.map Lq.x⟩ (.slice (some ⟨gc, 0, none⟩) (v.h.length + 2) (v.h.length + 2)) (v.h.length + 2) (cl4 v.h ++ mkC) (.slice (some ⟨gy, 0, none⟩) (v.grey.length + 2) (v.grey.length + 2)) (v.grey.length + 2) (v.grey.map (Value.int .i64) ++ [.int .i64 (-771), .int .i64 (-772)]) (.slice (some ⟨gg, 0, none⟩) (v.gl.length + 2) (v.gl.length + 2)) (v.gl.length + 2) (v.gl.map (Value.int .u64) ++ [.int .u64 77777771, .int .u64 77777772]) (.slice rl L.length cl) L) := HT.out.below b8
      have hw8 := hw.below b8
      have HW8 : Hid _ := hW8
      have HB8 : Hid (Below wr.heap.size wr W8) := b8
      clear hcs hor hx HM hW8 b8
      go_upto_region 10 with fail
      rw [HW8.out]
      clear HW8 HT8 d6 c0 c4 c5 g1 hw
      have a0 := heap_cell (j := 0) n8 rfl
      have a1 := heap_cell (j := 1) n8 rfl
      have a2 := heap_cell (j := 2) n8 rfl
      have l8 := heap_lt n8
      go_wp2_with fail
      refine Calls.mono (lentV_any x.roots ry rc W8 hw8.rx (by omega)) ?_
      rintro e W9 ⟨⟨gL, rfl, hc⟩, b9⟩
      have n9 : W9.heap[wr.heap.size]? = some (.cells #[.slice ry x.roots.length rc, .bool x.sc, .bool x.en] 61 (0, 0)) := (b9.block _ l8).trans n8
      have n10 : (W9.setCell ⟨wr.heap.size, 0, none⟩ (.slice (some ⟨gL, 0, none⟩) x.roots.length (x.roots.length + 2))).heap[wr.heap.size]? = some (.cells #[.slice (some ⟨gL, 0, none⟩) x.roots.length (x.roots.length + 2), .bool x.sc, .bool x.en] 61 (0, 0)) := set_atC n9 _
      have B9 : Below wr.heap.size wr W9 := HB8.out.trans (b9.mono HB8.out.size)
      have B10 : Below wr.heap.size wr (W9.setCell ⟨wr.heap.size, 0, none⟩ (.slice (some ⟨gL, 0, none⟩) x.roots.length (x.roots.length + 2))) := B9.setCell (p := ⟨wr.heap.size, 0, none⟩) (Nat.le_refl _) _
      have HR10 : Hid (LenV (W9.setCell ⟨wr.heap.size, 0, none⟩ (.slice (some ⟨gL, 0, none⟩) x.roots.length (x.roots.length + 2))) w.heap.size gL x.roots) := own_low (own_same hc (fun k hk' => Below.heap_setCell _ _ _ _ (fun e => own_ty hc n9 (by decide) (by rw [show k = wr.heap.size from e] at hk'; exact hk')))) (Nat.le_trans HT.out.bel.size HB8.out.size)
      have HT10 : Hid (LT w (W9.setCell ⟨wr.heap.size, 0, none⟩ (.slice (some ⟨gL, 0, none⟩) x.roots.length (x.roots.length + 2))) ⟨pcr, pcc, pyr, pyc, pgr, pgc, some ⟨b, o, none⟩, plc⟩ v ⟨some ⟨gc, 0, none⟩, v.h.length + 2, some ⟨gy, 0, none⟩, v.grey.length + 2, some ⟨gg, 0, none⟩, v.gl.length + 2, rl, cl⟩ ⟨v.h, v.ph, v.sw, v.grey, v.gl, v.laid, L.map Lq.x⟩ (.slice (some ⟨gc, 0, none⟩) (v.h.length + 2) (v.h.length + 2)) (v.h.length + 2) (cl4 v.h ++ mkC) (.slice (some ⟨gy, 0, none⟩) (v.grey.length + 2) (v.grey.length + 2)) (v.grey.length + 2) (v.grey.map (Value.int .i64) ++ [.int .i64 (-771), .int .i64 (-772)]) (.slice (some ⟨gg, 0, none⟩) (v.gl.length + 2) (v.gl.length + 2)) (v.gl.length + 2) (v.gl.map (Value.int .u64) ++ [.int .u64 77777771, .int .u64 77777772]) (.slice rl L.length cl) L) := HT.out.below B10
      have f9 : W9.frozen? ⟨wr.heap.size, 0, none⟩ = false := by simp [World.frozen?, n9]
      have e0 := heap_cell (j := 0) n9 rfl
      have l9 := heap_lt n9
      clear hc b9 B9 B10 HT HB8 n9 a0 a1 a2 l8 n8 hw8
      go_upto_region 11 with fail
      generalize W9.setCell ⟨wr.heap.size, 0, none⟩ (.slice (some ⟨gL, 0, none⟩) x.roots.length (x.roots.length + 2)) = W10 at HT10 HR10 n10 ⊢
      clear e0 f9 l9
      have a0 := heap_cell (j := 0) n10 rfl
      have a1 := heap_cell (j := 1) n10 rfl
      have a2 := heap_cell (j := 2) n10 rfl
      have la := heap_lt n10
      obtain ⟨x0, x1, x2, x3, x4, x5, x6⟩ := HT10.out.b3.at7
      dsimp only at x6
      rw [List.length_map] at x6
      clear x0 x1 x2 x3 x4 x5
      have l10 := HT10.out.lt
      have b11 : Below W10.heap.size W10 (W10.alloc (.cells #[.slice (some ⟨gL, 0, none⟩) x.roots.length (x.roots.length + 2), .bool x.sc, .bool x.en] 61)) := (Below.refl _ W10).alloc (Nat.le_refl _) _
      have HT11 : Hid (LT w (W10.alloc (.cells #[.slice (some ⟨gL, 0, none⟩) x.roots.length (x.roots.length + 2), .bool x.sc, .bool x.en] 61)) ⟨pcr, pcc, pyr, pyc, pgr, pgc, some ⟨b, o, none⟩, plc⟩ v ⟨some ⟨gc, 0, none⟩, v.h.length + 2, some ⟨gy, 0, none⟩, v.grey.length + 2, some ⟨gg, 0, none⟩, v.gl.length + 2, rl, cl⟩ ⟨v.h, v.ph, v.sw, v.grey, v.gl, v.laid, L.map Lq.x⟩ (.slice (some ⟨gc, 0, none⟩) (v.h.length + 2) (v.h.length + 2)) (v.h.length + 2) (cl4 v.h ++ mkC) (.slice (some ⟨gy, 0, none⟩) (v.grey.length + 2) (v.grey.length + 2)) (v.grey.length + 2) (v.grey.map (Value.int .i64) ++ [.int .i64 (-771), .int .i64 (-772)]) (.slice (some ⟨gg, 0, none⟩) (v.gl.length + 2) (v.gl.length + 2)) (v.gl.length + 2) (v.gl.map (Value.int .u64) ++ [.int .u64 77777771, .int .u64 77777772]) (.slice rl L.length cl) L) := HT10.out.below b11
      have HR11 : Hid (LenV (W10.alloc (.cells #[.slice (some ⟨gL, 0, none⟩) x.roots.length (x.roots.length + 2), .bool x.sc, .bool x.en] 61)) w.heap.size gL x.roots) := own_same HR10.out (fun k hk' => b11.block k (HR10.out.lt k hk').2)
      clear HT10 HR10 b11
      go_wp2_with (at_builtin; refine stop_of ?_)
      unfold Hid
      refine wpList_append_all _ rfl _ _ 26 rfl w.heap.size 61 i1 _ 3 32 Tryd.underlying26 hi1 hy0 hy1 hy2 rfl (by decide) (.slice rl L.length cl) L.length (lq3 L) rfl HT11.out.l (some ⟨W10.heap.size, 0, none⟩) 1 1 [.slice (some ⟨gL, 0, none⟩) x.roots.length (x.roots.length + 2), .bool x.sc, .bool x.en] rfl rfl (fun e => by cases e) (fun ad had j u hu => by cases had; rw [ad_add, Nat.zero_add]; exact new_cell W10 _ _ j u hu) (by intro u hu; simp at hu; rcases hu with rfl | rfl | rfl <;> rfl) (by unfold maxLen; omega) (by omega) HT11.out.bel.size ?_
      intro rl' cl' W12 hown12 hgr12 _
      have hl2 : (L ++ [(⟨some ⟨gL, 0, none⟩, x.roots.length + 2, x⟩ : Lq)]).length = L.length + 1 := by rw [List.length_append]; rfl
      have HT12 : Hid (LT w W12 ⟨pcr, pcc, pyr, pyc, pgr, pgc, some ⟨b, o, none⟩, plc⟩ v ⟨some ⟨gc, 0, none⟩, v.h.length + 2, some ⟨gy, 0, none⟩, v.grey.length + 2, some ⟨gg, 0, none⟩, v.gl.length + 2, rl, cl⟩ ⟨v.h, v.ph, v.sw, v.grey, v.gl, v.laid, L.map Lq.x⟩ (.slice (some ⟨gc, 0, none⟩) (v.h.length + 2) (v.h.length + 2)) (v.h.length + 2) (cl4 v.h ++ mkC) (.slice (some ⟨gy, 0, none⟩) (v.grey.length + 2) (v.grey.length + 2)) (v.grey.length + 2) (v.grey.map (Value.int .i64) ++ [.int .i64 (-771), .int .i64 (-772)]) (.slice (some ⟨gg, 0, none⟩) (v.gl.length + 2) (v.gl.length + 2)) (v.gl.length + 2) (v.gl.map (Value.int .u64) ++ [.int .u64 77777771, .int .u64 77777772]) (.slice rl' (L.length + 1) cl') (L ++ [⟨some ⟨gL, 0, none⟩, x.roots.length + 2, x⟩])) := HT11.out.growL hgr12 (by rw [hl2, lq3_app]; exact hown12) (fun q hq => by
        rcases List.mem_append.1 hq with hq | hq
        · exact HT11.out.q q hq
        · rw [List.mem_singleton.1 hq]
          exact ⟨gL, rfl, rfl, HR11.out⟩)
      have HT13 : Hid (LT w (W12.setCell ⟨w.heap.size + 2, 6, none⟩ (.slice rl' (L.length + 1) cl')) ⟨pcr, pcc, pyr, pyc, pgr, pgc, some ⟨b, o, none⟩, plc⟩ v ⟨some ⟨gc, 0, none⟩, v.h.length + 2, some ⟨gy, 0, none⟩, v.grey.length + 2, some ⟨gg, 0, none⟩, v.gl.length + 2, rl', cl'⟩ ⟨v.h, v.ph, v.sw, v.grey, v.gl, v.laid, (L ++ [(⟨some ⟨gL, 0, none⟩, x.roots.length + 2, x⟩ : Lq)]).map Lq.x⟩ (.slice (some ⟨gc, 0, none⟩) (v.h.length + 2) (v.h.length + 2)) (v.h.length + 2) (cl4 v.h ++ mkC) (.slice (some ⟨gy, 0, none⟩) (v.grey.length + 2) (v.grey.length + 2)) (v.grey.length + 2) (v.grey.map (Value.int .i64) ++ [.int .i64 (-771), .int .i64 (-772)]) (.slice (some ⟨gg, 0, none⟩) (v.gl.length + 2) (v.gl.length + 2)) (v.gl.length + 2) (v.gl.map (Value.int .u64) ++ [.int .u64 77777771, .int .u64 77777772]) (.slice rl' (L.length + 1) cl') (L ++ [⟨some ⟨gL, 0, none⟩, x.roots.length + 2, x⟩])) := HT12.out.field 6 _ (by
        unfold Vp.cells
        dsimp only
        rw [List.length_map, List.length_map, hl2]
        rfl)
      have f12 : W12.frozen? ⟨w.heap.size + 2, 6, none⟩ = false := vb_fz HT12.out.b3 6
      obtain ⟨x0, x1, x2, x3, x4, x5, x7⟩ := HT12.out.b3.at7
      have l12 := HT12.out.lt
      clear x0 x1 x2 x3 x4 x5 hown12 hgr12 HT11 HR11 x6 a0 a1 a2 la l10 n10
      go_wp2_with fail
      go_roundw
      case rel => exact ⟨L.length + 1, L ++ [⟨some ⟨gL, 0, none⟩, x.roots.length + 2, x⟩], rl', cl', by go_num, by omega, hl2, by show _ = _; rw [HM2.out, List.map_append]; rfl, by rw [hl2]; exact HT13⟩
      case measure => simp [intOf]; omega
    · have k1 : ¬ (L.length : Int) < (v.lanes.length : Int) := by omega
      have HM2 : Hid (L.map Lq.x = v.lanes) := by
        have h' := HM.out
        rw [List.take_of_length_le (by omega)] at h'
        exact h'
      clear HM
      obtain ⟨x0, x1, x2, x3, x4, x5, x6⟩ := HT.out.b3.at7
      dsimp only at x0 x3 x4 x6
      obtain ⟨cs2, n2, z2⟩ := HT.out.b2
      obtain ⟨c0, c1, c2, c3, c4, c5, c6, rfl⟩ : ∃ c0 c1 c2 c3 c4 c5 c6, cs2 = #[c0, c1, c2, c3, c4, c5, c6] := by
        obtain ⟨cl⟩ := cs2
        rcases cl with _ | ⟨c0, _ | ⟨c1, _ | ⟨c2, _ | ⟨c3, _ | ⟨c4, _ | ⟨c5, _ | ⟨c6, _ | ⟨c7, r⟩⟩⟩⟩⟩⟩⟩⟩
        · cases z2
        · cases z2
        · cases z2
        · cases z2
        · cases z2
        · cases z2
        · cases z2
        · exact ⟨c0, c1, c2, c3, c4, c5, c6, rfl⟩
        · simp at z2
      have y0 := heap_cell (j := 0) n2 rfl
      have y1 := heap_cell (j := 1) n2 rfl
      have y2 := heap_cell (j := 2) n2 rfl
      have y3 := heap_cell (j := 3) n2 rfl
      have y4 := heap_cell (j := 4) n2 rfl
      have y5 := heap_cell (j := 5) n2 rfl
      have y6 := heap_cell (j := 6) n2 rfl
      have fz : ∀ j, wr.frozen? ⟨w.heap.size + 1, j, none⟩ = false := fun j => by simp [World.frozen?, n2]
      have l2 := heap_lt n2
      have HN2 : Hid _ := n2
      rw [List.length_map] at x6
      clear n2 z2
      go_wp2_with fail
      have hLv : L.length = v.lanes.length := by have := congrArg List.length HM2.out; rwa [List.length_map] at this
      refine bodyPost_ret (results_vw (b := w.heap.size + 1) rfl rfl (set7 HN2.out _ _ _ _ _ _ _)) rfl ⟨gc, gy, gg, rl, cl, L, ?_, ?_, below7 HT.out.bel (Nat.le_add_right _ 1) _ _ _ _ _ _ _⟩
      · unfold lvP Vp.cells
        rw [← hLv]
      · have own : ∀ {e size n : Nat} {x : Value} {xs : List Value}, wr.ownsRow w.heap.size e size x n xs → 28 ≠ e → (((((((wr.setCell ⟨w.heap.size + 1, 0, none⟩ (.slice (some ⟨gc, 0, none⟩) v.h.length (v.h.length + 2))).setCell ⟨w.heap.size + 1, 1, none⟩ (.int .u8 v.ph)).setCell ⟨w.heap.size + 1, 2, none⟩ (.int .i64 v.sw)).setCell ⟨w.heap.size + 1, 3, none⟩ (.slice (some ⟨gy, 0, none⟩) v.grey.length (v.grey.length + 2))).setCell ⟨w.heap.size + 1, 4, none⟩ (.slice (some ⟨gg, 0, none⟩) v.gl.length (v.gl.length + 2))).setCell ⟨w.heap.size + 1, 5, none⟩ (.int .i64 v.laid)).setCell ⟨w.heap.size + 1, 6, none⟩ (.slice rl L.length cl)).ownsRow w.heap.size e size x n xs := fun h hn => own_same h (fun k hk' => far7 (fun e => own_ty h HN2.out hn (by rw [e] at hk'; exact hk')) _ _ _ _ _ _ _)
        refine ⟨own HT.out.c (by decide), own HT.out.y (by decide), own HT.out.g (by decide), own HT.out.l (by decide), fun q hq => ?_, HM2.out⟩
        obtain ⟨g, h1, h2, h3⟩ := HT.out.q q hq
        exact ⟨g, h1, h2, own h3 (by decide)⟩
end Go.Proofs.YtphpkedfcmghmaaDoor
