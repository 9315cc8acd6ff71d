/- A world of one's own: a lane's step.; A world of one's own: steps of no lane, and of one that has ended. -/
import Derived.Test.YtomdbcddokaagaaDoorGU
import Derived.StillTailTactics
/- A world of one's own: a lane's step. -/
namespace Go.Proofs.YtomdbcddokaagaaDoor
open Go.RowKit

/-- A region whose first n operations turn nothing, and whose others have one order. -/
theorem tail_at {P : Program} {id : Nat} {Q : Exit → Act → World → Prop} {a : Act} {w : World} {l : List Oper} (n : Nat) (hm : P.follows .mixedOrders = true) (hB : Region.lexTailB .any l.toArray n = true)
    (h : wpStill P l.toArray w.drew (fun a' => wpList P l.toArray Q (l.drop n) a' w.drew) (l.take n) a) : (Code.region id l.toArray true).wp P Q a w := wp_region_still_tail n hm hB h
set_option maxRecDepth 100000 in
set_option maxHeartbeats 16000000 in
theorem step_lane (w0 : Wz) (w : World) (wb i : Nat) (p : Vp) (v : Vw) (L : List Lq) (q : Lq) (N : Nat) (kd who a b d : Int) (hX : KX w0 w wb p v L) (hT : Tab w) (hk : kd < 10) (h8 : ¬ kd = 8) (hi : i = pickN who L.length) (hq : L[i]? = some q) (hen : q.x.en = false) (hTl : 0 < w0.heap.size) (hg : Good v) (hB : Bn v N) (hN : 2 ≤ N ∧ N + 2 ≤ 2000) (hw : Sml who) (ha : Sml a) (hb : Sml b) (hd : Sml d) :
    Calls Tryd.prog 14 #[.pointer (some ⟨wb, 0, none⟩), .agg #[.int .i64 kd, .int .i64 who, .int .i64 a, .int .i64 b, .int .i64 d]] w fun e w' => Steps w0 wb (fun v' _ => Mvs v v') e w' := by
  have hB0 := (Below.refl w.heap.size w).alloc (Nat.le_refl _) (.cells #[.int .i64 kd, .int .i64 who, .int .i64 a, .int .i64 b, .int .i64 d] 72)
  have HX : Hid (KX w0 (w.alloc (.cells #[.int .i64 kd, .int .i64 who, .int .i64 a, .int .i64 b, .int .i64 d] 72)) wb p v L) := hX.below hB0
  have HT : Hid (Tab (w.alloc (.cells #[.int .i64 kd, .int .i64 who, .int .i64 a, .int .i64 b, .int .i64 d] 72))) := hT.below hB0
  have HB : Hid ((w.alloc (.cells #[.int .i64 kd, .int .i64 who, .int .i64 a, .int .i64 b, .int .i64 d] 72)).heap[w.heap.size]? = some (.cells #[.int .i64 kd, .int .i64 who, .int .i64 a, .int .i64 b, .int .i64 d] 72 (0, 0))) := heap_alloc_new w _
  have hiL := (List.getElem?_eq_some_iff.1 hq).1
  have hlen : v.lanes.length = L.length := by rw [← hX.e, List.length_map]
  have hl8 := hB.l
  have hmx : Tryd.prog.follows .mixedOrders = true := by kernel_rfl
  have HPk : Hid (∀ W, Calls Tryd.prog 60 #[.int .i64 who, .int .i64 L.length] W fun e w' => e = .returned (.int .i64 i) ∧ w' = W) := fun W => by rw [hi]; exact pick_any who L.length W hw (by omega) (by omega)
  obtain ⟨gl, cl, hvl, -, -⟩ := World.ownsRow.form hX.l (show 0 < L.length by omega)
  have hpl : p.lr = some ⟨gl, 0, none⟩ := (Value.slice.inj hvl).1
  obtain ⟨G, hF⟩ := hg.fm
  have HL : Hid (∀ W : World, KX w0 W wb p v L → Tab W → Calls Tryd.prog 62 #[.pointer (some ⟨wb, 0, none⟩), .agg #[.int .i64 kd, .int .i64 who, .int .i64 a, .int .i64 b, .int .i64 d], .pointer (some ⟨gl, i * 3, none⟩)] W fun e w' => Goes w0 wb v e w') := fun W X T => lane_any w0 W wb gl i p v L q G kd who a b d X T hF (hB.bd (by omega)) hq hen hpl ha hb hd
  have HG : Hid (Good v ∧ Bn v N) := ⟨hg, hB⟩
  have HQ : Hid (L[i]? = some q ∧ p.lr = some ⟨gl, 0, none⟩) := ⟨hq, hpl⟩
  have HTl : Hid (0 < w0.heap.size) := hTl
  clear hX hT hB0 hTl hg hF hq hvl hpl hB hi ha hb hd hw G
  go_enter Tryd.func14, Tryd.ntmps14
  go_upto_region 1 with fail
  generalize w.alloc (.cells #[.int .i64 kd, .int .i64 who, .int .i64 a, .int .i64 b, .int .i64 d] 72) = W at HX HT HB ⊢
  generalize w.heap.size = sb at HB ⊢
  have s0 : W.cell? ⟨sb, 0, none⟩ = some (.int .i64 kd) := heap_cell HB.out rfl
  have s1 : W.cell? ⟨sb, 1, none⟩ = some (.int .i64 who) := heap_cell HB.out rfl
  have s2 : W.cell? ⟨sb, 2, none⟩ = some (.int .i64 a) := heap_cell HB.out rfl
  have s3 : W.cell? ⟨sb, 3, none⟩ = some (.int .i64 b) := heap_cell HB.out rfl
  have s4 : W.cell? ⟨sb, 4, none⟩ = some (.int .i64 d) := heap_cell HB.out rfl
  have lsb := heap_lt HB.out
  have f6 : W.cell? ⟨wb, 6, none⟩ = some (.slice (some ⟨gl, 0, none⟩) L.length p.lc) := by
    have h : W.cell? ⟨wb, 6, none⟩ = some (.slice p.lr v.lanes.length p.lc) := heap_cell HX.out.b rfl
    rw [HQ.out.2, hlen] at h
    exact h
  have lwb := heap_lt HX.out.b
  have ol := HX.out.l
  rw [HQ.out.2] at ol
  obtain ⟨_, _, m2⟩ := lq3_at L i q HQ.out.1
  have r2 : W.cell? ⟨gl, i * 3 + 1 + 1, none⟩ = some (.bool q.x.en) := own_cell ol m2
  rw [hen] at r2
  have lgl := (ol.lt gl rfl).2
  have k1 : (0 : Int) ≤ (i : Int) := by omega
  have k2 : (i : Int) < (L.length : Int) := by omega
  have k3 : ¬ (L.length : Int) = 0 := by omega
  clear ol m2 hlen
  go_upto_region 8 with fail
  go_quiet (first | (go_at_call 60; exact Calls.quiet_of_same (HPk.out _)) | fail)
  go_upto_region 3 with fail
  have HX2 : Hid (KX w0 (W.drewN nq).drew wb p v L) := HX.out.below (below_dN (Below.refl _ _) nq).drew
  have HT2 : Hid (Tab (W.drewN nq).drew) := HT.out.below (below_dN (Below.refl _ _) nq).drew
  have HB2 : Hid ((W.drewN nq).drew.heap[sb]? = some (.cells #[.int .i64 kd, .int .i64 who, .int .i64 a, .int .i64 b, .int .i64 d] 72 (0, 0))) := ((below_dN (Below.refl _ W) nq).drew.block sb lsb).trans HB.out
  refine tail_at 12 hmx (by kernel_rfl) ?_
  generalize (W.drewN nq).drew = W2 at HX2 HT2 HB2 ⊢
  clear s0 s1 s2 s3 s4 lsb f6 lwb r2 lgl HB HX HT
  have s0 : W2.cell? ⟨sb, 0, none⟩ = some (.int .i64 kd) := heap_cell HB2.out rfl
  have s1 : W2.cell? ⟨sb, 1, none⟩ = some (.int .i64 who) := heap_cell HB2.out rfl
  have s2 : W2.cell? ⟨sb, 2, none⟩ = some (.int .i64 a) := heap_cell HB2.out rfl
  have s3 : W2.cell? ⟨sb, 3, none⟩ = some (.int .i64 b) := heap_cell HB2.out rfl
  have s4 : W2.cell? ⟨sb, 4, none⟩ = some (.int .i64 d) := heap_cell HB2.out rfl
  have lsb := heap_lt HB2.out
  have f6 : W2.cell? ⟨wb, 6, none⟩ = some (.slice (some ⟨gl, 0, none⟩) L.length p.lc) := by
    have h : W2.cell? ⟨wb, 6, none⟩ = some (.slice p.lr v.lanes.length p.lc) := heap_cell HX2.out.b rfl
    rw [HQ.out.2, show v.lanes.length = L.length by rw [← HX2.out.e, List.length_map]] at h
    exact h
  have lwb := heap_lt HX2.out.b
  simp only [List.take_succ_cons, List.take_zero, List.drop_succ_cons, List.drop_zero]
  repeat still_step
  still_call (HPk.out _)
  repeat still_step
  refine wpStill_nil ?_
  clear HPk
  go_wp2_with fail
  refine Calls.mono (HL.out _ HX2.out HT2.out) ?_
  rintro e w1 ⟨rfl, p', v', L', X1, hr1⟩
  have HX1 : Hid (KX w0 w1 wb p' v' L') := X1
  have HT1 : Hid (Tab w1) := tab_kx HT2.out HTl.out HX2.out.bel X1
  have HR1 : Hid (Mvs v v') := hr1
  have g0 : w1.cell? ⟨wb, 0, none⟩ = some (.slice p'.cr v'.h.length p'.cc) := heap_cell X1.b rfl
  have g1 : w1.cell? ⟨wb, 1, none⟩ = some (.int .u8 v'.ph) := heap_cell X1.b rfl
  have g2 : w1.cell? ⟨wb, 2, none⟩ = some (.int .i64 v'.sw) := heap_cell X1.b rfl
  have g3 : w1.cell? ⟨wb, 3, none⟩ = some (.slice p'.yr v'.grey.length p'.yc) := heap_cell X1.b rfl
  have g4 : w1.cell? ⟨wb, 4, none⟩ = some (.slice p'.gr v'.gl.length p'.gc) := heap_cell X1.b rfl
  have g5 : w1.cell? ⟨wb, 5, none⟩ = some (.int .i64 v'.laid) := heap_cell X1.b rfl
  have g6 : w1.cell? ⟨wb, 6, none⟩ = some (.slice p'.lr v'.lanes.length p'.lc) := heap_cell X1.b rfl
  have gwl := heap_lt X1.b
  clear X1 hr1 HX2 HT2 HB2 s0 s1 s2 s3 s4 lsb f6 lwb HL
  go_wp2_with fail
  refine Calls.mono (holds_kx HX1.out HT1.out (HG.out.1.mvs HR1.out) (HG.out.2.mvs hN.1 HR1.out) hN.2) ?_
  rintro e w2 ⟨rfl, hb2⟩
  have HF : Hid (Steps w0 wb (fun v' _ => Mvs v v') (.returned (.bool true)) w2) := ⟨rfl, p', v', L', HX1.out.below hb2, HR1.out⟩
  clear hb2 g0 g1 g2 g3 g4 g5 g6 gwl HX1 HT1
  go_wp2
  go_ret
  exact HF.out
end Go.Proofs.YtomdbcddokaagaaDoor

/- A world of one's own: steps of no lane, and of one that has ended. -/
namespace Go.Proofs.YtomdbcddokaagaaDoor
open Go.RowKit

set_option maxRecDepth 100000 in
set_option maxHeartbeats 16000000 in
theorem step_zero (w0 : Wz) (w : World) (wb : Nat) (p : Vp) (v : Vw) (L : List Lq) (kd who a b d : Int) (hX : KX w0 w wb p v L) (hk : kd < 10) (hL : L.length = 0) :
    Calls Tryd.prog 14 #[.pointer (some ⟨wb, 0, none⟩), .agg #[.int .i64 kd, .int .i64 who, .int .i64 a, .int .i64 b, .int .i64 d]] w fun e w' => e = .returned (.bool true) ∧ Below w.heap.size w w' := by
  have HB : Hid (Below w.heap.size w (w.alloc (.cells #[.int .i64 kd, .int .i64 who, .int .i64 a, .int .i64 b, .int .i64 d] 72))) := (Below.refl w.heap.size w).alloc (Nat.le_refl _) _
  have X := hX.below HB.out
  have hlen : v.lanes.length = 0 := by rw [← hX.e, List.length_map, hL]
  have f6 : (w.alloc (.cells #[.int .i64 kd, .int .i64 who, .int .i64 a, .int .i64 b, .int .i64 d] 72)).cell? ⟨wb, 6, none⟩ = some (.slice p.lr 0 p.lc) := by
    have h : (w.alloc (.cells #[.int .i64 kd, .int .i64 who, .int .i64 a, .int .i64 b, .int .i64 d] 72)).cell? ⟨wb, 6, none⟩ = some (.slice p.lr v.lanes.length p.lc) := heap_cell X.b rfl
    rw [hlen] at h
    exact h
  have lwb := heap_lt X.b
  have hn : (w.alloc (.cells #[.int .i64 kd, .int .i64 who, .int .i64 a, .int .i64 b, .int .i64 d] 72)).heap[w.heap.size]? = some (.cells #[.int .i64 kd, .int .i64 who, .int .i64 a, .int .i64 b, .int .i64 d] 72 (0, 0)) := heap_alloc_new w _
  clear X hX hL hlen
  go_enter Tryd.func14, Tryd.ntmps14
  go_upto_region 1 with fail
  generalize w.alloc (.cells #[.int .i64 kd, .int .i64 who, .int .i64 a, .int .i64 b, .int .i64 d] 72) = W at HB f6 lwb hn ⊢
  generalize hsb : w.heap.size = sb at hn ⊢
  have s0 : W.cell? ⟨sb, 0, none⟩ = some (.int .i64 kd) := heap_cell hn rfl
  have lsb := heap_lt hn
  clear hn hsb
  go_wp2
  go_ret
  exact ⟨rfl, HB.out⟩
set_option maxRecDepth 100000 in
set_option maxHeartbeats 16000000 in
theorem step_ended (w0 : Wz) (w : World) (wb i : Nat) (p : Vp) (v : Vw) (L : List Lq) (q : Lq) (kd who a b d : Int) (hX : KX w0 w wb p v L) (hk : kd < 10) (hi : i = pickN who L.length) (hq : L[i]? = some q) (hen : q.x.en = true) (hL : L.length ≤ 8) (hw : Sml who) :
    Calls Tryd.prog 14 #[.pointer (some ⟨wb, 0, none⟩), .agg #[.int .i64 kd, .int .i64 who, .int .i64 a, .int .i64 b, .int .i64 d]] w fun e w' => e = .returned (.bool true) ∧ KX w0 w' wb p v L := by
  have hB0 := (Below.refl w.heap.size w).alloc (Nat.le_refl _) (.cells #[.int .i64 kd, .int .i64 who, .int .i64 a, .int .i64 b, .int .i64 d] 72)
  have HX : Hid (KX w0 (w.alloc (.cells #[.int .i64 kd, .int .i64 who, .int .i64 a, .int .i64 b, .int .i64 d] 72)) wb p v L) := hX.below hB0
  have HB : Hid ((w.alloc (.cells #[.int .i64 kd, .int .i64 who, .int .i64 a, .int .i64 b, .int .i64 d] 72)).heap[w.heap.size]? = some (.cells #[.int .i64 kd, .int .i64 who, .int .i64 a, .int .i64 b, .int .i64 d] 72 (0, 0))) := heap_alloc_new w _
  have hiL := (List.getElem?_eq_some_iff.1 hq).1
  have hlen : v.lanes.length = L.length := by rw [← hX.e, List.length_map]
  have HPk : Hid (∀ W, Calls Tryd.prog 60 #[.int .i64 who, .int .i64 L.length] W fun e w' => e = .returned (.int .i64 i) ∧ w' = W) := fun W => by rw [hi]; exact pick_any who L.length W hw (by omega) (by omega)
  obtain ⟨gl, cl, hvl, -, -⟩ := World.ownsRow.form hX.l (show 0 < L.length by omega)
  have hpl : p.lr = some ⟨gl, 0, none⟩ := (Value.slice.inj hvl).1
  have HQ : Hid (L[i]? = some q ∧ p.lr = some ⟨gl, 0, none⟩) := ⟨hq, hpl⟩
  clear hX hB0 hq hvl hpl hi hw
  go_enter Tryd.func14, Tryd.ntmps14
  go_upto_region 1 with fail
  generalize w.alloc (.cells #[.int .i64 kd, .int .i64 who, .int .i64 a, .int .i64 b, .int .i64 d] 72) = W at HX HB ⊢
  generalize w.heap.size = sb at HB ⊢
  have s0 : W.cell? ⟨sb, 0, none⟩ = some (.int .i64 kd) := heap_cell HB.out rfl
  have s1 : W.cell? ⟨sb, 1, none⟩ = some (.int .i64 who) := heap_cell HB.out rfl
  have lsb := heap_lt HB.out
  have f6 : W.cell? ⟨wb, 6, none⟩ = some (.slice (some ⟨gl, 0, none⟩) L.length p.lc) := by
    have h : W.cell? ⟨wb, 6, none⟩ = some (.slice p.lr v.lanes.length p.lc) := heap_cell HX.out.b rfl
    rw [HQ.out.2, hlen] at h
    exact h
  have lwb := heap_lt HX.out.b
  have ol := HX.out.l
  rw [HQ.out.2] at ol
  obtain ⟨_, _, m2⟩ := lq3_at L i q HQ.out.1
  have r2 : W.cell? ⟨gl, i * 3 + 1 + 1, none⟩ = some (.bool q.x.en) := own_cell ol m2
  rw [hen] at r2
  have lgl := (ol.lt gl rfl).2
  have k1 : (0 : Int) ≤ (i : Int) := by omega
  have k2 : (i : Int) < (L.length : Int) := by omega
  have k3 : ¬ (L.length : Int) = 0 := by omega
  clear ol m2 hlen
  go_upto_region 8 with fail
  go_quiet (first | (go_at_call 60; exact Calls.quiet_of_same (HPk.out _)) | fail)
  have HX2 : Hid (KX w0 (W.drewN nq) wb p v L) := HX.out.below (below_dN (Below.refl _ _) nq)
  clear HPk HX HB
  go_wp2
  go_ret
  exact ⟨rfl, HX2.out⟩
end Go.Proofs.YtomdbcddokaagaaDoor
