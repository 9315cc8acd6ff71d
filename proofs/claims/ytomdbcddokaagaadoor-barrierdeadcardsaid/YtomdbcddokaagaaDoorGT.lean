/- A world of one's own: a lane lays a word into a global.; A world of one's own: the collector scans a lane. -/
import Derived.Test.YtomdbcddokaagaaDoorGQ
import Derived.Test.YtomdbcddokaagaaDoorGR
/- A world of one's own: a lane lays a word into a global. -/
namespace Go.Proofs.YtomdbcddokaagaaDoor
open Go.RowKit

/-- A global is another word. -/
theorem KX.putG {w0 : Wz} {W : World} {wb : Nat} {p : Vp} {v : Vw} {L : List Lq} (X : KX w0 W wb p v L) {k g : Nat} (hk : k < v.gl.length) (hp : p.gr = some ⟨g, 0, none⟩) (n : Int) (hn : Rng n) : KX w0 (W.setCell ⟨g, k, none⟩ (.int .u64 n)) wb p ⟨v.h, v.ph, v.sw, v.grey, v.gl.set k n, v.laid, v.lanes⟩ L := by
  have own0 := X.g
  rw [hp] at own0
  have hg := (own0.lt g rfl).1
  have kp : ∀ q, q ≠ g → (W.setCell ⟨g, k, none⟩ (.int .u64 n)).heap[q]? = W.heap[q]? := fun q hq => Below.heap_setCell _ _ _ _ hq
  have own : ∀ {e size m : Nat} {u : Value} {xs : List Value}, W.ownsRow w0.heap.size e size u m xs → 57 ≠ e → (W.setCell ⟨g, k, none⟩ (.int .u64 n)).ownsRow w0.heap.size e size u m xs := fun h hn => own_same h (fun q hq => kp q (fun e => own_ne h own0 hn.symm q hq (by rw [e]; rfl)))
  have hput := own_put own0 (k := k) (by rw [List.length_map]; exact hk) (.int .u64 n)
  rw [← List.map_set] at hput
  have hap := X.ag
  rw [hp] at hap
  refine ⟨?_, X.lb, own X.c (by decide), own X.y (by decide), ?_, own X.l (by decide), fun q hq => own_same (X.q q hq) (fun j hj => kp j (fun e => hap q hq g rfl (by rw [← e]; exact hj))), ?_, X.aq, X.e, X.ok, ?_, X.rl, X.bel.setCell (p := ⟨g, k, none⟩) hg _, w0.st (fun q cs h => kp q (fun e => own_ty own0 h (by decide) (by rw [e]; rfl))) X.bz⟩
  · rw [kp wb (fun e => own_ty own0 X.b (by decide) (by rw [e]; rfl)), X.b]
    unfold Vp.cells
    rw [List.length_set]
  · rw [hp, List.length_set]
    exact hput
  · rw [List.length_set]
    exact X.ag
  · intro z hz
    rcases List.mem_or_eq_of_mem_set hz with h | rfl
    · exact X.rg z h
    · exact hn
/-- What KLay leaves. -/
def LayR (w0 : Wz) (wb : Nat) (p : Vp) (v : Vw) (L : List Lq) (q : Lq) (n : Int) (e : Ending) (w' : World) : Prop :=
  e = .returned (.bool true) ∧ (KX w0 w' wb p v L ∨ ∃ (k : Nat) (x : Int) (yr : Option Addr) (yc : Nat), v.gl[k]? = some x ∧ KX w0 w' wb { p with yr := yr, yc := yc } ⟨greyL v.h (layN v.h q.x.sc x n), v.ph, v.sw, v.grey ++ (layN v.h q.x.sc x n).map Int.ofNat, v.gl.set k n, v.laid, v.lanes⟩ L)
theorem lay_rd {w0 : Wz} {W : World} {wb gl i gg k : Nat} {p : Vp} {v : Vw} {L : List Lq} {q : Lq} {x : Int} (X : KX w0 W wb p v L) (hq : L[i]? = some q) (hl : p.lr = some ⟨gl, 0, none⟩) (hg : p.gr = some ⟨gg, 0, none⟩) (hx : v.gl[k]? = some x) : W.cell? ⟨wb, 0, none⟩ = some (.slice p.cr v.h.length p.cc) ∧ W.cell? ⟨wb, 1, none⟩ = some (.int .u8 v.ph) ∧ W.cell? ⟨wb, 4, none⟩ = some (.slice (some ⟨gg, 0, none⟩) v.gl.length p.gc) ∧ W.cell? ⟨gl, i * 3 + 1, none⟩ = some (.bool q.x.sc) ∧ W.cell? ⟨gg, k, none⟩ = some (.int .u64 x) ∧ wb < W.heap.size ∧ gl < W.heap.size ∧ gg < W.heap.size ∧ W.frozen? ⟨gg, k, none⟩ = false := by
  have o := X.g
  rw [hg] at o
  have ol := X.l
  rw [hl] at ol
  obtain ⟨_, l1, _⟩ := lq3_at L i q hq
  obtain ⟨cs, h1, _⟩ := own_out o
  refine ⟨heap_cell X.b rfl, heap_cell X.b rfl, ?_, own_cell ol l1, own_cell o (by rw [List.getElem?_map, hx]; rfl), heap_lt X.b, (ol.lt gl rfl).2, (o.lt gg rfl).2, fz_of h1 _⟩
  rw [← hg]
  exact heap_cell X.b rfl
set_option maxRecDepth 100000 in
set_option maxHeartbeats 16000000 in
theorem lane_lay (w0 : Wz) (w : World) (wb gl i : Nat) (p : Vp) (v : Vw) (L : List Lq) (q : Lq) (who a b d : Int) (hX : KX w0 w wb p v L) (hT : Tab w) (hp : v.ph = 1 ∨ v.ph = 2) (hs : v.h.length ≤ 100 ∧ v.grey.length + 2 ≤ 100000) (hgl : v.gl.length ≤ 2000) (hq : L[i]? = some q) (hpl : p.lr = some ⟨gl, 0, none⟩) (hr : q.x.roots.length ≤ 2000) (ha : -9223372036854775808 ≤ a ∧ a ≤ 9223372036854775807) (hd : -9223372036854775808 ≤ d ∧ d ≤ 9223372036854775807) :
    Calls Tryd.prog 62 #[.pointer (some ⟨wb, 0, none⟩), .agg #[.int .i64 4, .int .i64 who, .int .i64 a, .int .i64 b, .int .i64 d], .pointer (some ⟨gl, i * 3, none⟩)] w fun e w' => LayR w0 wb p v L q (valM q.x.roots d) e w' := by
  have hB0 := (Below.refl w.heap.size w).alloc (Nat.le_refl _) (.cells #[.int .i64 4, .int .i64 who, .int .i64 a, .int .i64 b, .int .i64 d] 72)
  have HX : Hid (KX w0 (w.alloc (.cells #[.int .i64 4, .int .i64 who, .int .i64 a, .int .i64 b, .int .i64 d] 72)) wb p v L) := hX.below hB0
  have HT : Hid (Tab (w.alloc (.cells #[.int .i64 4, .int .i64 who, .int .i64 a, .int .i64 b, .int .i64 d] 72))) := hT.below hB0
  have HB : Hid ((w.alloc (.cells #[.int .i64 4, .int .i64 who, .int .i64 a, .int .i64 b, .int .i64 d] 72)).heap[w.heap.size]? = some (.cells #[.int .i64 4, .int .i64 who, .int .i64 a, .int .i64 b, .int .i64 d] 72 (0, 0))) := heap_alloc_new w _
  have HS : Hid ((v.ph = 1 ∨ v.ph = 2) ∧ v.h.length ≤ 100 ∧ v.grey.length + 2 ≤ 100000) := ⟨hp, hs⟩
  have HQ : Hid (L[i]? = some q ∧ p.lr = some ⟨gl, 0, none⟩) := ⟨hq, hpl⟩
  have hmx : Tryd.prog.follows .mixedOrders = true := by kernel_rfl
  have HVa : Hid (∀ W : World, KX w0 W wb p v L → Calls Tryd.prog 61 #[.pointer (some ⟨gl, i * 3, none⟩), .int .i64 d] W fun e w' => e = .returned (.int .u64 (valM q.x.roots d)) ∧ w' = W) := fun W X => by
    have o := X.l
    rw [hpl] at o
    obtain ⟨g0, _, _⟩ := lq3_at L i q hq
    exact value_any q.x.roots q.ra q.cc gl (i * 3) d W (own_cell o g0) (o.lt gl rfl).2 (wr_own (X.q q (List.mem_of_getElem? hq)) (X.rl q (List.mem_of_getElem? hq))) (by omega) hd
  have HN : Hid (Rng (valM q.x.roots d)) := val_rng (hX.rl q (List.mem_of_getElem? hq)) d
  generalize valM q.x.roots d = n at HVa HN ⊢
  clear hX hT hB0 hp hs hq hpl hr hd
  go_enter Tryd.func62, Tryd.ntmps62
  go_upto_region 14 with fail
  generalize w.alloc (.cells #[.int .i64 4, .int .i64 who, .int .i64 a, .int .i64 b, .int .i64 d] 72) = W at HX HT HB ⊢
  generalize w.heap.size = sb at HB ⊢
  by_cases hlt : 0 < v.gl.length
  · have kg : (0 : Int) < (v.gl.length : Int) := by omega
    obtain ⟨gg, cg, hvg, _, _⟩ := World.ownsRow.form HX.out.g hlt
    have HPg : Hid (p.gr = some ⟨gg, 0, none⟩) := (Value.slice.inj hvg).1
    have hk := pick_lt (c := a) hlt
    have HPk : Hid (∀ W, Calls Tryd.prog 60 #[.int .i64 a, .int .i64 v.gl.length] W fun e w' => e = .returned (.int .i64 (pickN a v.gl.length)) ∧ w' = W) := fun W => pick_any a v.gl.length W ha hlt (by omega)
    generalize pickN a v.gl.length = k at hk HPk
    obtain ⟨x, hx⟩ : ∃ x, v.gl[k]? = some x := ⟨_, List.getElem?_eq_getElem hk⟩
    have kk0 : (0 : Int) ≤ (k : Int) := by omega
    have kk1 : (k : Int) < (v.gl.length : Int) := by omega
    have HV : Hid (v.gl[k]? = some x ∧ k < v.gl.length) := ⟨hx, hk⟩
    clear hvg hx hk ha hlt hgl
    obtain ⟨f0, f1, f4, f2, r0, lwb, lgl, lgg, _⟩ := lay_rd HX.out HQ.out.1 HQ.out.2 HPg.out HV.out.1
    have s2 : W.cell? ⟨sb, 2, none⟩ = some (.int .i64 a) := heap_cell HB.out rfl
    have s4 : W.cell? ⟨sb, 4, none⟩ = some (.int .i64 d) := heap_cell HB.out rfl
    have lsb := heap_lt HB.out
    go_upto_region 15 with fail
    go_region_held3 (fun w' : World => w'.cell? ⟨wb, 4, none⟩ = some (.slice (some ⟨gg, 0, none⟩) v.gl.length p.gc) ∧ w'.cell? ⟨sb, 2, none⟩ = some (.int .i64 a) ∧ wb < w'.heap.size ∧ sb < w'.heap.size) (first | exact ⟨f4, s2, lwb, lsb⟩ | (go_keep; done)) (first | (go_at_call 60; refine (HPk.out _).mono ?_; rintro e w99 ⟨rfl, hw99⟩; rw [hw99]; clear hw99) | fail)
    go_upto_region 16 with fail
    have HX1 : Hid (KX w0 W.drew wb p v L) := HX.out.below (Below.refl _ _).drew
    have HT1 : Hid (Tab W.drew) := HT.out.below (Below.refl _ _).drew
    have HB1 : Hid (W.drew.heap[sb]? = some (.cells #[.int .i64 4, .int .i64 who, .int .i64 a, .int .i64 b, .int .i64 d] 72 (0, 0))) := HB.out
    generalize W.drew = W1 at HX1 HT1 HB1 ⊢
    clear f0 f1 f2 f4 r0 lwb lgl lgg s2 s4 lsb HX HT HB HPk
    have s4 : W1.cell? ⟨sb, 4, none⟩ = some (.int .i64 d) := heap_cell HB1.out rfl
    have lsb := heap_lt HB1.out
    go_wp2_with fail
    refine Calls.mono (HVa.out W1 HX1.out) ?_
    rintro e w2 ⟨rfl, hw2⟩
    subst hw2
    obtain ⟨f0, f1, f4, f2, r0, lwb, lgl, lgg, _⟩ := lay_rd HX1.out HQ.out.1 HQ.out.2 HPg.out HV.out.1
    have HSt : Hid _ := lay_store w0 w2 wb p v L q.x.sc x n HX1.out HT1.out (HX1.out.rg x (List.mem_of_getElem? HV.out.1)) HN.out HS.out.1 HS.out.2.1
    have HSh : Hid _ := lay_shade w0 w2 wb p v L q.x.sc x n HX1.out HS.out.2
    have HKp : Hid (∀ w' : World, (∃ yr yc, KX w0 w' wb { p with yr := yr, yc := yc } (shV v (layN v.h q.x.sc x n) (v.grey ++ (layN v.h q.x.sc x n).map Int.ofNat)) L ∧ Ks w2 w') → w'.cell? ⟨wb, 0, none⟩ = some (.slice p.cr v.h.length p.cc) ∧ w'.cell? ⟨wb, 1, none⟩ = some (.int .u8 v.ph) ∧ w'.cell? ⟨wb, 4, none⟩ = some (.slice (some ⟨gg, 0, none⟩) v.gl.length p.gc) ∧ w'.cell? ⟨gl, i * 3 + 1, none⟩ = some (.bool q.x.sc) ∧ w'.cell? ⟨gg, k, none⟩ = some (.int .u64 x) ∧ wb < w'.heap.size ∧ gl < w'.heap.size ∧ gg < w'.heap.size) := by
      rintro w' ⟨yr, yc, X, _⟩
      have hl := greyL_len (layN v.h q.x.sc x n) v.h
      obtain ⟨g0, g1, g2, g3, g4, g5, g6, g7, _⟩ := lay_rd X HQ.out.1 HQ.out.2 HPg.out HV.out.1
      refine ⟨?_, g1, g2, g3, g4, g5, g6, g7⟩
      rw [← hl]
      exact g0
    have HKb : Hid (∀ w' : World, Below w2.heap.size w2 w' → w'.cell? ⟨wb, 0, none⟩ = some (.slice p.cr v.h.length p.cc) ∧ w'.cell? ⟨wb, 1, none⟩ = some (.int .u8 v.ph) ∧ w'.cell? ⟨wb, 4, none⟩ = some (.slice (some ⟨gg, 0, none⟩) v.gl.length p.gc) ∧ w'.cell? ⟨gl, i * 3 + 1, none⟩ = some (.bool q.x.sc) ∧ w'.cell? ⟨gg, k, none⟩ = some (.int .u64 x) ∧ wb < w'.heap.size ∧ gl < w'.heap.size ∧ gg < w'.heap.size) := fun w' hb => by
      obtain ⟨g0, g1, g2, g3, g4, g5, g6, g7, _⟩ := lay_rd (HX1.out.below hb) HQ.out.1 HQ.out.2 HPg.out HV.out.1
      exact ⟨g0, g1, g2, g3, g4, g5, g6, g7⟩
    clear HVa
    go_upto_region 17 with fail
    go_region_held3 (fun w' : World => w'.cell? ⟨wb, 0, none⟩ = some (.slice p.cr v.h.length p.cc) ∧ w'.cell? ⟨wb, 1, none⟩ = some (.int .u8 v.ph) ∧ w'.cell? ⟨wb, 4, none⟩ = some (.slice (some ⟨gg, 0, none⟩) v.gl.length p.gc) ∧ w'.cell? ⟨gl, i * 3 + 1, none⟩ = some (.bool q.x.sc) ∧ w'.cell? ⟨gg, k, none⟩ = some (.int .u64 x) ∧ wb < w'.heap.size ∧ gl < w'.heap.size ∧ gg < w'.heap.size) (first | exact ⟨f0, f1, f4, f2, r0, lwb, lgl, lgg⟩ | (go_keep; done) | exact HKp.out _ h5 | exact HKb.out _ ((Below.refl w2.heap.size w2).drew.trans hb4)) (first | (go_at_call 19; refine (HSt.out _ (Below.refl w2.heap.size w2).drew).mono ?_; rintro e w4 ⟨⟨v', rfl, ho4⟩, hb4⟩) | (go_at_call 84; refine (HSh.out w4 v' ((Below.refl w2.heap.size w2).drew.trans hb4) ho4).mono ?_; rintro e w5 ⟨rfl, h5⟩) | fail)
    obtain ⟨yr, yc, X, _⟩ := h5
    have HF : Hid (LayR w0 wb p v L q n (.returned (.bool true)) (w5.setCell ⟨gg, k, none⟩ (.int .u64 n))) := ⟨rfl, .inr ⟨k, x, yr, yc, HV.out.1, X.putG HV.out.2 HPg.out n HN.out⟩⟩
    obtain ⟨_, _, t4, _, t0, twb, _, tgg, tz⟩ := lay_rd X HQ.out.1 HQ.out.2 HPg.out HV.out.1
    have u4 : w5.cell? ⟨wb, 4, none⟩ = some (.slice (some ⟨gg, 0, none⟩) v.gl.length p.gc) := t4
    clear X t4 hb4 ho4 HSt HSh HKp HKb f0 f1 f2 f4 r0 lwb lgl lgg s4 lsb
    go_wp2
    go_ret
    exact HF.out
  · have kg : ¬ (0 : Int) < (v.gl.length : Int) := by omega
    have f4 : W.cell? ⟨wb, 4, none⟩ = some (.slice p.gr v.gl.length p.gc) := heap_cell HX.out.b rfl
    have lwb := heap_lt HX.out.b
    clear hlt HVa
    go_wp2
    go_ret
    exact ⟨rfl, .inl HX.out⟩
end Go.Proofs.YtomdbcddokaagaaDoor

/- A world of one's own: the collector scans a lane. -/
namespace Go.Proofs.YtomdbcddokaagaaDoor
open Go.RowKit

/-- The view with that lane scanned. -/
def scV (v : Vw) (i : Nat) (q : Lq) : Vw := ⟨v.h, v.ph, v.sw, v.grey, v.gl, v.laid, v.lanes.set i ⟨q.x.roots, true, q.x.en⟩⟩
def scL (L : List Lq) (i : Nat) (q : Lq) : List Lq := L.set i ⟨q.ra, q.cc, ⟨q.x.roots, true, q.x.en⟩⟩
/-- How its loop stands: j roots are shaded. -/
def ScX (w0 : Wz) (wr : World) (wb : Nat) (p : Vp) (v : Vw) (L : List Lq) (i : Nat) (q : Lq) (j : Nat) : Prop :=
  ∃ (l : List Nat) (yr : Option Addr) (yc : Nat), Sl v (q.x.roots.take j) l ∧ KX w0 wr wb { p with yr := yr, yc := yc } (shV (scV v i q) l (v.grey ++ l.map Int.ofNat)) (scL L i q) ∧ Tab wr
/-- What KScan leaves. -/
def ScanR (w0 : Wz) (wb : Nat) (p : Vp) (v : Vw) (L : List Lq) (i : Nat) (q : Lq) (e : Ending) (w' : World) : Prop :=
  e = .returned (.bool true) ∧ ∃ (l : List Nat) (yr : Option Addr) (yc : Nat), Sl v q.x.roots l ∧ KX w0 w' wb { p with yr := yr, yc := yc } (shV (scV v i q) l (v.grey ++ l.map Int.ofNat)) (scL L i q)
theorem tab_kx {w0 : Wz} {w W : World} {wb : Nat} {p : Vp} {v : Vw} {L : List Lq} (h : Tab w) (hT : 0 < w0.heap.size) (hw : Below w0.heap.size w0 w) (X : KX w0 W wb p v L) : Tab W := fun t ht => by
  have e : ∀ k, W.cell? ⟨0, k, none⟩ = w.cell? ⟨0, k, none⟩ := fun k => World.cell?_of_block (w := w) (a := ⟨0, k, none⟩) ((X.bel.block _ hT).trans (hw.block _ hT).symm)
  exact ⟨(e _).trans (h t ht).1, (e _).trans (h t ht).2⟩
set_option maxRecDepth 100000 in
set_option maxHeartbeats 16000000 in
theorem collect_scan (w0 : Wz) (w : World) (wb : Nat) (p : Vp) (v : Vw) (L : List Lq) (who a b d : Int) (q : Lq) (hX : KX w0 w wb p v L) (hT : Tab w) (hp : v.ph = 1 ∨ v.ph = 2) (hs : v.h.length ≤ 100 ∧ v.grey.length ≤ 1000) (hL : 0 < L.length ∧ L.length ≤ 8) (hwho : -9223372036854775808 ≤ who ∧ who ≤ 9223372036854775807) (hq : L[pickN who L.length]? = some q) (hr : q.x.roots.length ≤ 2000) (hTl : 0 < w0.heap.size) :
    Calls Tryd.prog 59 #[.pointer (some ⟨wb, 0, none⟩), .agg #[.int .i64 11, .int .i64 who, .int .i64 a, .int .i64 b, .int .i64 d]] w fun e w' => ScanR w0 wb p v L (pickN who L.length) q e w' := by
  obtain ⟨i, hi⟩ : ∃ i, i = pickN who L.length := ⟨_, rfl⟩
  have HP : Hid (∀ w : World, Calls Tryd.prog 60 #[.int .i64 who, .int .i64 L.length] w fun e w' => e = .returned (.int .i64 (i : Int)) ∧ w' = w) := fun w => by rw [hi]; exact pick_any who L.length w hwho hL.1 (by omega)
  rw [← hi] at hq ⊢
  have hB0 := (Below.refl w.heap.size w).alloc (Nat.le_refl _) (.cells #[.int .i64 11, .int .i64 who, .int .i64 a, .int .i64 b, .int .i64 d] 72)
  have hn0 := heap_alloc_new w (.cells #[.int .i64 11, .int .i64 who, .int .i64 a, .int .i64 b, .int .i64 d] 72)
  have HX : Hid (KX w0 (w.alloc (.cells #[.int .i64 11, .int .i64 who, .int .i64 a, .int .i64 b, .int .i64 d] 72)) wb p v L) := hX.below hB0
  have HT : Hid (Tab (w.alloc (.cells #[.int .i64 11, .int .i64 who, .int .i64 a, .int .i64 b, .int .i64 d] 72))) := hT.below hB0
  have HS : Hid ((v.ph = 1 ∨ v.ph = 2) ∧ v.h.length ≤ 100 ∧ v.grey.length ≤ 1000 ∧ q.x.roots.length ≤ 2000) := ⟨hp, hs.1, hs.2, hr⟩
  have HTl : Hid (0 < w0.heap.size) := hTl
  have HQ : Hid (L[i]? = some q) := hq
  have hiL := (List.getElem?_eq_some_iff.1 hq).1
  have hmx : Tryd.prog.follows .mixedOrders = true := by kernel_rfl
  obtain ⟨hL0, hL8⟩ := hL
  clear hX hT hp hs hB0 hwho hi
  go_enter Tryd.func59, Tryd.ntmps59
  go_upto_region 8 with fail
  generalize w.alloc (.cells #[.int .i64 11, .int .i64 who, .int .i64 a, .int .i64 b, .int .i64 d] 72) = W at HX HT hn0 ⊢
  generalize w.heap.size = stb at hn0 ⊢
  have s1 := heap_cell (j := 1) hn0 rfl
  have lst := heap_lt hn0
  obtain ⟨gl, cl, hvl, _, lgl⟩ := World.ownsRow.form HX.out.l hL0
  have hpl : p.lr = some ⟨gl, 0, none⟩ := (Value.slice.inj hvl).1
  have hlen : v.lanes.length = L.length := by rw [← HX.out.e, List.length_map]
  have f6 : W.cell? ⟨wb, 6, none⟩ = some (.slice (some ⟨gl, 0, none⟩) L.length p.lc) := by
    have h : W.cell? ⟨wb, 6, none⟩ = some (.slice p.lr v.lanes.length p.lc) := heap_cell HX.out.b rfl
    rw [hpl, hlen] at h
    exact h
  have lwb := heap_lt HX.out.b
  have kL : (0 : Int) < (L.length : Int) := by omega
  have kiL : (i : Int) < (L.length : Int) := by omega
  have ki0 : (0 : Int) ≤ (i : Int) := by omega
  have HPl : Hid (p.lr = some ⟨gl, 0, none⟩) := hpl
  clear hvl hpl hlen hn0 hq
  go_upto_region 9 with fail
  go_quiet (first | (go_at_call 60; exact Calls.quiet_of_same (HP.out _)) | fail)
  have HX1 : Hid (KX w0 (W.drewN nq) wb p v L) := HX.out.below (below_dN (Below.refl _ _) nq)
  have HT1 : Hid (Tab (W.drewN nq)) := HT.out.below (below_dN (Below.refl _ _) nq)
  go_upto_region 10 with fail
  generalize W.drewN nq = W1 at HX1 HT1 ⊢
  clear f6 lwb s1 lst lgl HX HT HP
  have ol := HX1.out.l
  rw [HPl.out] at ol
  obtain ⟨m0, m1, _⟩ := lq3_at L i q HQ.out
  have r1 : W1.cell? ⟨gl, i * 3 + 1, none⟩ = some (.bool q.x.sc) := own_cell ol m1
  have z1 : W1.frozen? ⟨gl, i * 3 + 1, none⟩ = false := by
    obtain ⟨cs, h1, _⟩ := own_out ol
    exact fz_of h1 _
  have lgl := (ol.lt gl rfl).2
  have HX2 : Hid (ScX w0 (W1.setCell ⟨gl, i * 3 + 1, none⟩ (.bool true)) wb p v L i q 0) := by
    have hk := HX1.out.scanX HQ.out HPl.out true
    refine ⟨[], p.yr, p.yc, ⟨fun c hc => (by cases hc), List.nodup_nil, fun w hw => (by simp at hw), by simp, fun c hc => (by cases hc)⟩, ?_, tab_kx HT1.out HTl.out HX1.out.bel hk⟩
    have e : shV (scV v i q) [] (v.grey ++ ([] : List Nat).map Int.ofNat) = scV v i q := by
      unfold shV greyL scV
      simp
    rw [e]
    exact hk
  clear ol m0 m1 HX1 HT1
  go_upto_region 11 with fail
  generalize W1.setCell ⟨gl, i * 3 + 1, none⟩ (.bool true) = W2 at HX2 ⊢
  have HRd : Hid (∀ (W' : World) (p' : Vp) (v' : Vw), KX w0 W' wb p' v' (scL L i q) → p'.lr = some ⟨gl, 0, none⟩ → W'.cell? ⟨gl, i * 3, none⟩ = some (.slice q.ra q.x.roots.length q.cc) ∧ gl < W'.heap.size ∧ W'.ownsRow w0.heap.size 57 1 (.slice q.ra q.x.roots.length q.cc) q.x.roots.length (q.x.roots.map (Value.int .u64)) ∧ ∀ x ∈ q.x.roots, Rng x) := fun W' p' v' X e1 => by
    have o := X.l
    rw [e1] at o
    have hm : (scL L i q)[i]? = some ⟨q.ra, q.cc, ⟨q.x.roots, true, q.x.en⟩⟩ := List.getElem?_set_self hiL
    obtain ⟨g0, _, _⟩ := lq3_at (scL L i q) i _ hm
    exact ⟨own_cell o g0, (o.lt gl rfl).2, X.q ⟨q.ra, q.cc, ⟨q.x.roots, true, q.x.en⟩⟩ (List.mem_of_getElem? hm), X.rl ⟨q.ra, q.cc, ⟨q.x.roots, true, q.x.en⟩⟩ (List.mem_of_getElem? hm)⟩
  clear r1 z1 lgl
  go_wp2
  go_loopw [7] (fun j wr => ∃ k : Nat, j = .int .i64 k ∧ k ≤ q.x.roots.length ∧ Hid (ScX w0 wr wb p v L i q k)) (fun j _ => q.x.roots.length - (intOf j).toNat)
  case atStart => exact ⟨0, rfl, Nat.zero_le _, HX2⟩
  case round =>
    clear HX2
    obtain ⟨k, rfl, hk, HX2⟩ := hrel
    obtain ⟨l, yr, yc, hsl, hkx, htb⟩ := HX2.out
    obtain ⟨f0, lgl, orow, hrng⟩ := HRd.out wr _ _ hkx HPl.out
    by_cases hlt : k < q.x.roots.length
    · obtain ⟨x, hx⟩ : ∃ x, q.x.roots[k]? = some x := ⟨_, List.getElem?_eq_getElem hlt⟩
      obtain ⟨gq, cq, hvq, _, lgq⟩ := World.ownsRow.form orow (by omega)
      have hpq : q.ra = some ⟨gq, 0, none⟩ := (Value.slice.inj hvq).1
      rw [hpq] at f0 orow
      have r0 : wr.cell? ⟨gq, k, none⟩ = some (.int .u64 x) := own_cell orow (by rw [List.getElem?_map, hx]; rfl)
      have k1 : (k : Int) < (q.x.roots.length : Int) := by omega
      have k0 : (0 : Int) ≤ (k : Int) := by omega
      have hxr := hrng x (List.mem_of_getElem? hx)
      have hlw := hsl.le
      have hln : (v.grey ++ l.map Int.ofNat).length + 2 ≤ 100000 := by
        have h1 := HS.out
        rw [List.length_append, List.length_map]
        rw [List.length_take] at hlw
        omega
      have HWo : Hid (Calls Tryd.prog 80 #[.pointer (some ⟨wb, 0, none⟩), .int .u64 x, .int .u64 x] wr.drew fun e w' => e = .returned (.bool true) ∧ ∃ yr' yc', KX w0 w' wb { ({ p with yr := yr, yc := yc } : Vp) with yr := yr', yc := yc' } (shV (shV (scV v i q) l (v.grey ++ l.map Int.ofNat)) (shN (greyL v.h l) [x, x]) ((v.grey ++ l.map Int.ofNat) ++ (shN (greyL v.h l) [x, x]).map Int.ofNat)) (scL L i q)) := words_any w0 wr.drew wb _ (shV (scV v i q) l (v.grey ++ l.map Int.ofNat)) _ x x (hkx.below ((Below.refl _ _).drew)) (htb.below ((Below.refl _ _).drew)) hxr hxr HS.out.1 ⟨by show (greyL v.h l).length ≤ 100; rw [greyL_len]; exact HS.out.2.1, hln⟩
      have HNx : Hid (∀ w' : World, (∃ yr' yc', KX w0 w' wb { ({ p with yr := yr, yc := yc } : Vp) with yr := yr', yc := yc' } (shV (shV (scV v i q) l (v.grey ++ l.map Int.ofNat)) (shN (greyL v.h l) [x, x]) ((v.grey ++ l.map Int.ofNat) ++ (shN (greyL v.h l) [x, x]).map Int.ofNat)) (scL L i q)) → (ScX w0 w' wb p v L i q (k + 1)) ∧ w'.cell? ⟨gl, i * 3, none⟩ = some (.slice (some ⟨gq, 0, none⟩) q.x.roots.length q.cc) ∧ w'.cell? ⟨gq, k, none⟩ = some (.int .u64 x) ∧ gl < w'.heap.size ∧ gq < w'.heap.size) := by
        rintro w' ⟨yr', yc', X⟩
        obtain ⟨g0, g1, g2, _⟩ := HRd.out w' _ _ X HPl.out
        rw [hpq] at g0 g2
        refine ⟨⟨l ++ shN (greyL v.h l) [x, x], yr', yc', ?_, ?_, tab_kx htb HTl.out hkx.bel X⟩, g0, own_cell g2 (by rw [List.getElem?_map, hx]; rfl), g1, (g2.lt gq rfl).2⟩
        · rw [List.take_add_one, hx]
          exact hsl.next x
        · have e : shV (scV v i q) (l ++ shN (greyL v.h l) [x, x]) (v.grey ++ (l ++ shN (greyL v.h l) [x, x]).map Int.ofNat) = shV (shV (scV v i q) l (v.grey ++ l.map Int.ofNat)) (shN (greyL v.h l) [x, x]) ((v.grey ++ l.map Int.ofNat) ++ (shN (greyL v.h l) [x, x]).map Int.ofNat) := by
            unfold shV scV
            rw [greyL_app, List.map_append, List.append_assoc]
          rw [e]
          exact X
      clear hkx htb hsl orow hvq hpq hx hxr hlw hln hrng HX2
      go_upto_region 14 with fail
      go_region_held3 (fun w' : World => w'.cell? ⟨gl, i * 3, none⟩ = some (.slice (some ⟨gq, 0, none⟩) q.x.roots.length q.cc) ∧ w'.cell? ⟨gq, k, none⟩ = some (.int .u64 x) ∧ gl < w'.heap.size ∧ gq < w'.heap.size) (first | exact ⟨f0, r0, lgl, lgq⟩ | (go_keep; done) | exact (HNx.out _ h5).2) (first | (go_at_call 80; refine HWo.out.mono ?_; rintro e w5 ⟨rfl, h5⟩) | fail)
      have HN : Hid (ScX w0 w5 wb p v L i q (k + 1)) := (HNx.out _ h5).1
      clear h5 HWo HNx f0 r0 lgl lgq
      go_wp2
      go_roundw
      case rel => exact ⟨k + 1, by go_num, by omega, HN⟩
      case measure => simp [intOf]; omega
    · obtain rfl : k = q.x.roots.length := by omega
      have HF : Hid (ScanR w0 wb p v L i q (.returned (.bool true)) wr) := by
        rw [List.take_length] at hsl
        exact ⟨rfl, l, yr, yc, hsl, hkx⟩
      have k1 : ¬ (q.x.roots.length : Int) < (q.x.roots.length : Int) := by omega
      clear hkx htb hsl orow hrng HX2
      go_wp2
      go_ret
      exact HF.out
end Go.Proofs.YtomdbcddokaagaaDoor
