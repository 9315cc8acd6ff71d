/- A world of one's own: a lane fills a free cell. -/
import Derived.Test.YtomdbcddokaagaaDoorGO
import Derived.Test.YtomdbcddokaagaaDoorGQ
namespace Go.Proofs.YtomdbcddokaagaaDoor
open Go.RowKit

/-- What fill leaves. -/
def FillR (w0 : Wz) (wb : Nat) (p : Vp) (v : Vw) (L : List Lq) (i : Nat) (q : Lq) (a b : Int) (e : Ending) (w' : World) : Prop :=
  e = .returned (.bool true) ∧ (KX w0 w' wb p v L ∨ ∃ (c : Nat) (x : Cl) (k : Int) (yr : Option Addr) (yc : Nat), v.h[c]? = some x ∧ x.k = 0 ∧ 1 ≤ k ∧ k ≤ 3 ∧
    Took w0 wb { p with yr := yr, yc := yc } ⟨(greyL v.h (filN v.h q.x.sc a b)).set c ⟨k, 2, a, b⟩, v.ph, v.sw, v.grey ++ (filN v.h q.x.sc a b).map Int.ofNat, v.gl, v.laid, v.lanes⟩ L i q (mkW 8 c) w')
/-- What is read of a world that lies so. -/
theorem fill_rd {w0 : Wz} {W : World} {wb gl i gc c : Nat} {p : Vp} {v : Vw} {L : List Lq} {q : Lq} {y : Cl} (X : KX w0 W wb p v L) (hq : L[i]? = some q) (hl : p.lr = some ⟨gl, 0, none⟩) (hc : p.cr = some ⟨gc, 0, none⟩) (hy : v.h[c]? = some y) : W.cell? ⟨wb, 0, none⟩ = some (.slice (some ⟨gc, 0, none⟩) v.h.length p.cc) ∧ W.cell? ⟨wb, 1, none⟩ = some (.int .u8 v.ph) ∧ W.cell? ⟨wb, 2, none⟩ = some (.int .i64 v.sw) ∧ W.cell? ⟨gl, i * 3 + 1, none⟩ = some (.bool q.x.sc) ∧ W.cell? ⟨gc, c * 4, none⟩ = some (.int .u8 y.k) ∧ W.cell? ⟨gc, c * 4 + 1, none⟩ = some (.int .u8 y.c) ∧ W.cell? ⟨gc, c * 4 + 1 + 1, none⟩ = some (.int .u64 y.a) ∧ W.cell? ⟨gc, c * 4 + 1 + 1 + 1, none⟩ = some (.int .u64 y.b) ∧ (∀ o, W.frozen? ⟨gc, o, none⟩ = false) ∧ wb < W.heap.size ∧ gl < W.heap.size ∧ gc < W.heap.size := by
  have o := X.c
  rw [hc] at o
  have ol := X.l
  rw [hl] at ol
  obtain ⟨q0, q1, q2, q3⟩ := cl4_at v.h c y hy
  obtain ⟨_, l1, _⟩ := lq3_at L i q hq
  obtain ⟨cs, h1, _⟩ := own_out o
  refine ⟨?_, heap_cell X.b rfl, heap_cell X.b rfl, own_cell ol l1, own_cell o q0, own_cell o q1, own_cell o q2, own_cell o q3, fun k => fz_of h1 k, heap_lt X.b, (ol.lt gl rfl).2, (o.lt gc rfl).2⟩
  rw [← hc]
  exact heap_cell X.b rfl
set_option maxRecDepth 100000 in
set_option maxHeartbeats 16000000 in
theorem kfill_any (w0 : Wz) (w : World) (wb gl i : Nat) (p : Vp) (v : Vw) (L : List Lq) (q : Lq) (kd who a b d : Int) (hX : KX w0 w wb p v L) (hT : Tab w) (hp : v.ph = 1 ∨ v.ph = 2) (hs : v.h.length ≤ 100 ∧ v.grey.length + 2 ≤ 100000) (hq : L[i]? = some q) (hpl : p.lr = some ⟨gl, 0, none⟩) (hr : q.x.roots.length ≤ 2000) (ha : -9223372036854775808 ≤ a ∧ a ≤ 9223372036854775807) (hb : -9223372036854775808 ≤ b ∧ b ≤ 9223372036854775807) (hd : -9223372036854775808 ≤ d ∧ d ≤ 9223372036854775807) :
    Calls Tryd.prog 85 #[.pointer (some ⟨wb, 0, none⟩), .agg #[.int .i64 kd, .int .i64 who, .int .i64 a, .int .i64 b, .int .i64 d], .pointer (some ⟨gl, i * 3, none⟩)] w fun e w' => FillR w0 wb p v L i q (valM q.x.roots a) (valM q.x.roots b) e w' := by
  have hB0 := (Below.refl w.heap.size w).alloc (Nat.le_refl _) (.cells #[.int .i64 kd, .int .i64 who, .int .i64 a, .int .i64 b, .int .i64 d] 72)
  have HX : Hid (KX w0 (w.alloc (.cells #[.int .i64 kd, .int .i64 who, .int .i64 a, .int .i64 b, .int .i64 d] 72)) wb p v L) := hX.below hB0
  have HT : Hid (Tab (w.alloc (.cells #[.int .i64 kd, .int .i64 who, .int .i64 a, .int .i64 b, .int .i64 d] 72))) := hT.below hB0
  have HB : Hid ((w.alloc (.cells #[.int .i64 kd, .int .i64 who, .int .i64 a, .int .i64 b, .int .i64 d] 72)).heap[w.heap.size]? = some (.cells #[.int .i64 kd, .int .i64 who, .int .i64 a, .int .i64 b, .int .i64 d] 72 (0, 0))) := heap_alloc_new w _
  have HS : Hid ((v.ph = 1 ∨ v.ph = 2) ∧ v.h.length ≤ 100 ∧ v.grey.length + 2 ≤ 100000) := ⟨hp, hs⟩
  have HQ : Hid (L[i]? = some q ∧ p.lr = some ⟨gl, 0, none⟩) := ⟨hq, hpl⟩
  have hmx : Tryd.prog.follows .mixedOrders = true := by kernel_rfl
  have val : ∀ d : Int, (-9223372036854775808 ≤ d ∧ d ≤ 9223372036854775807) → ∀ W : World, KX w0 W wb p v L → Calls Tryd.prog 61 #[.pointer (some ⟨gl, i * 3, none⟩), .int .i64 d] W fun e w' => e = .returned (.int .u64 (valM q.x.roots d)) ∧ w' = W := fun d hd W X => by
    have o := X.l
    rw [hpl] at o
    obtain ⟨g0, _, _⟩ := lq3_at L i q hq
    exact value_any q.x.roots q.ra q.cc gl (i * 3) d W (own_cell o g0) (o.lt gl rfl).2 (wr_own (X.q q (List.mem_of_getElem? hq)) (X.rl q (List.mem_of_getElem? hq))) (by omega) hd
  have HVa : Hid _ := val a ha
  have HVb : Hid _ := val b hb
  have HPk : Hid (∃ k : Nat, k < 3 ∧ ∀ W, Calls Tryd.prog 60 #[.int .i64 d, .int .i64 3] W fun e w' => e = .returned (.int .i64 k) ∧ w' = W) := ⟨pickN d 3, pick_lt (by omega), fun W => pick_any d 3 W hd (by omega) (by omega)⟩
  have HBi : Hid (∀ (c : Int) (W : World), Calls Tryd.prog 21 #[.int .u8 v.ph, .int .i64 c, .int .i64 v.sw] W fun e w' => e = .returned (.int .u8 2) ∧ w' = W) := fun c W => birth_on v.ph c v.sw W hp
  have HTk : Hid (∀ (W : World) (p' : Vp) (v' : Vw) (x : Int), KX w0 W wb p' v' L → p'.lr = some ⟨gl, 0, none⟩ → Rng x → Calls Tryd.prog 82 #[.pointer (some ⟨gl, i * 3, none⟩), .int .u64 x] W fun e w' => (∃ u, e = .returned u) ∧ Took w0 wb p' v' L i q x w') := fun W p' v' x X hl hx => takes_kx w0 W wb gl i p' v' L q x X hq hl hx
  have HNa : Hid (Rng (valM q.x.roots a)) := val_rng (hX.rl q (List.mem_of_getElem? hq)) a
  have HNb : Hid (Rng (valM q.x.roots b)) := val_rng (hX.rl q (List.mem_of_getElem? hq)) b
  generalize valM q.x.roots a = na at HVa HNa ⊢
  generalize valM q.x.roots b = nb at HVb HNb ⊢
  clear hX hT hB0 hp hs hq hpl val ha hb hd
  go_enter Tryd.func85, Tryd.ntmps85
  go_upto_region 1 with fail
  generalize w.alloc (.cells #[.int .i64 kd, .int .i64 who, .int .i64 a, .int .i64 b, .int .i64 d] 72) = W at HX HT HB ⊢
  generalize w.heap.size = sb at HB ⊢
  have s2 : W.cell? ⟨sb, 2, none⟩ = some (.int .i64 a) := heap_cell HB.out rfl
  have s3 : W.cell? ⟨sb, 3, none⟩ = some (.int .i64 b) := heap_cell HB.out rfl
  have lsb := heap_lt HB.out
  have f0 : W.cell? ⟨wb, 0, none⟩ = some (.slice p.cr v.h.length p.cc) := heap_cell HX.out.b rfl
  have lwb := heap_lt HX.out.b
  go_wp2
  go_loopw [7] (fun j wr => ∃ k : Nat, j = .int .i64 k ∧ k ≤ v.h.length ∧ wr = W) (fun j _ => v.h.length - (intOf j).toNat)
  case atStart => exact ⟨0, rfl, Nat.zero_le _, rfl⟩
  case round =>
    obtain ⟨k, rfl, hk, rfl⟩ := hrel
    by_cases hlt : k < v.h.length
    · obtain ⟨x, hx⟩ : ∃ x, v.h[k]? = some x := ⟨_, List.getElem?_eq_getElem hlt⟩
      obtain ⟨gc, cc, hvc, -, lgc0⟩ := World.ownsRow.form HX.out.c (show 0 < v.h.length from by omega)
      have HPc : Hid (p.cr = some ⟨gc, 0, none⟩) := (Value.slice.inj hvc).1
      rw [HPc.out] at f0
      obtain ⟨-, -, -, -, d0, -⟩ := fill_rd HX.out HQ.out.1 HQ.out.2 HPc.out hx
      have kk1 : (k : Int) < (v.h.length : Int) := by omega
      have kk0 : (0 : Int) ≤ (k : Int) := by omega
      have HV : Hid (v.h[k]? = some x) := hx
      have hl100 := HS.out.2.1
      clear hvc hx
      by_cases hfree : x.k = 0
      · rw [hfree] at d0
        go_wp2_with fail
        refine Calls.mono (HVa.out wr HX.out) ?_
        rintro e w1 ⟨rfl, hw1⟩
        subst hw1
        go_wp2_with fail
        refine Calls.mono (HVb.out w1 HX.out) ?_
        rintro e w2 ⟨rfl, hw2⟩
        subst hw2
        obtain ⟨-, f1, -, f2, -, -, -, -, -, -, lgl, -⟩ := fill_rd HX.out HQ.out.1 HQ.out.2 HPc.out HV.out
        have HSt : Hid (∀ W : World, Below w2.heap.size w2 W → Calls Tryd.prog 20 #[.int .u8 v.ph, .bool q.x.sc, .int .u64 na, .int .u64 nb, .slice (some ⟨gc, 0, none⟩) v.h.length p.cc] W fun e w' => OutI ((filN v.h q.x.sc na nb).map Int.ofNat) e W w') := by
          have h := fil_fill w0 w2 wb p v L q.x.sc na nb HX.out HT.out HNa.out HNb.out HS.out.1 HS.out.2.1
          rw [HPc.out] at h
          exact h
        have HSh : Hid _ := fil_shade w0 w2 wb p v L q.x.sc na nb HX.out HS.out.2
        have HRd : Hid (∀ (w' : World) (yr : Option Addr) (yc : Nat), KX w0 w' wb { p with yr := yr, yc := yc } (shV v (filN v.h q.x.sc na nb) (v.grey ++ (filN v.h q.x.sc na nb).map Int.ofNat)) L → w'.cell? ⟨wb, 0, none⟩ = some (.slice (some ⟨gc, 0, none⟩) v.h.length p.cc) ∧ w'.cell? ⟨wb, 1, none⟩ = some (.int .u8 v.ph) ∧ w'.cell? ⟨wb, 2, none⟩ = some (.int .i64 v.sw) ∧ w'.cell? ⟨gl, i * 3 + 1, none⟩ = some (.bool q.x.sc) ∧ wb < w'.heap.size ∧ gl < w'.heap.size ∧ gc < w'.heap.size ∧ (∃ y, (greyL v.h (filN v.h q.x.sc na nb))[k]? = some y ∧ w'.cell? ⟨gc, k * 4, none⟩ = some (.int .u8 y.k) ∧ w'.cell? ⟨gc, k * 4 + 1, none⟩ = some (.int .u8 y.c) ∧ w'.cell? ⟨gc, k * 4 + 1 + 1, none⟩ = some (.int .u64 y.a) ∧ w'.cell? ⟨gc, k * 4 + 1 + 1 + 1, none⟩ = some (.int .u64 y.b)) ∧ ∀ o, w'.frozen? ⟨gc, o, none⟩ = false) := by
          intro w' yr yc X
          have hl := greyL_len (filN v.h q.x.sc na nb) v.h
          obtain ⟨y, hy⟩ : ∃ y, (greyL v.h (filN v.h q.x.sc na nb))[k]? = some y := ⟨_, List.getElem?_eq_getElem (by omega)⟩
          obtain ⟨g0, g1, g9, g2, e0, e1, e2, e3, ez, g3, g4, g5⟩ := fill_rd X HQ.out.1 HQ.out.2 HPc.out hy
          refine ⟨?_, g1, g9, g2, g3, g4, g5, ⟨y, hy, e0, e1, e2, e3⟩, ez⟩
          rw [← hl]
          exact g0
        have HKb : Hid (∀ w' : World, Below w2.heap.size w2 w' → w'.cell? ⟨wb, 0, none⟩ = some (.slice (some ⟨gc, 0, none⟩) v.h.length p.cc) ∧ w'.cell? ⟨wb, 1, none⟩ = some (.int .u8 v.ph) ∧ w'.cell? ⟨gl, i * 3 + 1, none⟩ = some (.bool q.x.sc) ∧ wb < w'.heap.size ∧ gl < w'.heap.size) := fun w' hb => by
          obtain ⟨g0, g1, _, g2, _, _, _, _, _, g3, g4, _⟩ := fill_rd (HX.out.below hb) HQ.out.1 HQ.out.2 HPc.out HV.out
          exact ⟨g0, g1, g2, g3, g4⟩
        have HKp : Hid (∀ w' : World, (∃ yr yc, KX w0 w' wb { p with yr := yr, yc := yc } (shV v (filN v.h q.x.sc na nb) (v.grey ++ (filN v.h q.x.sc na nb).map Int.ofNat)) L ∧ Ks w2 w') → w'.cell? ⟨wb, 0, none⟩ = some (.slice (some ⟨gc, 0, none⟩) v.h.length p.cc) ∧ w'.cell? ⟨wb, 1, none⟩ = some (.int .u8 v.ph) ∧ w'.cell? ⟨gl, i * 3 + 1, none⟩ = some (.bool q.x.sc) ∧ wb < w'.heap.size ∧ gl < w'.heap.size) := by
          rintro w' ⟨yr, yc, X, _⟩
          obtain ⟨g0, g1, _, g2, g3, g4, _⟩ := HRd.out w' yr yc X
          exact ⟨g0, g1, g2, g3, g4⟩
        clear HVa HVb
        go_upto_region 7 with fail
        go_region_held3 (fun wx : World => wx.cell? ⟨wb, 0, none⟩ = some (.slice (some ⟨gc, 0, none⟩) v.h.length p.cc) ∧ wx.cell? ⟨wb, 1, none⟩ = some (.int .u8 v.ph) ∧ wx.cell? ⟨gl, i * 3 + 1, none⟩ = some (.bool q.x.sc) ∧ wb < wx.heap.size ∧ gl < wx.heap.size) (first | exact ⟨f0, f1, f2, lwb, lgl⟩ | (go_keep; done) | exact HKp.out _ h5 | exact HKb.out _ ((Below.refl w2.heap.size w2).drew.trans hb4)) (first | (go_at_call 20; refine (HSt.out _ (Below.refl w2.heap.size w2).drew).mono ?_; rintro e w4 ⟨⟨v', rfl, ho4⟩, hb4⟩) | (go_at_call 84; refine (HSh.out w4 v' ((Below.refl w2.heap.size w2).drew.trans hb4) ho4).mono ?_; rintro e w5 ⟨rfl, h5⟩) | fail)
        obtain ⟨yr, yc, X, hks⟩ := h5
        have HX5 : Hid _ := X
        have hb5 : w5.heap[sb]? = some (.cells #[.int .i64 kd, .int .i64 who, .int .i64 a, .int .i64 b, .int .i64 d] 72 (0, 0)) := (hks sb _ HB.out).trans HB.out
        have t4 : w5.cell? ⟨sb, 4, none⟩ = some (.int .i64 d) := heap_cell hb5 rfl
        have tsb := heap_lt hb5
        obtain ⟨g0, g1, g9, g2, gwb, ggl, ggc, ⟨y, hy, e0, e1, e2, e3⟩, ez⟩ := HRd.out w5 yr yc X
        have z0 := ez (k * 4)
        have z1 := ez (k * 4 + 1)
        have z2 := ez (k * 4 + 1 + 1)
        have z3 := ez (k * 4 + 1 + 1 + 1)
        have own0 := X.c
        dsimp only at own0
        rw [HPc.out] at own0
        have nwb : wb ≠ gc := fun e => own_ty own0 X.b (by decide) (by rw [e]; rfl)
        have nsb : sb ≠ gc := fun e => own_ty own0 hb5 (by decide) (by rw [e]; rfl)
        clear own0
        obtain ⟨r, hr3, hpk⟩ := HPk.out
        have HX6 : Hid (KX w0 ((((w5.setCell ⟨gc, k * 4, none⟩ (.int .u8 (1 + (r : Int)))).setCell ⟨gc, k * 4 + 1, none⟩ (.int .u8 2)).setCell ⟨gc, k * 4 + 2, none⟩ (.int .u64 na)).setCell ⟨gc, k * 4 + 3, none⟩ (.int .u64 nb)).drew wb { p with yr := yr, yc := yc } ⟨(greyL v.h (filN v.h q.x.sc na nb)).set k ⟨1 + r, 2, na, nb⟩, v.ph, v.sw, v.grey ++ (filN v.h q.x.sc na nb).map Int.ofNat, v.gl, v.laid, v.lanes⟩ L) := by
          exact (X.putAll hy HPc.out ⟨1 + r, 2, na, nb⟩ ⟨⟨by show (0 : Int) ≤ 1 + r; omega, by show (1 : Int) + r ≤ 255; omega⟩, ⟨by show (0 : Int) ≤ 2; omega, by show (2 : Int) ≤ 255; omega⟩, HNa.out, HNb.out⟩).below (Below.refl _ _).drew
        have HRf : Hid (∀ W, Calls Tryd.prog 16 #[.int .i64 k] W fun e w' => e = .returned (.int .u64 (mkW 8 k)) ∧ w' = W) := fun W => refRef_any k W
        clear hy
        have HPk2 : Hid _ := hpk
        clear X hks hb4 ho4 HSt HSh HKp HKb HRd f0 f1 f2 s2 s3 lsb lwb lgl d0 HB HX HPk hpk lgc0 hb5 ez
        have HK8 : Hid (∀ (o1 o2 o3 o4 : Nat) (u1 u2 u3 u4 : Value) (bb j : Nat) (u : Value), bb ≠ gc → w5.cell? ⟨bb, j, none⟩ = some u → ((((w5.setCell ⟨gc, o1, none⟩ u1).setCell ⟨gc, o2, none⟩ u2).setCell ⟨gc, o3, none⟩ u3).setCell ⟨gc, o4, none⟩ u4).drew.cell? ⟨bb, j, none⟩ = some u) := by
          intro o1 o2 o3 o4 u1 u2 u3 u4 bb j u hne hc
          refine (World.cell?_of_block (a := ⟨bb, j, none⟩) (w := w5) ?_).trans hc
          exact (Below.heap_setCell _ _ _ _ hne).trans ((Below.heap_setCell _ _ _ _ hne).trans ((Below.heap_setCell _ _ _ _ hne).trans (Below.heap_setCell _ _ _ _ hne)))
        have HK9 : Hid (∀ (o1 o2 o3 o4 : Nat) (u1 u2 u3 u4 : Value) (bb : Nat), bb < w5.heap.size → bb < ((((w5.setCell ⟨gc, o1, none⟩ u1).setCell ⟨gc, o2, none⟩ u2).setCell ⟨gc, o3, none⟩ u3).setCell ⟨gc, o4, none⟩ u4).drew.heap.size) := by
          intro o1 o2 o3 o4 u1 u2 u3 u4 bb h
          show bb < ((((w5.setCell ⟨gc, o1, none⟩ u1).setCell ⟨gc, o2, none⟩ u2).setCell ⟨gc, o3, none⟩ u3).setCell ⟨gc, o4, none⟩ u4).heap.size
          simp only [World.size_setCell]
          exact h
        go_upto_region 8 with fail
        go_region_held3 (fun wx : World => wx.cell? ⟨wb, 0, none⟩ = some (.slice (some ⟨gc, 0, none⟩) v.h.length p.cc) ∧ wx.cell? ⟨wb, 1, none⟩ = some (.int .u8 v.ph) ∧ wx.cell? ⟨wb, 2, none⟩ = some (.int .i64 v.sw) ∧ wx.cell? ⟨sb, 4, none⟩ = some (.int .i64 d) ∧ wb < wx.heap.size ∧ sb < wx.heap.size) (first | exact ⟨g0, g1, g9, t4, gwb, tsb⟩ | exact ⟨HK8.out _ _ _ _ _ _ _ _ _ _ _ nwb g0, HK8.out _ _ _ _ _ _ _ _ _ _ _ nwb g1, HK8.out _ _ _ _ _ _ _ _ _ _ _ nwb g9, HK8.out _ _ _ _ _ _ _ _ _ _ _ nsb t4, HK9.out _ _ _ _ _ _ _ _ _ gwb, HK9.out _ _ _ _ _ _ _ _ _ tsb⟩ | (go_keep; done)) (first | (go_at_call 60; refine (HPk2.out _).mono ?_; rintro e w99 ⟨rfl, hw99⟩; rw [hw99]; clear hw99) | (go_at_call 21; refine (HBi.out _ _).mono ?_; rintro e w99 ⟨rfl, hw99⟩; rw [hw99]; clear hw99) | fail)
        clear g0 g1 g9 g2 t4 tsb gwb HK8 HK9 HBi HPk2 z0 z1 z2 z3 e0 e1 e2 e3
        go_wp2_with (first | (go_at_call 16; refine (HRf.out _).mono ?_; rintro e w99 ⟨rfl, hw99⟩; rw [hw99]; clear hw99) | fail)
        refine Calls.mono (HTk.out _ _ _ _ HX6.out HQ.out.2 (mkW_rng 8 k)) ?_
        rintro e w7 ⟨⟨u, rfl⟩, h7⟩
        have HF : Hid (FillR w0 wb p v L i q na nb (.returned (.bool true)) w7) := ⟨rfl, .inr ⟨k, x, 1 + r, yr, yc, HV.out, hfree, by omega, by omega, h7⟩⟩
        clear h7 HTk HX6 HRf
        go_wp2
        go_ret
        exact HF.out
      · clear HVa HVb HPk HBi HTk
        go_wp2
        go_roundw
        case rel => exact ⟨k + 1, by go_num, by omega, by first | rfl | trivial⟩
        case measure => simp [intOf]; omega
    · obtain rfl : k = v.h.length := by omega
      have k1 : ¬ (v.h.length : Int) < (v.h.length : Int) := by omega
      clear HVa HVb HPk HBi HTk
      go_wp2
      go_ret
      exact ⟨rfl, .inl HX.out⟩
end Go.Proofs.YtomdbcddokaagaaDoor
