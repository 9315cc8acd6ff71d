/- A world of one's own: store.; A world of one's own: a lane's steps: store, load.; A world of one's own: a lane takes a global. -/
import Derived.Test.YtomdbcddokaagaaDoorGO
import Derived.Test.YtomdbcddokaagaaDoorGP
/- A world of one's own: store. -/
namespace Go.Proofs.YtomdbcddokaagaaDoor
open Go.RowKit

/-- What the cell y is when the word n was laid into it. -/
def putW (b n : Int) (y : Cl) : Cl := if b.tmod 2 = 0 then ⟨y.k, y.c, n, y.b⟩ else ⟨y.k, y.c, y.a, n⟩
def oldW (b : Int) (x : Cl) : Int := if b.tmod 2 = 0 then x.a else x.b
/-- What store leaves. -/
def StoreR (w0 : Wz) (wb : Nat) (p : Vp) (v : Vw) (L : List Lq) (q : Lq) (b n : Int) (e : Ending) (w' : World) : Prop :=
  e = .returned (.bool true) ∧ (KX w0 w' wb p v L ∨ ∃ (c : Nat) (x y : Cl) (yr : Option Addr) (yc : Nat), GoodC v q.x.roots c ∧ v.h[c]? = some x ∧ (greyL v.h (layN v.h q.x.sc (oldW b x) n))[c]? = some y ∧
    KX w0 w' wb { p with yr := yr, yc := yc } ⟨(greyL v.h (layN v.h q.x.sc (oldW b x) n)).set c (putW b n y), v.ph, v.sw, v.grey ++ (layN v.h q.x.sc (oldW b x) n).map Int.ofNat, v.gl, v.laid, v.lanes⟩ L)
/-- What is read of a world that lies so. -/
theorem store_rd {w0 : Wz} {W : World} {wb gl i gc c : Nat} {p : Vp} {v : Vw} {L : List Lq} {q : Lq} {y : Cl} (X : KX w0 W wb p v L) (hq : L[i]? = some q) (hl : p.lr = some ⟨gl, 0, none⟩) (hc : p.cr = some ⟨gc, 0, none⟩) (hy : v.h[c]? = some y) : W.cell? ⟨wb, 0, none⟩ = some (.slice (some ⟨gc, 0, none⟩) v.h.length p.cc) ∧ W.cell? ⟨wb, 1, none⟩ = some (.int .u8 v.ph) ∧ W.cell? ⟨gl, i * 3 + 1, none⟩ = some (.bool q.x.sc) ∧ W.cell? ⟨gc, c * 4 + 1 + 1, none⟩ = some (.int .u64 y.a) ∧ W.cell? ⟨gc, c * 4 + 1 + 1 + 1, none⟩ = some (.int .u64 y.b) ∧ W.frozen? ⟨gc, c * 4 + 1 + 1, none⟩ = false ∧ W.frozen? ⟨gc, c * 4 + 1 + 1 + 1, none⟩ = false ∧ wb < W.heap.size ∧ gl < W.heap.size ∧ gc < W.heap.size := by
  have o := X.c
  rw [hc] at o
  have ol := X.l
  rw [hl] at ol
  obtain ⟨_, _, q2, q3⟩ := cl4_at v.h c y hy
  obtain ⟨_, l1, _⟩ := lq3_at L i q hq
  obtain ⟨cs, h1, _⟩ := own_out o
  refine ⟨?_, heap_cell X.b rfl, own_cell ol l1, own_cell o q2, own_cell o q3, fz_of h1 _, fz_of h1 _, heap_lt X.b, (ol.lt gl rfl).2, (o.lt gc rfl).2⟩
  rw [← hc]
  exact heap_cell X.b rfl
set_option maxRecDepth 100000 in
set_option maxHeartbeats 16000000 in
theorem kstore_any (w0 : Wz) (w : World) (wb gl i : Nat) (p : Vp) (v : Vw) (L : List Lq) (q : Lq) (kd who a b d : Int) (hX : KX w0 w wb p v L) (hT : Tab w) (hp : v.ph = 1 ∨ v.ph = 2) (hs : v.h.length ≤ 100 ∧ v.grey.length + 2 ≤ 100000) (hq : L[i]? = some q) (hpl : p.lr = some ⟨gl, 0, none⟩) (hr : q.x.roots.length ≤ 2000) (hf : ∀ x ∈ q.x.roots, fitsW v.h.length x = true) (ha : -9223372036854775808 ≤ a ∧ a ≤ 9223372036854775807) (hd : -9223372036854775808 ≤ d ∧ d ≤ 9223372036854775807) :
    Calls Tryd.prog 83 #[.pointer (some ⟨wb, 0, none⟩), .agg #[.int .i64 kd, .int .i64 who, .int .i64 a, .int .i64 b, .int .i64 d], .pointer (some ⟨gl, i * 3, none⟩)] w fun e w' => StoreR w0 wb p v L q b (valM q.x.roots d) e w' := by
  have hB0 := (Below.refl w.heap.size w).alloc (Nat.le_refl _) (.cells #[.int .i64 kd, .int .i64 who, .int .i64 a, .int .i64 b, .int .i64 d] 72)
  have HX : Hid (KX w0 (w.alloc (.cells #[.int .i64 kd, .int .i64 who, .int .i64 a, .int .i64 b, .int .i64 d] 72)) wb p v L) := hX.below hB0
  have HT : Hid (Tab (w.alloc (.cells #[.int .i64 kd, .int .i64 who, .int .i64 a, .int .i64 b, .int .i64 d] 72))) := hT.below hB0
  have HB : Hid ((w.alloc (.cells #[.int .i64 kd, .int .i64 who, .int .i64 a, .int .i64 b, .int .i64 d] 72)).heap[w.heap.size]? = some (.cells #[.int .i64 kd, .int .i64 who, .int .i64 a, .int .i64 b, .int .i64 d] 72 (0, 0))) := heap_alloc_new w _
  have HS : Hid ((v.ph = 1 ∨ v.ph = 2) ∧ v.h.length ≤ 100 ∧ v.grey.length + 2 ≤ 100000) := ⟨hp, hs⟩
  have HQ : Hid (L[i]? = some q ∧ p.lr = some ⟨gl, 0, none⟩) := ⟨hq, hpl⟩
  have hmx : Tryd.prog.follows .mixedOrders = true := by kernel_rfl
  have HCl : Hid (∀ W : World, KX w0 W wb p v L → Calls Tryd.prog 81 #[.pointer (some ⟨wb, 0, none⟩), .pointer (some ⟨gl, i * 3, none⟩), .int .i64 a] W fun e w' => KcR v q.x.roots e ∧ Below W.heap.size W w') := fun W X => by
    have o := X.l
    rw [hpl] at o
    obtain ⟨g0, _, _⟩ := lq3_at L i q hq
    exact kcell_any wb gl (i * 3) p v q.x.roots q.ra q.cc a W X.b (hr_own X.c X.ok) (own_cell o g0) (o.lt gl rfl).2 (wr_own (X.q q (List.mem_of_getElem? hq)) (X.rl q (List.mem_of_getElem? hq))) (by omega) (by omega) hf ha
  have HVa : Hid (∀ W : World, KX w0 W wb p v L → Calls Tryd.prog 61 #[.pointer (some ⟨gl, i * 3, none⟩), .int .i64 d] W fun e w' => e = .returned (.int .u64 (valM q.x.roots d)) ∧ w' = W) := fun W X => by
    have o := X.l
    rw [hpl] at o
    obtain ⟨g0, _, _⟩ := lq3_at L i q hq
    exact value_any q.x.roots q.ra q.cc gl (i * 3) d W (own_cell o g0) (o.lt gl rfl).2 (wr_own (X.q q (List.mem_of_getElem? hq)) (X.rl q (List.mem_of_getElem? hq))) (by omega) hd
  have HN : Hid (Rng (valM q.x.roots d)) := val_rng (hX.rl q (List.mem_of_getElem? hq)) d
  generalize valM q.x.roots d = n at HVa HN ⊢
  clear hX hT hB0 hp hs hq hpl hf
  go_enter Tryd.func83, Tryd.ntmps83
  go_upto_region 1 with fail
  generalize w.alloc (.cells #[.int .i64 kd, .int .i64 who, .int .i64 a, .int .i64 b, .int .i64 d] 72) = W at HX HT HB ⊢
  generalize w.heap.size = sb at HB ⊢
  have s2 : W.cell? ⟨sb, 2, none⟩ = some (.int .i64 a) := heap_cell HB.out rfl
  have s3 : W.cell? ⟨sb, 3, none⟩ = some (.int .i64 b) := heap_cell HB.out rfl
  have s4 : W.cell? ⟨sb, 4, none⟩ = some (.int .i64 d) := heap_cell HB.out rfl
  have lsb := heap_lt HB.out
  go_wp2_with fail
  refine Calls.mono (HCl.out W HX.out) ?_
  rintro e w1 ⟨⟨c, is, rfl, hg⟩, hb1⟩
  have HX1 : Hid (KX w0 w1 wb p v L) := HX.out.below hb1
  have HT1 : Hid (Tab w1) := HT.out.below hb1
  have HB1 : Hid (w1.heap[sb]? = some (.cells #[.int .i64 kd, .int .i64 who, .int .i64 a, .int .i64 b, .int .i64 d] 72 (0, 0))) := (hb1.block sb lsb).trans HB.out
  have HG : Hid (is = true → GoodC v q.x.roots c) := hg
  clear hb1 hg HX HT HB s2 s3 s4 lsb HCl
  have s3 : w1.cell? ⟨sb, 3, none⟩ = some (.int .i64 b) := heap_cell HB1.out rfl
  have s4 : w1.cell? ⟨sb, 4, none⟩ = some (.int .i64 d) := heap_cell HB1.out rfl
  have lsb := heap_lt HB1.out
  cases is with
  | false =>
    clear HVa HN
    go_wp2
    go_ret
    exact ⟨rfl, .inl HX1.out⟩
  | true =>
    obtain ⟨x, hx, _⟩ := (HG.out rfl).2
    have hcl := (List.getElem?_eq_some_iff.1 hx).1
    obtain ⟨gc, cc, hvc, _, lgc0⟩ := World.ownsRow.form HX1.out.c (show 0 < v.h.length from by omega)
    have HPc : Hid (p.cr = some ⟨gc, 0, none⟩) := (Value.slice.inj hvc).1
    have HV : Hid (v.h[c]? = some x) := hx
    have kk1 : (c : Int) < (v.h.length : Int) := by omega
    have kk0 : (0 : Int) ≤ (c : Int) := by omega
    clear hvc lgc0 hx
    go_upto_region 4 with fail
    go_wp2_with fail
    refine Calls.mono (HVa.out w1 HX1.out) ?_
    rintro e w2 ⟨rfl, hw2⟩
    subst hw2
    obtain ⟨f0, f1, f2, d2, d3, _, _, lwb, lgl, lgc⟩ := store_rd HX1.out HQ.out.1 HQ.out.2 HPc.out HV.out
    have ho := HX1.out.ok x (List.mem_of_getElem? HV.out)
    have HO : Hid (Rng (oldW b x)) := by
      show Rng (oldW b x)
      unfold oldW
      split
      · exact ho.a
      · exact ho.b
    clear ho HVa
    have HSt : Hid (∀ W : World, Below w2.heap.size w2 W → Calls Tryd.prog 19 #[.int .u8 v.ph, .bool q.x.sc, .int .u64 (oldW b x), .int .u64 n, .slice (some ⟨gc, 0, none⟩) v.h.length p.cc] W fun e w' => OutI ((layN v.h q.x.sc (oldW b x) n).map Int.ofNat) e W w') := by
      have h := lay_store w0 w2 wb p v L q.x.sc (oldW b x) n HX1.out HT1.out HO.out HN.out HS.out.1 HS.out.2.1
      rw [HPc.out] at h
      exact h
    have HSh : Hid _ := lay_shade w0 w2 wb p v L q.x.sc (oldW b x) n HX1.out HS.out.2
    have HKp : Hid (∀ w' : World, (∃ yr yc, KX w0 w' wb { p with yr := yr, yc := yc } (shV v (layN v.h q.x.sc (oldW b x) n) (v.grey ++ (layN v.h q.x.sc (oldW b x) n).map Int.ofNat)) L ∧ Ks w2 w') → w'.cell? ⟨wb, 0, none⟩ = some (.slice (some ⟨gc, 0, none⟩) v.h.length p.cc) ∧ w'.cell? ⟨wb, 1, none⟩ = some (.int .u8 v.ph) ∧ w'.cell? ⟨gl, i * 3 + 1, none⟩ = some (.bool q.x.sc) ∧ wb < w'.heap.size ∧ gl < w'.heap.size) := by
      rintro w' ⟨yr, yc, X, _⟩
      have hl := greyL_len (layN v.h q.x.sc (oldW b x) n) v.h
      obtain ⟨y, hy⟩ : ∃ y, (greyL v.h (layN v.h q.x.sc (oldW b x) n))[c]? = some y := ⟨_, List.getElem?_eq_getElem (by omega)⟩
      obtain ⟨g0, g1, g2, _, _, _, _, g3, g4, _⟩ := store_rd X HQ.out.1 HQ.out.2 HPc.out hy
      refine ⟨?_, g1, g2, g3, g4⟩
      rw [← hl]
      exact g0
    have HKb : Hid (∀ w' : World, Below w2.heap.size w2 w' → w'.cell? ⟨wb, 0, none⟩ = some (.slice (some ⟨gc, 0, none⟩) v.h.length p.cc) ∧ w'.cell? ⟨wb, 1, none⟩ = some (.int .u8 v.ph) ∧ w'.cell? ⟨gl, i * 3 + 1, none⟩ = some (.bool q.x.sc) ∧ wb < w'.heap.size ∧ gl < w'.heap.size) := fun w' hb => by
      obtain ⟨g0, g1, g2, _, _, _, _, g3, g4, _⟩ := store_rd (HX1.out.below hb) HQ.out.1 HQ.out.2 HPc.out HV.out
      exact ⟨g0, g1, g2, g3, g4⟩
    by_cases hb2 : b.tmod 2 = 0
    · have ho : Value.int .u64 (oldW b x) = Value.int .u64 x.a := congrArg _ (if_pos hb2)
      have HSt2 : Hid (∀ W : World, Below w2.heap.size w2 W → Calls Tryd.prog 19 #[.int .u8 v.ph, .bool q.x.sc, .int .u64 x.a, .int .u64 n, .slice (some ⟨gc, 0, none⟩) v.h.length p.cc] W fun e w' => OutI ((layN v.h q.x.sc (oldW b x) n).map Int.ofNat) e W w') := fun W hb => by
        have h := HSt.out W hb
        rw [ho] at h
        exact h
      clear ho HO d3 HSt
      go_upto_region 8 with fail
      go_region_held3 (fun wx : World => wx.cell? ⟨wb, 0, none⟩ = some (.slice (some ⟨gc, 0, none⟩) v.h.length p.cc) ∧ wx.cell? ⟨wb, 1, none⟩ = some (.int .u8 v.ph) ∧ wx.cell? ⟨gl, i * 3 + 1, none⟩ = some (.bool q.x.sc) ∧ wb < wx.heap.size ∧ gl < wx.heap.size) (first | exact ⟨f0, f1, f2, lwb, lgl⟩ | (go_keep; done) | exact HKp.out _ h5 | exact HKb.out _ ((Below.refl w2.heap.size w2).drew.trans hb4)) (first | (go_at_call 19; refine (HSt2.out _ (Below.refl w2.heap.size w2).drew).mono ?_; rintro e w4 ⟨⟨v', rfl, ho4⟩, hb4⟩) | (go_at_call 84; refine (HSh.out w4 v' ((Below.refl w2.heap.size w2).drew.trans hb4) ho4).mono ?_; rintro e w5 ⟨rfl, h5⟩) | fail)
      obtain ⟨yr, yc, X, hks⟩ := h5
      have hl := greyL_len (layN v.h q.x.sc (oldW b x) n) v.h
      obtain ⟨y, hy⟩ : ∃ y, (greyL v.h (layN v.h q.x.sc (oldW b x) n))[c]? = some y := ⟨_, List.getElem?_eq_getElem (by omega)⟩
      have HF : Hid (StoreR w0 wb p v L q b n (.returned (.bool true)) (w5.setCell ⟨gc, c * 4 + 1 + 1, none⟩ (.int .u64 n))) := by
        have e : putW b n y = ⟨y.k, y.c, n, y.b⟩ := if_pos hb2
        refine ⟨rfl, .inr ⟨c, x, y, yr, yc, HG.out trivial, HV.out, hy, ?_⟩⟩
        rw [e]
        exact X.putA hy HPc.out n HN.out
      have t3 : w5.cell? ⟨sb, 3, none⟩ = some (.int .i64 b) := (World.cell?_of_block (a := ⟨sb, 3, none⟩) (hks sb _ HB1.out)).trans s3
      have tsb : sb < w5.heap.size := heap_lt ((hks sb _ HB1.out).trans HB1.out)
      obtain ⟨g0, _, _, g2, g3, z2, z3, gwb, _, ggc⟩ := store_rd X HQ.out.1 HQ.out.2 HPc.out hy
      have g0' : w5.cell? ⟨wb, 0, none⟩ = some (.slice (some ⟨gc, 0, none⟩) v.h.length p.cc) := by
        rw [← hl]
        exact g0
      clear X hks hy g0 hb4 ho4 HSt2 HSh HKp HKb f0 f1 f2 d2 s3 s4 lsb lwb lgl lgc hl
      go_wp2
      go_ret
      exact HF.out
    · have ho : Value.int .u64 (oldW b x) = Value.int .u64 x.b := congrArg _ (if_neg hb2)
      have HSt2 : Hid (∀ W : World, Below w2.heap.size w2 W → Calls Tryd.prog 19 #[.int .u8 v.ph, .bool q.x.sc, .int .u64 x.b, .int .u64 n, .slice (some ⟨gc, 0, none⟩) v.h.length p.cc] W fun e w' => OutI ((layN v.h q.x.sc (oldW b x) n).map Int.ofNat) e W w') := fun W hb => by
        have h := HSt.out W hb
        rw [ho] at h
        exact h
      clear ho HO HSt
      go_upto_region 8 with fail
      go_region_held3 (fun wx : World => wx.cell? ⟨wb, 0, none⟩ = some (.slice (some ⟨gc, 0, none⟩) v.h.length p.cc) ∧ wx.cell? ⟨wb, 1, none⟩ = some (.int .u8 v.ph) ∧ wx.cell? ⟨gl, i * 3 + 1, none⟩ = some (.bool q.x.sc) ∧ wb < wx.heap.size ∧ gl < wx.heap.size) (first | exact ⟨f0, f1, f2, lwb, lgl⟩ | (go_keep; done) | exact HKp.out _ h5 | exact HKb.out _ ((Below.refl w2.heap.size w2).drew.trans hb4)) (first | (go_at_call 19; refine (HSt2.out _ (Below.refl w2.heap.size w2).drew).mono ?_; rintro e w4 ⟨⟨v', rfl, ho4⟩, hb4⟩) | (go_at_call 84; refine (HSh.out w4 v' ((Below.refl w2.heap.size w2).drew.trans hb4) ho4).mono ?_; rintro e w5 ⟨rfl, h5⟩) | fail)
      obtain ⟨yr, yc, X, hks⟩ := h5
      have hl := greyL_len (layN v.h q.x.sc (oldW b x) n) v.h
      obtain ⟨y, hy⟩ : ∃ y, (greyL v.h (layN v.h q.x.sc (oldW b x) n))[c]? = some y := ⟨_, List.getElem?_eq_getElem (by omega)⟩
      have HF : Hid (StoreR w0 wb p v L q b n (.returned (.bool true)) (w5.setCell ⟨gc, c * 4 + 1 + 1 + 1, none⟩ (.int .u64 n))) := by
        have e : putW b n y = ⟨y.k, y.c, y.a, n⟩ := if_neg hb2
        refine ⟨rfl, .inr ⟨c, x, y, yr, yc, HG.out trivial, HV.out, hy, ?_⟩⟩
        rw [e]
        exact X.putB hy HPc.out n HN.out
      have t3 : w5.cell? ⟨sb, 3, none⟩ = some (.int .i64 b) := (World.cell?_of_block (a := ⟨sb, 3, none⟩) (hks sb _ HB1.out)).trans s3
      have tsb : sb < w5.heap.size := heap_lt ((hks sb _ HB1.out).trans HB1.out)
      obtain ⟨g0, _, _, g2, g3, z2, z3, gwb, _, ggc⟩ := store_rd X HQ.out.1 HQ.out.2 HPc.out hy
      have g0' : w5.cell? ⟨wb, 0, none⟩ = some (.slice (some ⟨gc, 0, none⟩) v.h.length p.cc) := by
        rw [← hl]
        exact g0
      clear X hks hy g0 hb4 ho4 HSt2 HSh HKp HKb f0 f1 f2 d2 s3 s4 lsb lwb lgl lgc hl
      go_wp2
      go_ret
      exact HF.out
end Go.Proofs.YtomdbcddokaagaaDoor

/- A world of one's own: a lane's steps: store, load. -/
namespace Go.Proofs.YtomdbcddokaagaaDoor
open Go.RowKit

/-- The i-th lane has one word more, or has forty. -/
def Took (w0 : Wz) (wb : Nat) (p : Vp) (v : Vw) (L : List Lq) (i : Nat) (q : Lq) (x : Int) (w' : World) : Prop :=
  KX w0 w' wb p v L ∨ ∃ (rr : Option Addr) (cc : Nat), KX w0 w' wb p ⟨v.h, v.ph, v.sw, v.grey, v.gl, v.laid, v.lanes.set i ⟨q.x.roots ++ [x], q.x.sc, q.x.en⟩⟩ (L.set i ⟨rr, cc, ⟨q.x.roots ++ [x], q.x.sc, q.x.en⟩⟩)
theorem takes_kx (w0 : Wz) (w : World) (wb gl i : Nat) (p : Vp) (v : Vw) (L : List Lq) (q : Lq) (x : Int) (hX : KX w0 w wb p v L) (hq : L[i]? = some q) (hpl : p.lr = some ⟨gl, 0, none⟩) (hx : Rng x) :
    Calls Tryd.prog 82 #[.pointer (some ⟨gl, i * 3, none⟩), .int .u64 x] w fun e w' => (∃ u, e = .returned u) ∧ Took w0 wb p v L i q x w' := by
  have o := hX.l
  rw [hpl] at o
  obtain ⟨g0, _, _⟩ := lq3_at L i q hq
  obtain ⟨cs, h1, _⟩ := own_out o
  have hc : cs[i * 3]? = some (.slice q.ra q.x.roots.length q.cc) := by
    have h := own_cell o g0
    unfold World.cell? at h
    rw [h1] at h
    simpa using h
  refine (takes_any w0.heap.size gl (i * 3) q.x.roots q.ra q.cc x cs w hX.bel.size h1 hc (hX.q q (List.mem_of_getElem? hq))).mono ?_
  rintro e w' ⟨h2, h3⟩
  refine ⟨h2, ?_⟩
  by_cases h40 : q.x.roots.length < 40
  · exact .inr (hX.takes hpl hq hx h40 h3)
  · rcases h3 with ⟨_, rfl⟩ | ⟨h, _⟩
    · exact .inl hX
    · exact absurd h h40
set_option maxRecDepth 100000 in
set_option maxHeartbeats 16000000 in
theorem lane_store (w0 : Wz) (w : World) (wb gl i : Nat) (p : Vp) (v : Vw) (L : List Lq) (q : Lq) (who a b d : Int) (hX : KX w0 w wb p v L) (hT : Tab w) (hp : v.ph = 1 ∨ v.ph = 2) (hs : v.h.length ≤ 100 ∧ v.grey.length + 2 ≤ 100000) (hq : L[i]? = some q) (hpl : p.lr = some ⟨gl, 0, none⟩) (hr : q.x.roots.length ≤ 2000) (hf : ∀ x ∈ q.x.roots, fitsW v.h.length x = true) (ha : -9223372036854775808 ≤ a ∧ a ≤ 9223372036854775807) (hd : -9223372036854775808 ≤ d ∧ d ≤ 9223372036854775807) :
    Calls Tryd.prog 62 #[.pointer (some ⟨wb, 0, none⟩), .agg #[.int .i64 3, .int .i64 who, .int .i64 a, .int .i64 b, .int .i64 d], .pointer (some ⟨gl, i * 3, none⟩)] w fun e w' => StoreR w0 wb p v L q b (valM q.x.roots d) e w' := by
  have hB0 := (Below.refl w.heap.size w).alloc (Nat.le_refl _) (.cells #[.int .i64 3, .int .i64 who, .int .i64 a, .int .i64 b, .int .i64 d] 72)
  have HSo : Hid _ := kstore_any w0 (w.alloc (.cells #[.int .i64 3, .int .i64 who, .int .i64 a, .int .i64 b, .int .i64 d] 72)) wb gl i p v L q 3 who a b d (hX.below hB0) (hT.below hB0) hp hs hq hpl hr hf ha hd
  clear hX hT hp hs hq hpl hr hf ha hd hB0
  go_enter Tryd.func62, Tryd.ntmps62
  go_wp2_with fail
  refine Calls.mono HSo.out ?_
  intro e w2 h2
  have h3 := h2.1
  subst h3
  have HF : Hid _ := h2
  clear h2 HSo
  go_wp2_with fail
  go_ret
  exact ⟨rfl, HF.out.2⟩
/-- What KLoad leaves. -/
def LoadR (w0 : Wz) (wb : Nat) (p : Vp) (v : Vw) (L : List Lq) (i : Nat) (q : Lq) (b : Int) (e : Ending) (w' : World) : Prop :=
  e = .returned (.bool true) ∧ (KX w0 w' wb p v L ∨ ∃ (c : Nat) (x : Cl), GoodC v q.x.roots c ∧ v.h[c]? = some x ∧ Took w0 wb p v L i q (oldW b x) w')
set_option maxRecDepth 100000 in
set_option maxHeartbeats 16000000 in
theorem lane_load (w0 : Wz) (w : World) (wb gl i : Nat) (p : Vp) (v : Vw) (L : List Lq) (q : Lq) (who a b d : Int) (hX : KX w0 w wb p v L) (hs : v.h.length ≤ 100) (hq : L[i]? = some q) (hpl : p.lr = some ⟨gl, 0, none⟩) (hr : q.x.roots.length ≤ 2000) (hf : ∀ x ∈ q.x.roots, fitsW v.h.length x = true) (ha : -9223372036854775808 ≤ a ∧ a ≤ 9223372036854775807) :
    Calls Tryd.prog 62 #[.pointer (some ⟨wb, 0, none⟩), .agg #[.int .i64 1, .int .i64 who, .int .i64 a, .int .i64 b, .int .i64 d], .pointer (some ⟨gl, i * 3, none⟩)] w fun e w' => LoadR w0 wb p v L i q b e w' := by
  have hB0 := (Below.refl w.heap.size w).alloc (Nat.le_refl _) (.cells #[.int .i64 1, .int .i64 who, .int .i64 a, .int .i64 b, .int .i64 d] 72)
  have HX : Hid (KX w0 (w.alloc (.cells #[.int .i64 1, .int .i64 who, .int .i64 a, .int .i64 b, .int .i64 d] 72)) wb p v L) := hX.below hB0
  have HB : Hid ((w.alloc (.cells #[.int .i64 1, .int .i64 who, .int .i64 a, .int .i64 b, .int .i64 d] 72)).heap[w.heap.size]? = some (.cells #[.int .i64 1, .int .i64 who, .int .i64 a, .int .i64 b, .int .i64 d] 72 (0, 0))) := heap_alloc_new w _
  have HQ : Hid (L[i]? = some q ∧ p.lr = some ⟨gl, 0, none⟩) := ⟨hq, hpl⟩
  have HCl : Hid (∀ W : World, KX w0 W wb p v L → Calls Tryd.prog 81 #[.pointer (some ⟨wb, 0, none⟩), .pointer (some ⟨gl, i * 3, none⟩), .int .i64 a] W fun e w' => KcR v q.x.roots e ∧ Below W.heap.size W w') := fun W X => by
    have o := X.l
    rw [hpl] at o
    obtain ⟨g0, _, _⟩ := lq3_at L i q hq
    exact kcell_any wb gl (i * 3) p v q.x.roots q.ra q.cc a W X.b (hr_own X.c X.ok) (own_cell o g0) (o.lt gl rfl).2 (wr_own (X.q q (List.mem_of_getElem? hq)) (X.rl q (List.mem_of_getElem? hq))) (by omega) (by omega) hf ha
  have HTk : Hid (∀ (W : World) (x : Int), KX w0 W wb p v L → Rng x → Calls Tryd.prog 82 #[.pointer (some ⟨gl, i * 3, none⟩), .int .u64 x] W fun e w' => (∃ u, e = .returned u) ∧ Took w0 wb p v L i q x w') := fun W x X hx => takes_kx w0 W wb gl i p v L q x X hq hpl hx
  clear hX hB0 hq hpl hf
  go_enter Tryd.func62, Tryd.ntmps62
  go_upto_region 3 with fail
  generalize w.alloc (.cells #[.int .i64 1, .int .i64 who, .int .i64 a, .int .i64 b, .int .i64 d] 72) = W at HX HB ⊢
  generalize w.heap.size = sb at HB ⊢
  have s2 : W.cell? ⟨sb, 2, none⟩ = some (.int .i64 a) := heap_cell HB.out rfl
  have lsb := heap_lt HB.out
  go_wp2_with fail
  refine Calls.mono (HCl.out W HX.out) ?_
  rintro e w1 ⟨⟨c, is, rfl, hg⟩, hb1⟩
  have HX1 : Hid (KX w0 w1 wb p v L) := HX.out.below hb1
  have HB1 : Hid (w1.heap[sb]? = some (.cells #[.int .i64 1, .int .i64 who, .int .i64 a, .int .i64 b, .int .i64 d] 72 (0, 0))) := (hb1.block sb lsb).trans HB.out
  have HG : Hid (is = true → GoodC v q.x.roots c) := hg
  clear hb1 hg HX HB s2 lsb HCl
  have s3 : w1.cell? ⟨sb, 3, none⟩ = some (.int .i64 b) := heap_cell HB1.out rfl
  have lsb := heap_lt HB1.out
  cases is with
  | false =>
    clear HTk
    go_wp2
    go_ret
    exact ⟨rfl, .inl HX1.out⟩
  | true =>
    obtain ⟨x, hx, _⟩ := (HG.out rfl).2
    have hcl := (List.getElem?_eq_some_iff.1 hx).1
    obtain ⟨gc, cc, hvc, _, lgc0⟩ := World.ownsRow.form HX1.out.c (show 0 < v.h.length from by omega)
    have HPc : Hid (p.cr = some ⟨gc, 0, none⟩) := (Value.slice.inj hvc).1
    have HV : Hid (v.h[c]? = some x) := hx
    have kk1 : (c : Int) < (v.h.length : Int) := by omega
    have kk0 : (0 : Int) ≤ (c : Int) := by omega
    clear hvc lgc0 hx
    obtain ⟨f0, _, _, d2, d3, _, _, lwb, _, lgc⟩ := store_rd HX1.out HQ.out.1 HQ.out.2 HPc.out HV.out
    by_cases hb2 : b.tmod 2 = 0
    · have HOl : Hid (oldW b x = x.a) := if_pos hb2
      go_wp2_with fail
      refine Calls.mono (HTk.out w1 x.a HX1.out (HX1.out.ok x (List.mem_of_getElem? HV.out)).a) ?_
      rintro e w2 ⟨⟨u, rfl⟩, h2⟩
      have HF : Hid (LoadR w0 wb p v L i q b (.returned (.bool true)) w2) := ⟨rfl, .inr ⟨c, x, HG.out trivial, HV.out, by rw [HOl.out]; exact h2⟩⟩
      clear h2 HTk
      go_wp2
      go_ret
      exact HF.out
    · have HOl : Hid (oldW b x = x.b) := if_neg hb2
      go_wp2_with fail
      refine Calls.mono (HTk.out w1 x.b HX1.out (HX1.out.ok x (List.mem_of_getElem? HV.out)).b) ?_
      rintro e w2 ⟨⟨u, rfl⟩, h2⟩
      have HF : Hid (LoadR w0 wb p v L i q b (.returned (.bool true)) w2) := ⟨rfl, .inr ⟨c, x, HG.out trivial, HV.out, by rw [HOl.out]; exact h2⟩⟩
      clear h2 HTk
      go_wp2
      go_ret
      exact HF.out
end Go.Proofs.YtomdbcddokaagaaDoor

/- A world of one's own: a lane takes a global. -/
namespace Go.Proofs.YtomdbcddokaagaaDoor
open Go.RowKit

theorem takes_ks (w0 : Wz) (w : World) (wb gl i : Nat) (p : Vp) (v : Vw) (L : List Lq) (q : Lq) (x : Int) (hX : KX w0 w wb p v L) (hq : L[i]? = some q) (hpl : p.lr = some ⟨gl, 0, none⟩) (hx : Rng x) :
    Calls Tryd.prog 82 #[.pointer (some ⟨gl, i * 3, none⟩), .int .u64 x] w fun e w' => (∃ u, e = .returned u) ∧ Took w0 wb p v L i q x w' ∧ Ks w w' := by
  have o := hX.l
  rw [hpl] at o
  obtain ⟨g0, _, _⟩ := lq3_at L i q hq
  obtain ⟨cs, h1, _⟩ := own_out o
  have hc : cs[i * 3]? = some (.slice q.ra q.x.roots.length q.cc) := by
    have h := own_cell o g0
    unfold World.cell? at h
    rw [h1] at h
    simpa using h
  refine (takes_any w0.heap.size gl (i * 3) q.x.roots q.ra q.cc x cs w hX.bel.size h1 hc (hX.q q (List.mem_of_getElem? hq))).mono ?_
  rintro e w' ⟨h2, h3⟩
  refine ⟨h2, ?_, ?_⟩
  · by_cases h40 : q.x.roots.length < 40
    · exact .inr (hX.takes hpl hq hx h40 h3)
    · rcases h3 with ⟨_, rfl⟩ | ⟨h, _⟩
      · exact .inl hX
      · exact absurd h h40
  · rcases h3 with ⟨_, rfl⟩ | ⟨_, rr, cc, w1, _, hgr, _, rfl⟩
    · exact Ks.refl _
    · have hw := hX.q q (List.mem_of_getElem? hq)
      refine ((Ks.below ((Below.refl _ _).alloc (Nat.le_refl _) (.cells #[.int .u64 x] 57))).trans (fun k _ hk => hgr.block k (heap_lt hk) (fun e => own_ty (hw.alloc _) hk (by decide) e.symm))).trans ?_
      have hg : w1.heap[gl]? = w.heap[gl]? := (hgr.block gl (by rw [World.size_alloc]; have := heap_lt h1; omega) (fun e => own_ty hw h1 (by decide) e.symm)).trans (Below.heap_alloc _ _ _ (heap_lt h1))
      exact Ks.set (hg.trans h1) (by decide)
theorem Took.gl {w0 : Wz} {W : World} {wb i : Nat} {p : Vp} {v : Vw} {L : List Lq} {q : Lq} {x : Int} (h : Took w0 wb p v L i q x W) : W.cell? ⟨wb, 4, none⟩ = some (.slice p.gr v.gl.length p.gc) ∧ W.ownsRow w0.heap.size 57 1 (.slice p.gr v.gl.length p.gc) v.gl.length (v.gl.map (Value.int .u64)) ∧ wb < W.heap.size := by
  rcases h with X | ⟨rr, cc, X⟩
  · exact ⟨heap_cell X.b rfl, X.g, heap_lt X.b⟩
  · exact ⟨heap_cell X.b rfl, X.g, heap_lt X.b⟩
/-- What KGlobal leaves. -/
def GlobR (w0 : Wz) (wb : Nat) (p : Vp) (v : Vw) (L : List Lq) (i : Nat) (q : Lq) (e : Ending) (w' : World) : Prop :=
  e = .returned (.bool true) ∧ (KX w0 w' wb p v L ∨ ∃ x ∈ v.gl, Took w0 wb p v L i q x w')
set_option maxRecDepth 100000 in
set_option maxHeartbeats 16000000 in
theorem lane_global (w0 : Wz) (w : World) (wb gl i : Nat) (p : Vp) (v : Vw) (L : List Lq) (q : Lq) (who a b d : Int) (hX : KX w0 w wb p v L) (hgl : v.gl.length ≤ 2000) (hq : L[i]? = some q) (hpl : p.lr = some ⟨gl, 0, none⟩) (ha : -9223372036854775808 ≤ a ∧ a ≤ 9223372036854775807) :
    Calls Tryd.prog 62 #[.pointer (some ⟨wb, 0, none⟩), .agg #[.int .i64 2, .int .i64 who, .int .i64 a, .int .i64 b, .int .i64 d], .pointer (some ⟨gl, i * 3, none⟩)] w fun e w' => GlobR w0 wb p v L i q e w' := by
  have hB0 := (Below.refl w.heap.size w).alloc (Nat.le_refl _) (.cells #[.int .i64 2, .int .i64 who, .int .i64 a, .int .i64 b, .int .i64 d] 72)
  have HX : Hid (KX w0 (w.alloc (.cells #[.int .i64 2, .int .i64 who, .int .i64 a, .int .i64 b, .int .i64 d] 72)) wb p v L) := hX.below hB0
  have HB : Hid ((w.alloc (.cells #[.int .i64 2, .int .i64 who, .int .i64 a, .int .i64 b, .int .i64 d] 72)).heap[w.heap.size]? = some (.cells #[.int .i64 2, .int .i64 who, .int .i64 a, .int .i64 b, .int .i64 d] 72 (0, 0))) := heap_alloc_new w _
  have hmx : Tryd.prog.follows .mixedOrders = true := by kernel_rfl
  have HTk : Hid (∀ (W : World) (x : Int), KX w0 W wb p v L → Rng x → Calls Tryd.prog 82 #[.pointer (some ⟨gl, i * 3, none⟩), .int .u64 x] W fun e w' => (∃ u, e = .returned u) ∧ Took w0 wb p v L i q x w' ∧ Ks W w') := fun W x X hx => takes_ks w0 W wb gl i p v L q x X hq hpl hx
  clear hX hB0 hq hpl
  go_enter Tryd.func62, Tryd.ntmps62
  go_upto_region 9 with fail
  generalize w.alloc (.cells #[.int .i64 2, .int .i64 who, .int .i64 a, .int .i64 b, .int .i64 d] 72) = W at HX HB ⊢
  generalize w.heap.size = sb at HB ⊢
  have s2 : W.cell? ⟨sb, 2, none⟩ = some (.int .i64 a) := heap_cell HB.out rfl
  have lsb := heap_lt HB.out
  have f4 : W.cell? ⟨wb, 4, none⟩ = some (.slice p.gr v.gl.length p.gc) := heap_cell HX.out.b rfl
  have lwb := heap_lt HX.out.b
  by_cases hlt : 0 < v.gl.length
  · have kg : (0 : Int) < (v.gl.length : Int) := by omega
    obtain ⟨gg, cg, hvg, _, lgg⟩ := World.ownsRow.form HX.out.g hlt
    have hpg : p.gr = some ⟨gg, 0, none⟩ := (Value.slice.inj hvg).1
    have hk := pick_lt (c := a) hlt
    have HPk : Hid (∀ W, Calls Tryd.prog 60 #[.int .i64 a, .int .i64 v.gl.length] W fun e w' => e = .returned (.int .i64 (pickN a v.gl.length)) ∧ w' = W) := fun W => pick_any a v.gl.length W ha hlt (by omega)
    generalize pickN a v.gl.length = k at hk HPk
    obtain ⟨x, hx⟩ : ∃ x, v.gl[k]? = some x := ⟨_, List.getElem?_eq_getElem hk⟩
    have kk0 : (0 : Int) ≤ (k : Int) := by omega
    have kk1 : (k : Int) < (v.gl.length : Int) := by omega
    rw [hpg] at f4
    have og := HX.out.g
    rw [hpg] at og
    have r0 : W.cell? ⟨gg, k, none⟩ = some (.int .u64 x) := own_cell og (by rw [List.getElem?_map, hx]; rfl)
    have HTx : Hid (Calls Tryd.prog 82 #[.pointer (some ⟨gl, i * 3, none⟩), .int .u64 x] W.drew fun e w' => (∃ u, e = .returned u) ∧ Took w0 wb p v L i q x w' ∧ Ks W.drew w') := HTk.out W.drew x (HX.out.below (Below.refl _ _).drew) (HX.out.rg x (List.mem_of_getElem? hx))
    have HM : Hid (x ∈ v.gl) := List.mem_of_getElem? hx
    have HKp : Hid (∀ w' : World, Took w0 wb p v L i q x w' → Ks W.drew w' → w'.cell? ⟨wb, 4, none⟩ = some (.slice (some ⟨gg, 0, none⟩) v.gl.length p.gc) ∧ w'.cell? ⟨gg, k, none⟩ = some (.int .u64 x) ∧ w'.cell? ⟨sb, 2, none⟩ = some (.int .i64 a) ∧ wb < w'.heap.size ∧ gg < w'.heap.size ∧ sb < w'.heap.size) := fun w' ht hs => by
      obtain ⟨g0, g1, g2⟩ := ht.gl
      rw [hpg] at g0 g1
      have hb : w'.heap[sb]? = _ := (hs sb _ HB.out).trans HB.out
      exact ⟨g0, own_cell g1 (by rw [List.getElem?_map, hx]; rfl), heap_cell hb rfl, g2, (g1.lt gg rfl).2, heap_lt hb⟩
    clear og hvg hpg hx hk HTk ha hlt hgl
    go_upto_region 10 with fail
    go_region_held3 (fun w' : World => w'.cell? ⟨wb, 4, none⟩ = some (.slice (some ⟨gg, 0, none⟩) v.gl.length p.gc) ∧ w'.cell? ⟨gg, k, none⟩ = some (.int .u64 x) ∧ w'.cell? ⟨sb, 2, none⟩ = some (.int .i64 a) ∧ wb < w'.heap.size ∧ gg < w'.heap.size ∧ sb < w'.heap.size) (first | exact ⟨f4, r0, s2, lwb, lgg, lsb⟩ | (go_keep; done) | exact HKp.out _ h5 h6) (first | (go_at_call 60; refine (HPk.out _).mono ?_; rintro e w99 ⟨rfl, hw99⟩; rw [hw99]; clear hw99) | (go_at_call 82; refine HTx.out.mono ?_; rintro e w5 ⟨⟨u, rfl⟩, h5, h6⟩) | fail)
    have HF : Hid (GlobR w0 wb p v L i q (.returned (.bool true)) w5) := ⟨rfl, .inr ⟨x, HM.out, h5⟩⟩
    clear h5 h6 HTx HKp HPk
    go_wp2
    go_ret
    exact HF.out
  · have kg : ¬ (0 : Int) < (v.gl.length : Int) := by omega
    clear hlt HTk
    go_wp2
    go_ret
    exact ⟨rfl, .inl HX.out⟩
end Go.Proofs.YtomdbcddokaagaaDoor
