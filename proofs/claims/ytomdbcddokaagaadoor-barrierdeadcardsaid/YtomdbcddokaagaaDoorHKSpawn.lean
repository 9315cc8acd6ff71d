/- A world of one's own: a lane comes. -/
import Derived.Test.YtomdbcddokaagaaDoorGU
import Derived.Test.YtomdbcddokaagaaDoorHKLast
import Derived.Maps.AppendAt
namespace Go.Proofs.YtomdbcddokaagaaDoor
open Go.RowKit

set_option maxRecDepth 100000 in
set_option maxHeartbeats 16000000 in
theorem step_spawn (w0 : Wz) (w : World) (wb i : Nat) (p : Vp) (v : Vw) (L : List Lq) (q : Lq) (N : Nat) (who a b d : Int) (hX : KX w0 w wb p v L) (hT : Tab w) (hi : i = pickN who L.length) (hq : L[i]? = some q) (hen : q.x.en = false) (hTl : 0 < w0.heap.size) (hg : Good v) (hB : Bn v N) (hN : 2 ≤ N ∧ N + 2 ≤ 2000) (hw : Sml who) (ha : Sml a) (hb : Sml b) :
    Calls Tryd.prog 14 #[.pointer (some ⟨wb, 0, none⟩), .agg #[.int .i64 8, .int .i64 who, .int .i64 a, .int .i64 b, .int .i64 d]] w fun e w' => Steps w0 wb (fun v' _ => Mvs v v') e w' := by
  obtain ⟨i2, hi2, hx0, hx1, hx2⟩ := info_parts infoLn
  have hB0 := (Below.refl w.heap.size w).alloc (Nat.le_refl _) (.cells #[.int .i64 8, .int .i64 who, .int .i64 a, .int .i64 b, .int .i64 d] 72)
  have HX : Hid (KX w0 (w.alloc (.cells #[.int .i64 8, .int .i64 who, .int .i64 a, .int .i64 b, .int .i64 d] 72)) wb p v L) := hX.below hB0
  have HT : Hid (Tab (w.alloc (.cells #[.int .i64 8, .int .i64 who, .int .i64 a, .int .i64 b, .int .i64 d] 72))) := hT.below hB0
  have HB : Hid ((w.alloc (.cells #[.int .i64 8, .int .i64 who, .int .i64 a, .int .i64 b, .int .i64 d] 72)).heap[w.heap.size]? = some (.cells #[.int .i64 8, .int .i64 who, .int .i64 a, .int .i64 b, .int .i64 d] 72 (0, 0))) := heap_alloc_new w _
  have hiL := (List.getElem?_eq_some_iff.1 hq).1
  have hlen : v.lanes.length = L.length := by rw [← hX.e, List.length_map]
  have hl8 := hB.l
  have hmx : Tryd.prog.follows .mixedOrders = true := by kernel_rfl
  have HPk : Hid (∀ W, Calls Tryd.prog 60 #[.int .i64 who, .int .i64 L.length] W fun e w' => e = .returned (.int .i64 i) ∧ w' = W) := fun W => by rw [hi]; exact pick_any who L.length W hw (by omega) (by omega)
  obtain ⟨gl, cl, hvl, -, -⟩ := World.ownsRow.form hX.l (show 0 < L.length by omega)
  have hpl : p.lr = some ⟨gl, 0, none⟩ := (Value.slice.inj hvl).1
  have hrl : q.x.roots.length ≤ 2000 := by
    have := hB.r q.x (List.mem_of_getElem? (hX.lane hq))
    omega
  have val : ∀ c : Int, Sml c → ∀ (W : World) (g : Nat), KX w0 W wb p v L → W.heap[g]? = some (.cells #[.slice q.ra q.x.roots.length q.cc, .bool q.x.sc, .bool q.x.en] 61 (0, 0)) → Calls Tryd.prog 61 #[.pointer (some ⟨g, 0, none⟩), .int .i64 c] W fun e w' => e = .returned (.int .u64 (valM q.x.roots c)) ∧ w' = W := fun c hc W g X hgb =>
    value_any q.x.roots q.ra q.cc g 0 c W (heap_cell hgb rfl) (heap_lt hgb) (wr_own (X.q q (List.mem_of_getElem? hq)) (X.rl q (List.mem_of_getElem? hq))) (by omega) hc
  have HVa : Hid _ := val a ha
  have HVb : Hid _ := val b hb
  have HRa : Hid (Rng (valM q.x.roots a) ∧ Own q.x (valM q.x.roots a)) := ⟨val_rng (hX.rl q (List.mem_of_getElem? hq)) a, val_own q.x a⟩
  have HRb : Hid (Rng (valM q.x.roots b) ∧ Own q.x (valM q.x.roots b)) := ⟨val_rng (hX.rl q (List.mem_of_getElem? hq)) b, val_own q.x b⟩
  generalize valM q.x.roots a = na at HVa HRa
  generalize valM q.x.roots b = nb at HVb HRb
  have HG : Hid (Good v ∧ Bn v N ∧ v.lanes[i]? = some q.x) := ⟨hg, hB, hX.lane hq⟩
  have HQ : Hid (L[i]? = some q ∧ p.lr = some ⟨gl, 0, none⟩) := ⟨hq, hpl⟩
  have HTl : Hid (0 < w0.heap.size) := hTl
  have HLn : Hid (v.lanes.length = L.length) := hlen
  clear hX hT hB0 hTl hg hq hvl hpl hB hi ha hb hw val
  go_enter Tryd.func14, Tryd.ntmps14
  go_upto_region 1 with fail
  generalize w.alloc (.cells #[.int .i64 8, .int .i64 who, .int .i64 a, .int .i64 b, .int .i64 d] 72) = W at HX HT HB ⊢
  generalize w.heap.size = sb at HB ⊢
  have s0 : W.cell? ⟨sb, 0, none⟩ = some (.int .i64 8) := heap_cell HB.out rfl
  have s1 : W.cell? ⟨sb, 1, none⟩ = some (.int .i64 who) := heap_cell HB.out rfl
  have lsb := heap_lt HB.out
  have f6 : W.cell? ⟨wb, 6, none⟩ = some (.slice (some ⟨gl, 0, none⟩) L.length p.lc) := by
    have h : W.cell? ⟨wb, 6, none⟩ = some (.slice p.lr v.lanes.length p.lc) := heap_cell HX.out.b rfl
    rw [HQ.out.2, hlen] at h
    exact h
  have lwb := heap_lt HX.out.b
  have ol := HX.out.l
  rw [HQ.out.2] at ol
  obtain ⟨m0, m1, m2⟩ := lq3_at L i q HQ.out.1
  have r0 : W.cell? ⟨gl, i * 3, none⟩ = some (.slice q.ra q.x.roots.length q.cc) := own_cell ol m0
  have r1 : W.cell? ⟨gl, i * 3 + 1, none⟩ = some (.bool q.x.sc) := own_cell ol m1
  have r2 : W.cell? ⟨gl, i * 3 + 1 + 1, none⟩ = some (.bool q.x.en) := own_cell ol m2
  rw [hen] at r2
  have lgl := (ol.lt gl rfl).2
  have k1 : (0 : Int) ≤ (i : Int) := by omega
  have k2 : (i : Int) < (L.length : Int) := by omega
  have k3 : ¬ (L.length : Int) = 0 := by omega
  have k4 : ((L.length : Int) == 0) = false := by simpa using k3
  clear ol m0 m1 m2 hlen
  go_upto_region 8 with fail
  go_quiet (first | (go_at_call 60; exact Calls.quiet_of_same (HPk.out _)) | fail)
  go_upto_region 11 with fail
  have hbd := below_dN (Below.refl W.heap.size W) nq
  have HX2 : Hid (KX w0 (W.drewN nq) wb p v L) := HX.out.below hbd
  have HT2 : Hid (Tab (W.drewN nq)) := HT.out.below hbd
  have HB2 : Hid ((W.drewN nq).heap[sb]? = some (.cells #[.int .i64 8, .int .i64 who, .int .i64 a, .int .i64 b, .int .i64 d] 72 (0, 0))) := (hbd.block sb lsb).trans HB.out
  have cc : ∀ {g o : Nat} {u : Value}, g < W.heap.size → W.cell? ⟨g, o, none⟩ = some u → (W.drewN nq).cell? ⟨g, o, none⟩ = some u := fun {g o u} hg h => (World.cell?_of_block (a := ⟨g, o, none⟩) (hbd.block g hg)).trans h
  have c6 := cc lwb f6
  have c1 := cc lsb s1
  have d0 := cc lgl r0
  have d1 := cc lgl r1
  have d2 := cc lgl r2
  have hz := hbd.size
  have l1 : wb < (W.drewN nq).heap.size := by omega
  have l2 : sb < (W.drewN nq).heap.size := by omega
  have l3 : gl < (W.drewN nq).heap.size := by omega
  clear cc hbd hz s0 s1 lsb f6 lwb r0 r1 r2 lgl HX HT HB
  generalize W.drewN nq = W2 at HX2 HT2 HB2 c6 c1 d0 d1 d2 l1 l2 l3 ⊢
  have HKb : Hid (∀ w' : World, Below W2.heap.size W2 w' → w'.cell? ⟨wb, 6, none⟩ = some (.slice (some ⟨gl, 0, none⟩) L.length p.lc) ∧ w'.cell? ⟨sb, 1, none⟩ = some (.int .i64 who) ∧ w'.cell? ⟨gl, i * 3, none⟩ = some (.slice q.ra q.x.roots.length q.cc) ∧ w'.cell? ⟨gl, i * 3 + 1, none⟩ = some (.bool q.x.sc) ∧ w'.cell? ⟨gl, i * 3 + 1 + 1, none⟩ = some (.bool false) ∧ wb < w'.heap.size ∧ sb < w'.heap.size ∧ gl < w'.heap.size) := fun w' hbb => by
    have cc : ∀ {g o : Nat} {u : Value}, g < W2.heap.size → W2.cell? ⟨g, o, none⟩ = some u → w'.cell? ⟨g, o, none⟩ = some u := fun {g o u} hg h => (World.cell?_of_block (a := ⟨g, o, none⟩) (hbb.block g hg)).trans h
    have hz := hbb.size
    exact ⟨cc l1 c6, cc l2 c1, cc l3 d0, cc l3 d1, cc l3 d2, by omega, by omega, by omega⟩
  go_cut [7] from 57 (fun v7 wx => ∃ g : Nat, v7 = .pointer (some ⟨g, 0, none⟩) ∧ Hid (Below W2.heap.size W2 wx ∧ wx.heap[g]? = some (.cells #[.slice q.ra q.x.roots.length q.cc, .bool q.x.sc, .bool q.x.en] 61 (0, 0)) ∧ W2.heap.size ≤ g))
  case first =>
    go_region_held3 (fun w' : World => w'.cell? ⟨wb, 6, none⟩ = some (.slice (some ⟨gl, 0, none⟩) L.length p.lc) ∧ w'.cell? ⟨sb, 1, none⟩ = some (.int .i64 who) ∧ w'.cell? ⟨gl, i * 3, none⟩ = some (.slice q.ra q.x.roots.length q.cc) ∧ w'.cell? ⟨gl, i * 3 + 1, none⟩ = some (.bool q.x.sc) ∧ w'.cell? ⟨gl, i * 3 + 1 + 1, none⟩ = some (.bool false) ∧ wb < w'.heap.size ∧ sb < w'.heap.size ∧ gl < w'.heap.size) (first | exact ⟨c6, c1, d0, d1, d2, l1, l2, l3⟩ | (refine HKb.out _ ?_; repeat (first | exact Below.refl _ _ | apply Below.drew | refine Below.setCell ?_ (Nat.le_refl _) _ | refine Below.alloc ?_ (Nat.le_refl _) _)) | (go_keep; done)) (first | (go_at_call 60; refine (HPk.out _).mono ?_; rintro e w99 ⟨rfl, hw99⟩; rw [hw99]; clear hw99) | fail)
    all_goals
      go_wp2
      go_meet
      exact ⟨W2.heap.size, rfl, ((Below.refl _ _).alloc (Nat.le_refl _) _).drew, by rw [hen]; exact heap_alloc_new W2 _, Nat.le_refl _⟩
  case rest =>
    obtain ⟨g, rfl, HGb⟩ := hcut
    have hbc := HGb.out.1
    have HX3 : Hid (KX w0 wc wb p v L) := HX2.out.below hbc
    have HT3 : Hid (Tab wc) := HT2.out.below hbc
    have HB3 : Hid (wc.heap[sb]? = some (.cells #[.int .i64 8, .int .i64 who, .int .i64 a, .int .i64 b, .int .i64 d] 72 (0, 0))) := (hbc.block sb l2).trans HB2.out
    have HGg : Hid (gl < W2.heap.size ∧ wb < W2.heap.size ∧ W2.heap.size ≤ g) := ⟨l3, l1, HGb.out.2.2⟩
    obtain ⟨c6', -, -, -, -, l1', l2', l3'⟩ := HKb.out wc hbc
    have t2 : wc.cell? ⟨sb, 2, none⟩ = some (.int .i64 a) := heap_cell HB3.out rfl
    have t3 : wc.cell? ⟨sb, 3, none⟩ = some (.int .i64 b) := heap_cell HB3.out rfl
    have q0 : wc.cell? ⟨g, 0, none⟩ = some (.slice q.ra q.x.roots.length q.cc) := heap_cell HGb.out.2.1 rfl
    have q1 : wc.cell? ⟨g, 1, none⟩ = some (.bool q.x.sc) := heap_cell HGb.out.2.1 rfl
    have lg := heap_lt HGb.out.2.1
    clear c6 c1 d0 d1 d2 l1 l2 l3 hbc HX2 HT2 HB2 HKb HPk
    by_cases h8 : L.length < 8
    · have k8 : (L.length : Int) < 8 := by omega
      have oB : ((wc.alloc (.cells #[.int .u64 na, .int .u64 nb] 57)).alloc (.cells #[.slice (some ⟨wc.heap.size, 0, none⟩) 2 2, .bool q.x.sc, .bool false] 61)).drew.heap[(wc.alloc (.cells #[.int .u64 na, .int .u64 nb] 57)).heap.size]? = some (.cells #[.slice (some ⟨wc.heap.size, 0, none⟩) 2 2, .bool q.x.sc, .bool false] 61 (0, 0)) := heap_alloc_new _ _
      have b3 : Below wc.heap.size wc ((wc.alloc (.cells #[.int .u64 na, .int .u64 nb] 57)).alloc (.cells #[.slice (some ⟨wc.heap.size, 0, none⟩) 2 2, .bool q.x.sc, .bool false] 61)).drew := (((Below.refl _ _).alloc (Nat.le_refl _) _).alloc (by rw [World.size_alloc]; omega) _).drew
      have oA : ((wc.alloc (.cells #[.int .u64 na, .int .u64 nb] 57)).alloc (.cells #[.slice (some ⟨wc.heap.size, 0, none⟩) 2 2, .bool q.x.sc, .bool false] 61)).drew.ownsRow w0.heap.size 57 1 (.slice (some ⟨wc.heap.size, 0, none⟩) 2 2) 2 ([na, nb].map (Value.int .u64)) := by
        have h1 : (wc.alloc (.cells #[.int .u64 na, .int .u64 nb] 57)).ownsRow w0.heap.size 57 1 (.slice (some ⟨wc.heap.size, 0, none⟩) 2 2) 2 ([na, nb].map (Value.int .u64)) := World.ownsRow_lit wc #[.int .u64 na, .int .u64 nb] 2 HX3.out.bel.size (by unfold maxLen; omega) rfl
        exact own_same (h1.alloc _) (fun k hk => rfl)
      have hsz : ((wc.alloc (.cells #[.int .u64 na, .int .u64 nb] 57)).alloc (.cells #[.slice (some ⟨wc.heap.size, 0, none⟩) 2 2, .bool q.x.sc, .bool false] 61)).drew.heap.size = wc.heap.size + 2 := by
        show ((wc.alloc (.cells #[.int .u64 na, .int .u64 nb] 57)).alloc (.cells #[.slice (some ⟨wc.heap.size, 0, none⟩) 2 2, .bool q.x.sc, .bool false] 61)).heap.size = wc.heap.size + 2
        rw [World.size_alloc, World.size_alloc]
      have X4 := HX3.out.below b3
      have hb0 := X4.bel.size
      have HX4 : Hid (KX w0 ((wc.alloc (.cells #[.int .u64 na, .int .u64 nb] 57)).alloc (.cells #[.slice (some ⟨wc.heap.size, 0, none⟩) 2 2, .bool q.x.sc, .bool false] 61)).drew wb p v L) := X4
      have HOA : Hid _ := oA
      have HL4 : Hid (((wc.alloc (.cells #[.int .u64 na, .int .u64 nb] 57)).alloc (.cells #[.slice (some ⟨wc.heap.size, 0, none⟩) 2 2, .bool q.x.sc, .bool false] 61)).drew.ownsRow w0.heap.size 61 3 (.slice (some ⟨gl, 0, none⟩) L.length p.lc) L.length (lq3 L)) := by
        have h := X4.l
        rw [HQ.out.2] at h
        exact h
      have HNw : Hid (∀ j u, [Value.slice (some ⟨wc.heap.size, 0, none⟩) 2 2, .bool q.x.sc, .bool false][j]? = some u → ((wc.alloc (.cells #[.int .u64 na, .int .u64 nb] 57)).alloc (.cells #[.slice (some ⟨wc.heap.size, 0, none⟩) 2 2, .bool q.x.sc, .bool false] 61)).drew.cell? ((⟨wc.heap.size + 1, 0, none⟩ : Addr).add j) = some u) := by
        rw [World.size_alloc] at oB
        exact World.news_of_block (cs := #[.slice (some ⟨wc.heap.size, 0, none⟩) 2 2, .bool q.x.sc, .bool false]) oB
      have HSz : Hid (w0.heap.size ≤ ((wc.alloc (.cells #[.int .u64 na, .int .u64 nb] 57)).alloc (.cells #[.slice (some ⟨wc.heap.size, 0, none⟩) 2 2, .bool q.x.sc, .bool false] 61)).drew.heap.size) := hb0
      have HX5 : Hid (∀ (gn cn : Nat) (w4 : World), ((wc.alloc (.cells #[.int .u64 na, .int .u64 nb] 57)).alloc (.cells #[.slice (some ⟨wc.heap.size, 0, none⟩) 2 2, .bool q.x.sc, .bool false] 61)).drew.grownBy w4 (Value.slice (some ⟨gl, 0, none⟩) L.length p.lc).ownBlock → w4.ownsRow w0.heap.size 61 3 (.slice (some ⟨gn, 0, none⟩) (L.length + 1) cn) (L.length + 1) (lq3 L ++ [.slice (some ⟨wc.heap.size, 0, none⟩) 2 2, .bool q.x.sc, .bool false]) → KX w0 (w4.setCell ⟨wb, 6, none⟩ (.slice (some ⟨gn, 0, none⟩) (L.length + 1) cn)) wb { p with lr := some ⟨gn, 0, none⟩, lc := cn } ⟨v.h, v.ph, v.sw, v.grey, v.gl, v.laid, v.lanes ++ [⟨[na, nb], q.x.sc, false⟩]⟩ (L ++ [⟨some ⟨wc.heap.size, 0, none⟩, 2, ⟨[na, nb], q.x.sc, false⟩⟩])) := fun gn cn w4 hgr hown => by
        rw [← HQ.out.2] at hgr
        exact HX4.out.growL (r := ⟨some ⟨wc.heap.size, 0, none⟩, 2, ⟨[na, nb], q.x.sc, false⟩⟩) hgr hown HOA.out (fun k hk h2 => by
          have h3 := (HX3.out.g.lt k hk).2
          have e : wc.heap.size = k := Option.some.inj h2
          omega) (fun o ho k hk h2 => by
          have h3 := ((HX3.out.q o ho).lt k hk).2
          have e : wc.heap.size = k := Option.some.inj h2
          omega) (fun x hx => by
          simp at hx
          rcases hx with rfl | rfl
          · exact HRa.out.1
          · exact HRb.out.1)
      have HK0 : Hid (∀ (w4 : World), ((wc.alloc (.cells #[.int .u64 na, .int .u64 nb] 57)).alloc (.cells #[.slice (some ⟨wc.heap.size, 0, none⟩) 2 2, .bool q.x.sc, .bool false] 61)).drew.grownBy w4 (Value.slice (some ⟨gl, 0, none⟩) L.length p.lc).ownBlock → ∀ k, k < wc.heap.size → k ≠ gl → w4.heap[k]? = wc.heap[k]?) := fun w4 hgr k hk hne => (hgr.block k (by omega) (fun e => hne (Option.some.inj e))).trans (b3.block k hk)
      have HKp : Hid (∀ w' : World, (∀ k, k < wc.heap.size → k ≠ gl → k ≠ wb → w'.heap[k]? = wc.heap[k]?) → w'.cell? ⟨sb, 2, none⟩ = some (.int .i64 a) ∧ w'.cell? ⟨sb, 3, none⟩ = some (.int .i64 b) ∧ w'.cell? ⟨g, 0, none⟩ = some (.slice q.ra q.x.roots.length q.cc) ∧ w'.cell? ⟨g, 1, none⟩ = some (.bool q.x.sc) ∧ sb < w'.heap.size ∧ g < w'.heap.size) := fun w' hk => by
        have ol := HX3.out.l
        rw [HQ.out.2] at ol
        have n1 : sb ≠ gl := fun e => own_ty ol HB3.out (by decide) (by rw [e]; rfl)
        have n2 : sb ≠ wb := fun e => by
          have h1 := HX3.out.b
          rw [← e, HB3.out] at h1
          cases h1
        have h3 := HGg.out
        have e1 := (hk sb l2' n1 n2).trans HB3.out
        have e2 := (hk g lg (by omega) (by omega)).trans HGb.out.2.1
        exact ⟨heap_cell e1 rfl, heap_cell e1 rfl, heap_cell e2 rfl, heap_cell e2 rfl, heap_lt e1, heap_lt e2⟩
      have HKz : Hid (∀ w' : World, Below wc.heap.size wc w' → ∀ k, k < wc.heap.size → k ≠ gl → k ≠ wb → w'.heap[k]? = wc.heap[k]?) := fun w' hb k hk _ _ => hb.block k hk
      have HK4 : Hid (∀ (w4 : World), ((wc.alloc (.cells #[.int .u64 na, .int .u64 nb] 57)).alloc (.cells #[.slice (some ⟨wc.heap.size, 0, none⟩) 2 2, .bool q.x.sc, .bool false] 61)).drew.grownBy w4 (Value.slice (some ⟨gl, 0, none⟩) L.length p.lc).ownBlock → ∀ k, k < wc.heap.size → k ≠ gl → k ≠ wb → w4.heap[k]? = wc.heap[k]?) := fun w4 hgr k hk h1 _ => HK0.out w4 hgr k hk h1
      have HK5 : Hid (∀ (w4 : World), ((wc.alloc (.cells #[.int .u64 na, .int .u64 nb] 57)).alloc (.cells #[.slice (some ⟨wc.heap.size, 0, none⟩) 2 2, .bool q.x.sc, .bool false] 61)).drew.grownBy w4 (Value.slice (some ⟨gl, 0, none⟩) L.length p.lc).ownBlock → ∀ (j : Nat) (u : Value) (k : Nat), k < wc.heap.size → k ≠ gl → k ≠ wb → (w4.setCell ⟨wb, j, none⟩ u).heap[k]? = wc.heap[k]?) := fun w4 hgr j u k hk h1 h2 => (Below.heap_setCell _ _ _ _ h2).trans (HK0.out w4 hgr k hk h1)
      have HF4 : Hid (∀ (w4 : World), ((wc.alloc (.cells #[.int .u64 na, .int .u64 nb] 57)).alloc (.cells #[.slice (some ⟨wc.heap.size, 0, none⟩) 2 2, .bool q.x.sc, .bool false] 61)).drew.grownBy w4 (Value.slice (some ⟨gl, 0, none⟩) L.length p.lc).ownBlock → w4.cell? ⟨wb, 6, none⟩ = some (.slice (some ⟨gl, 0, none⟩) L.length p.lc) ∧ w4.frozen? ⟨wb, 6, none⟩ = false ∧ wb < w4.heap.size) := fun w4 hgr => by
        have ol := HX3.out.l
        rw [HQ.out.2] at ol
        have e := (HK0.out w4 hgr wb l1' (fun e => own_ty ol HX3.out.b (by decide) (by rw [e]; rfl))).trans HX3.out.b
        have h := heap_cell (j := 6) e rfl
        have e2 : (p.cells v)[6]? = some (.slice (some ⟨gl, 0, none⟩) L.length p.lc) := by
          have : (p.cells v)[6]? = some (.slice p.lr v.lanes.length p.lc) := rfl
          rw [this, HQ.out.2, HLn.out]
        exact ⟨heap_cell e e2, fz_of e 6, heap_lt e⟩
      have HV1 : Hid (Calls Tryd.prog 61 #[.pointer (some ⟨g, 0, none⟩), .int .i64 a] wc.drew fun e w' => e = .returned (.int .u64 na) ∧ w' = wc.drew) := HVa.out wc.drew g (HX3.out.below (Below.refl _ _).drew) HGb.out.2.1
      have HV2 : Hid (Calls Tryd.prog 61 #[.pointer (some ⟨g, 0, none⟩), .int .i64 b] wc.drew fun e w' => e = .returned (.int .u64 nb) ∧ w' = wc.drew) := HVb.out wc.drew g (HX3.out.below (Below.refl _ _).drew) HGb.out.2.1
      clear X4 oA oB b3 hsz hb0 HVa HVb HK0
      go_upto_region 13 with fail
      have HKq : Hid (∀ w' : World, (∀ k, k < wc.heap.size → k ≠ gl → w'.heap[k]? = wc.heap[k]?) → w'.cell? ⟨wb, 6, none⟩ = some (.slice (some ⟨gl, 0, none⟩) L.length p.lc) ∧ w'.cell? ⟨sb, 2, none⟩ = some (.int .i64 a) ∧ w'.cell? ⟨sb, 3, none⟩ = some (.int .i64 b) ∧ w'.cell? ⟨g, 0, none⟩ = some (.slice q.ra q.x.roots.length q.cc) ∧ w'.cell? ⟨g, 1, none⟩ = some (.bool q.x.sc) ∧ wb < w'.heap.size ∧ sb < w'.heap.size ∧ g < w'.heap.size) := fun w' hk => by
        have h6 := HKp.out _ (fun k h1 h2 _ => hk k h1 h2)
        have ol := HX3.out.l
        rw [HQ.out.2] at ol
        have hbb := (hk wb l1' (fun e => own_ty ol HX3.out.b (by decide) (by rw [e]; rfl))).trans HX3.out.b
        have e2 : (p.cells v)[6]? = some (.slice (some ⟨gl, 0, none⟩) L.length p.lc) := by
          have : (p.cells v)[6]? = some (.slice p.lr v.lanes.length p.lc) := rfl
          rw [this, HQ.out.2, HLn.out]
        exact ⟨heap_cell hbb e2, h6.1, h6.2.1, h6.2.2.1, h6.2.2.2.1, heap_lt hbb, h6.2.2.2.2⟩
      have HKy : Hid (∀ w' : World, Below wc.heap.size wc w' → ∀ k, k < wc.heap.size → k ≠ gl → w'.heap[k]? = wc.heap[k]?) := fun w' hb k hk _ => hb.block k hk
      have hHeld : (fun w' : World => w'.cell? ⟨wb, 6, none⟩ = some (.slice (some ⟨gl, 0, none⟩) L.length p.lc) ∧ w'.cell? ⟨sb, 2, none⟩ = some (.int .i64 a) ∧ w'.cell? ⟨sb, 3, none⟩ = some (.int .i64 b) ∧ w'.cell? ⟨g, 0, none⟩ = some (.slice q.ra q.x.roots.length q.cc) ∧ w'.cell? ⟨g, 1, none⟩ = some (.bool q.x.sc) ∧ wb < w'.heap.size ∧ sb < w'.heap.size ∧ g < w'.heap.size) wc.drew := ⟨c6', t2, t3, q0, q1, l1', l2', lg⟩
      refine region_last_held (S := (fun w' : World => w'.cell? ⟨wb, 6, none⟩ = some (.slice (some ⟨gl, 0, none⟩) L.length p.lc) ∧ w'.cell? ⟨sb, 2, none⟩ = some (.int .i64 a) ∧ w'.cell? ⟨sb, 3, none⟩ = some (.int .i64 b) ∧ w'.cell? ⟨g, 0, none⟩ = some (.slice q.ra q.x.roots.length q.cc) ∧ w'.cell? ⟨g, 1, none⟩ = some (.bool q.x.sc) ∧ wb < w'.heap.size ∧ sb < w'.heap.size ∧ g < w'.heap.size)) 21 hmx (by kernel_rfl) ?_
      simp only [List.take_succ_cons, List.take_zero]
      refine wpAnyH_take (i := 0) (oi := { dst := some 70, op := Op.move (Operand.tmp 0), type := 67, pos := "keeps.go:226", after := #[], guard := none }) (v := ?v0) rfl (by kernel_rfl) (by kernel_rfl) (by kernel_rfl) (fun _ _ _ h => h) (Or.inl ⟨by rfl, ?hy0⟩) (by assumption) ?rest0
      case hy0 => (intro w hSw; (try dsimp only at hSw); go_simp; try with_reducible rfl)
      try simp only [Act.put, List.setIfInBounds_toArray, List.set_cons_zero, List.set_cons_succ]
      refine wpAnyH_take (i := 1) (oi := { dst := some 71, op := Op.move (Operand.tmp 0), type := 67, pos := "keeps.go:226", after := #[], guard := none }) (v := ?v1) rfl (by kernel_rfl) (by kernel_rfl) (by kernel_rfl) (fun _ _ _ h => h) (Or.inl ⟨by rfl, ?hy1⟩) (by assumption) ?rest1
      case hy1 => (intro w hSw; (try dsimp only at hSw); go_simp; try with_reducible rfl)
      try simp only [Act.put, List.setIfInBounds_toArray, List.set_cons_zero, List.set_cons_succ]
      refine wpAnyH_take (i := 2) (oi := { dst := some 72, op := Op.nilCheck (Operand.tmp 71), type := 0, pos := "keeps.go:226", after := #[{ on := 1, ground := Ground.data }], guard := none }) (v := ?v2) rfl (by kernel_rfl) (by kernel_rfl) (by kernel_rfl) (fun _ _ _ h => h) (Or.inl ⟨by rfl, ?hy2⟩) (by assumption) ?rest2
      case hy2 => (intro w hSw; (try dsimp only at hSw); go_simp; try with_reducible rfl)
      try simp only [Act.put, List.setIfInBounds_toArray, List.set_cons_zero, List.set_cons_succ]
      refine wpAnyH_take (i := 3) (oi := { dst := some 73, op := Op.fieldAddr 69 (Operand.tmp 72) 0, type := 0, pos := "keeps.go:226", after := #[{ on := 2, ground := Ground.data }], guard := none }) (v := ?v3) rfl (by kernel_rfl) (by kernel_rfl) (by kernel_rfl) (fun _ _ _ h => h) (Or.inl ⟨by rfl, ?hy3⟩) (by assumption) ?rest3
      case hy3 => (intro w hSw; (try dsimp only at hSw); go_simp; try with_reducible rfl)
      try simp only [Act.put, List.setIfInBounds_toArray, List.set_cons_zero, List.set_cons_succ]
      refine wpAnyH_take (i := 4) (oi := { dst := some 74, op := Op.fieldAddr 28 (Operand.tmp 73) 6, type := 0, pos := "keeps.go:226", after := #[{ on := 3, ground := Ground.data }], guard := none }) (v := ?v4) rfl (by kernel_rfl) (by kernel_rfl) (by kernel_rfl) (fun _ _ _ h => h) (Or.inl ⟨by rfl, ?hy4⟩) (by assumption) ?rest4
      case hy4 => (intro w hSw; (try dsimp only at hSw); go_simp; try with_reducible rfl)
      try simp only [Act.put, List.setIfInBounds_toArray, List.set_cons_zero, List.set_cons_succ]
      refine wpAnyH_take (i := 5) (oi := { dst := some 75, op := Op.load 26 (Operand.tmp 74), type := 26, pos := "keeps.go:226", after := #[{ on := 4, ground := Ground.data }], guard := none }) (v := ?v5) rfl (by kernel_rfl) (by kernel_rfl) (by kernel_rfl) (fun _ _ _ h => h) (Or.inl ⟨by rfl, ?hy5⟩) (by assumption) ?rest5
      case hy5 => (intro w hSw; (try dsimp only at hSw); go_simp; try with_reducible rfl)
      try simp only [Act.put, List.setIfInBounds_toArray, List.set_cons_zero, List.set_cons_succ]
      refine wpAnyH_take (i := 6) (oi := { dst := some 76, op := Op.fieldAddr 72 (Operand.tmp 3) 2, type := 0, pos := "keeps.go:226", after := #[], guard := none }) (v := ?v6) rfl (by kernel_rfl) (by kernel_rfl) (by kernel_rfl) (fun _ _ _ h => h) (Or.inl ⟨by rfl, ?hy6⟩) (by assumption) ?rest6
      case hy6 => (intro w hSw; (try dsimp only at hSw); go_simp; try with_reducible rfl)
      try simp only [Act.put, List.setIfInBounds_toArray, List.set_cons_zero, List.set_cons_succ]
      refine wpAnyH_take (i := 7) (oi := { dst := some 77, op := Op.load 3 (Operand.tmp 76), type := 3, pos := "keeps.go:226", after := #[{ on := 6, ground := Ground.data }], guard := none }) (v := ?v7) rfl (by kernel_rfl) (by kernel_rfl) (by kernel_rfl) (fun _ _ _ h => h) (Or.inl ⟨by rfl, ?hy7⟩) (by assumption) ?rest7
      case hy7 => (intro w hSw; (try dsimp only at hSw); go_simp; try with_reducible rfl)
      try simp only [Act.put, List.setIfInBounds_toArray, List.set_cons_zero, List.set_cons_succ]
      refine wpAnyH_take (i := 9) (oi := { dst := some 79, op := Op.fieldAddr 72 (Operand.tmp 3) 3, type := 0, pos := "keeps.go:226", after := #[], guard := none }) (v := ?v9) rfl (by kernel_rfl) (by kernel_rfl) (by kernel_rfl) (fun _ _ _ h => h) (Or.inl ⟨by rfl, ?hy9⟩) (by assumption) ?rest9
      case hy9 => (intro w hSw; (try dsimp only at hSw); go_simp; try with_reducible rfl)
      try simp only [Act.put, List.setIfInBounds_toArray, List.set_cons_zero, List.set_cons_succ]
      refine wpAnyH_take (i := 10) (oi := { dst := some 80, op := Op.load 3 (Operand.tmp 79), type := 3, pos := "keeps.go:226", after := #[{ on := 9, ground := Ground.data }], guard := none }) (v := ?v10) rfl (by kernel_rfl) (by kernel_rfl) (by kernel_rfl) (fun _ _ _ h => h) (Or.inl ⟨by rfl, ?hy10⟩) (by assumption) ?rest10
      case hy10 => (intro w hSw; (try dsimp only at hSw); go_simp; try with_reducible rfl)
      try simp only [Act.put, List.setIfInBounds_toArray, List.set_cons_zero, List.set_cons_succ]
      refine wpAnyH_take (i := 13) (oi := { dst := some 83, op := Op.fieldAddr 61 (Operand.tmp 7) 1, type := 0, pos := "keeps.go:226", after := #[], guard := none }) (v := ?v13) rfl (by kernel_rfl) (by kernel_rfl) (by kernel_rfl) (fun _ _ _ h => h) (Or.inl ⟨by rfl, ?hy13⟩) (by assumption) ?rest13
      case hy13 => (intro w hSw; (try dsimp only at hSw); go_simp; try with_reducible rfl)
      try simp only [Act.put, List.setIfInBounds_toArray, List.set_cons_zero, List.set_cons_succ]
      refine wpAnyH_take (i := 14) (oi := { dst := some 84, op := Op.load 4 (Operand.tmp 83), type := 4, pos := "keeps.go:226", after := #[{ on := 13, ground := Ground.data }], guard := none }) (v := ?v14) rfl (by kernel_rfl) (by kernel_rfl) (by kernel_rfl) (fun _ _ _ h => h) (Or.inl ⟨by rfl, ?hy14⟩) (by assumption) ?rest14
      case hy14 => (intro w hSw; (try dsimp only at hSw); go_simp; try with_reducible rfl)
      try simp only [Act.put, List.setIfInBounds_toArray, List.set_cons_zero, List.set_cons_succ]
      refine wpAnyH_ready (rs := [8]) (by kernel_rfl) (by simp) ?_
      refine AllReadyH.cons (o := { dst := some 78, op := Op.call { callee := Callee.value (Operand.func 61), args := #[Operand.tmp 7, Operand.tmp 77], argTypes := #[119, 3] }, type := 57, pos := "keeps.go:226", after := #[{ on := 7, ground := Ground.data }], guard := none }) rfl (fun K hK => ?_) AllReadyH.nil
      go_simp
      go_at_call_of 61 (Value.int IntKind.i64 a)
      refine HV1.out.mono ?_
      rintro e w99 ⟨rfl, hw99⟩
      rw [hw99]
      clear hw99
      go_wp2_with fail
      refine hK.out _ _ ?_ (fun hHeld => ?_)
      · exact ⟨c6', t2, t3, q0, q1, l1', l2', lg⟩
      clear hK K
      try simp only [Act.put, List.setIfInBounds_toArray, List.set_cons_zero, List.set_cons_succ]
      refine wpAnyH_ready (rs := [11]) (by kernel_rfl) (by simp) ?_
      refine AllReadyH.cons (o := { dst := some 81, op := Op.call { callee := Callee.value (Operand.func 61), args := #[Operand.tmp 7, Operand.tmp 80], argTypes := #[119, 3] }, type := 57, pos := "keeps.go:226", after := #[{ on := 10, ground := Ground.data }, { on := 8, ground := Ground.chain }], guard := none }) rfl (fun K hK => ?_) AllReadyH.nil
      go_simp
      go_at_call_of 61 (Value.int IntKind.i64 b)
      refine HV2.out.mono ?_
      rintro e w99 ⟨rfl, hw99⟩
      rw [hw99]
      clear hw99
      go_wp2_with fail
      refine hK.out _ _ ?_ (fun hHeld => ?_)
      · exact ⟨c6', t2, t3, q0, q1, l1', l2', lg⟩
      clear hK K
      try simp only [Act.put, List.setIfInBounds_toArray, List.set_cons_zero, List.set_cons_succ]
      refine wpAnyH_ready (rs := [12]) (by kernel_rfl) (by simp) ?_
      refine AllReadyH.cons (o := { dst := some 82, op := Op.buildSlice 25 2 #[(0, Operand.tmp 78), (1, Operand.tmp 81)], type := 25, pos := "keeps.go:226", after := #[{ on := 8, ground := Ground.data }, { on := 11, ground := Ground.data }], guard := none }) rfl (fun K hK => ?_) AllReadyH.nil
      go_simp
      refine hK.out _ _ ?_ (fun hHeld => ?_)
      · (refine HKq.out _ (HKy.out _ ?_) ; repeat (first | exact Below.refl _ _ | apply Below.drew | refine Below.alloc ?_ (Nat.le_refl _) _ | refine Below.alloc ?_ (by rw [World.size_alloc]; omega) _))
      clear hK K
      try simp only [Act.put, List.setIfInBounds_toArray, List.set_cons_zero, List.set_cons_succ]
      refine wpAnyH_take (i := 15) (oi := { dst := some 85, op := Op.build 61 #[(0, Operand.tmp 82), (1, Operand.tmp 84)], type := 61, pos := "keeps.go:226", after := #[{ on := 12, ground := Ground.data }, { on := 14, ground := Ground.data }], guard := none }) (v := ?v15) rfl (by kernel_rfl) (by kernel_rfl) (by kernel_rfl) (fun _ _ _ h => h) (Or.inl ⟨by rfl, ?hy15⟩) (by assumption) ?rest15
      case hy15 => (intro w hSw; (try dsimp only at hSw); go_simp; try with_reducible rfl)
      try simp only [Act.put, List.setIfInBounds_toArray, List.set_cons_zero, List.set_cons_succ]
      refine wpAnyH_ready (rs := [16]) (by kernel_rfl) (by simp) ?_
      refine AllReadyH.cons (o := { dst := some 86, op := Op.buildSlice 26 1 #[(0, Operand.tmp 85)], type := 26, pos := "keeps.go:226", after := #[{ on := 15, ground := Ground.data }], guard := none }) rfl (fun K hK => ?_) AllReadyH.nil
      go_simp
      refine hK.out _ _ ?_ (fun hHeld => ?_)
      · (refine HKq.out _ (HKy.out _ ?_) ; repeat (first | exact Below.refl _ _ | apply Below.drew | refine Below.alloc ?_ (Nat.le_refl _) _ | refine Below.alloc ?_ (by rw [World.size_alloc]; omega) _))
      clear hK K
      try simp only [Act.put, List.setIfInBounds_toArray, List.set_cons_zero, List.set_cons_succ]
      refine wpAnyH_ready (rs := [17]) (by kernel_rfl) (by simp) ?_
      refine AllReadyH.cons (o := { dst := some 87, op := Op.call { callee := Callee.builtin Builtin.append, args := #[Operand.tmp 75, Operand.tmp 86], argTypes := #[26, 26] }, type := 26, pos := "keeps.go:226", after := #[{ on := 5, ground := Ground.data }, { on := 16, ground := Ground.data }, { on := 11, ground := Ground.chain }], guard := none }) rfl (fun K hK => ?_) AllReadyH.nil
      refine step_append_lies _ rfl _ _ 26 rfl w0.heap.size 61 i2 _ 3 32 Tryd.underlying26 hi2 hx0 hx1 hx2 rfl (by decide) (.slice (some ⟨gl, 0, none⟩) L.length p.lc) L.length (lq3 L) rfl HL4.out ⟨_, 0, none⟩ 1 1 [.slice (some ⟨wc.heap.size, 0, none⟩) 2 2, .bool q.x.sc, .bool false] rfl rfl HNw.out (by intro u hu; simp at hu; rcases hu with rfl | rfl | rfl <;> rfl) (by omega) (by unfold maxLen; omega) (by omega) HSz.out _ rfl ?_
      intro gn cn w4 hown4 hgr4 hbl4 hlt4
      obtain ⟨f4, z4, l4⟩ := HF4.out w4 hgr4
      refine hK.out _ _ ?_ (fun hHeld => ?_)
      · (have h6 := HKp.out _ (HK4.out w4 hgr4); exact ⟨f4, h6.1, h6.2.1, h6.2.2.1, h6.2.2.2.1, l4, h6.2.2.2.2⟩)
      clear hK K
      try simp only [Act.put, List.setIfInBounds_toArray, List.set_cons_zero, List.set_cons_succ]
      refine wpAnyH_take (i := 18) (oi := { dst := some 88, op := Op.nilCheck (Operand.tmp 70), type := 0, pos := "keeps.go:226", after := #[{ on := 0, ground := Ground.data }, { on := 0, ground := Ground.phase }, { on := 1, ground := Ground.phase }, { on := 2, ground := Ground.phase }, { on := 3, ground := Ground.phase }, { on := 4, ground := Ground.phase }, { on := 5, ground := Ground.phase }, { on := 6, ground := Ground.phase }, { on := 7, ground := Ground.phase }, { on := 8, ground := Ground.phase }, { on := 9, ground := Ground.phase }, { on := 10, ground := Ground.phase }, { on := 11, ground := Ground.phase }, { on := 12, ground := Ground.phase }, { on := 13, ground := Ground.phase }, { on := 14, ground := Ground.phase }, { on := 15, ground := Ground.phase }, { on := 16, ground := Ground.phase }, { on := 17, ground := Ground.phase }], guard := none }) (v := ?v18) rfl (by kernel_rfl) (by kernel_rfl) (by kernel_rfl) (fun _ _ _ h => h) (Or.inl ⟨by rfl, ?hy18⟩) (by assumption) ?rest18
      case hy18 => (intro w hSw; (try dsimp only at hSw); go_simp; try with_reducible rfl)
      try simp only [Act.put, List.setIfInBounds_toArray, List.set_cons_zero, List.set_cons_succ]
      refine wpAnyH_take (i := 19) (oi := { dst := some 89, op := Op.fieldAddr 69 (Operand.tmp 88) 0, type := 0, pos := "keeps.go:226", after := #[{ on := 18, ground := Ground.data }, { on := 0, ground := Ground.phase }, { on := 1, ground := Ground.phase }, { on := 2, ground := Ground.phase }, { on := 3, ground := Ground.phase }, { on := 4, ground := Ground.phase }, { on := 5, ground := Ground.phase }, { on := 6, ground := Ground.phase }, { on := 7, ground := Ground.phase }, { on := 8, ground := Ground.phase }, { on := 9, ground := Ground.phase }, { on := 10, ground := Ground.phase }, { on := 11, ground := Ground.phase }, { on := 12, ground := Ground.phase }, { on := 13, ground := Ground.phase }, { on := 14, ground := Ground.phase }, { on := 15, ground := Ground.phase }, { on := 16, ground := Ground.phase }, { on := 17, ground := Ground.phase }], guard := none }) (v := ?v19) rfl (by kernel_rfl) (by kernel_rfl) (by kernel_rfl) (fun _ _ _ h => h) (Or.inl ⟨by rfl, ?hy19⟩) (by assumption) ?rest19
      case hy19 => (intro w hSw; (try dsimp only at hSw); go_simp; try with_reducible rfl)
      try simp only [Act.put, List.setIfInBounds_toArray, List.set_cons_zero, List.set_cons_succ]
      refine wpAnyH_take (i := 20) (oi := { dst := some 90, op := Op.fieldAddr 28 (Operand.tmp 89) 6, type := 0, pos := "keeps.go:226", after := #[{ on := 19, ground := Ground.data }, { on := 0, ground := Ground.phase }, { on := 1, ground := Ground.phase }, { on := 2, ground := Ground.phase }, { on := 3, ground := Ground.phase }, { on := 4, ground := Ground.phase }, { on := 5, ground := Ground.phase }, { on := 6, ground := Ground.phase }, { on := 7, ground := Ground.phase }, { on := 8, ground := Ground.phase }, { on := 9, ground := Ground.phase }, { on := 10, ground := Ground.phase }, { on := 11, ground := Ground.phase }, { on := 12, ground := Ground.phase }, { on := 13, ground := Ground.phase }, { on := 14, ground := Ground.phase }, { on := 15, ground := Ground.phase }, { on := 16, ground := Ground.phase }, { on := 17, ground := Ground.phase }], guard := none }) (v := ?v20) rfl (by kernel_rfl) (by kernel_rfl) (by kernel_rfl) (fun _ _ _ h => h) (Or.inl ⟨by rfl, ?hy20⟩) (by assumption) ?rest20
      case hy20 => (intro w hSw; (try dsimp only at hSw); go_simp; try with_reducible rfl)
      try simp only [Act.put, List.setIfInBounds_toArray, List.set_cons_zero, List.set_cons_succ]
      refine wpAnyH_done (by kernel_rfl) ?_ _
      refine thenQ_normal ?_
      refine wpOp_step (o := { dst := none, op := Op.store 26 (Operand.tmp 90) (Operand.tmp 87), type := 0, pos := "keeps.go:226", after := #[{ on := 20, ground := Ground.data }, { on := 17, ground := Ground.data }, { on := 17, ground := Ground.chain }, { on := 0, ground := Ground.phase }, { on := 1, ground := Ground.phase }, { on := 2, ground := Ground.phase }, { on := 3, ground := Ground.phase }, { on := 4, ground := Ground.phase }, { on := 5, ground := Ground.phase }, { on := 6, ground := Ground.phase }, { on := 7, ground := Ground.phase }, { on := 8, ground := Ground.phase }, { on := 9, ground := Ground.phase }, { on := 10, ground := Ground.phase }, { on := 11, ground := Ground.phase }, { on := 12, ground := Ground.phase }, { on := 13, ground := Ground.phase }, { on := 14, ground := Ground.phase }, { on := 15, ground := Ground.phase }, { on := 16, ground := Ground.phase }, { on := 17, ground := Ground.phase }], guard := none }) rfl (fun K hK => ?_)
      have hK' : Shut _ := hK
      clear hK
      clear hHeld
      go_simp
      refine hK'.out _ _ ?_
      clear hK' K HKq HKy
      try simp only [Act.put, List.setIfInBounds_toArray, List.set_cons_zero, List.set_cons_succ]
      all_goals
        have HX6 : Hid _ := HX5.out gn cn w4 hgr4 hown4
        clear f4 z4 l4 hgr4 hown4 hbl4 hlt4 HX5 HK4 HK5 HF4 HKz HKp HV1 HV2 HNw HL4 HOA HX4 HSz t2 t3 q0 q1 c6'
        have HT6 : Hid (Tab (w4.setCell ⟨wb, 6, none⟩ (.slice (some ⟨gn, 0, none⟩) (L.length + 1) cn))) := tab_kx HT3.out HTl.out HX3.out.bel HX6.out
        generalize w4.setCell ⟨wb, 6, none⟩ (.slice (some ⟨gn, 0, none⟩) (L.length + 1) cn) = W5 at HX6 HT6 ⊢
        have m1 : Mv v ⟨v.h, v.ph, v.sw, v.grey, v.gl, v.laid, v.lanes ++ [⟨[na, nb], q.x.sc, false⟩]⟩ := .spawn i q.x na nb HG.out.2.2 HRa.out.2 HRb.out.2 (by rw [HLn.out]; exact h8)
        have HM : Hid (Mvs v ⟨v.h, v.ph, v.sw, v.grey, v.gl, v.laid, v.lanes ++ [⟨[na, nb], q.x.sc, false⟩]⟩) := .inr (.inl m1)
        clear m1
        have g0 : W5.cell? ⟨wb, 0, none⟩ = some (.slice p.cr v.h.length p.cc) := heap_cell HX6.out.b rfl
        have g1 : W5.cell? ⟨wb, 1, none⟩ = some (.int .u8 v.ph) := heap_cell HX6.out.b rfl
        have g2 : W5.cell? ⟨wb, 2, none⟩ = some (.int .i64 v.sw) := heap_cell HX6.out.b rfl
        have g3 : W5.cell? ⟨wb, 3, none⟩ = some (.slice p.yr v.grey.length p.yc) := heap_cell HX6.out.b rfl
        have g4 : W5.cell? ⟨wb, 4, none⟩ = some (.slice p.gr v.gl.length p.gc) := heap_cell HX6.out.b rfl
        have g5 : W5.cell? ⟨wb, 5, none⟩ = some (.int .i64 v.laid) := heap_cell HX6.out.b rfl
        have g6 : W5.cell? ⟨wb, 6, none⟩ = some (.slice (some ⟨gn, 0, none⟩) (v.lanes ++ [(⟨[na, nb], q.x.sc, false⟩ : Ln)]).length cn) := heap_cell HX6.out.b rfl
        have gwl := heap_lt HX6.out.b
        generalize hvl : (v.lanes ++ [(⟨[na, nb], q.x.sc, false⟩ : Ln)]).length = vl at g6
        have HHo : Hid (Calls Tryd.prog 12 #[.agg #[.slice p.cr v.h.length p.cc, .int .u8 v.ph, .int .i64 v.sw, .slice p.yr v.grey.length p.yc, .slice p.gr v.gl.length p.gc, .int .i64 v.laid, .slice (some ⟨gn, 0, none⟩) vl cn]] W5 fun e w' => e = .returned (.tuple #[.bool true, .int .i64 0, .int .i64 0]) ∧ Below W5.heap.size W5 w') := holds_laid (p := p) (v := v) HX6.out HT6.out (HG.out.1.mvs HM.out) (HG.out.2.1.mvs hN.1 HM.out) hN.2 (some ⟨gn, 0, none⟩) cn rfl rfl hvl
        have HFn : Hid (∀ w2 : World, Below W5.heap.size W5 w2 → Steps w0 wb (fun v' _ => Mvs v v') (.returned (.bool true)) w2) := fun w2 hb2 => ⟨rfl, _, _, _, HX6.out.below hb2, HM.out⟩
        clear HX6 HT6 HM HG HX3 HT3 HB3 HGg HRa HRb HLn hvl HGb HQ HTl
        go_wp2_with fail
        refine Calls.mono HHo.out ?_
        rintro e w2 ⟨rfl, hb2⟩
        have HF : Hid (Steps w0 wb (fun v' _ => Mvs v v') (.returned (.bool true)) w2) := HFn.out w2 hb2
        clear hb2 g0 g1 g2 g3 g4 g5 g6 gwl HFn HHo
        go_wp2
        go_ret
        exact HF.out
    · have k8 : ¬ (L.length : Int) < 8 := by omega
      have g0 : wc.cell? ⟨wb, 0, none⟩ = some (.slice p.cr v.h.length p.cc) := heap_cell HX3.out.b rfl
      have g1 : wc.cell? ⟨wb, 1, none⟩ = some (.int .u8 v.ph) := heap_cell HX3.out.b rfl
      have g2 : wc.cell? ⟨wb, 2, none⟩ = some (.int .i64 v.sw) := heap_cell HX3.out.b rfl
      have g3 : wc.cell? ⟨wb, 3, none⟩ = some (.slice p.yr v.grey.length p.yc) := heap_cell HX3.out.b rfl
      have g4 : wc.cell? ⟨wb, 4, none⟩ = some (.slice p.gr v.gl.length p.gc) := heap_cell HX3.out.b rfl
      have g5 : wc.cell? ⟨wb, 5, none⟩ = some (.int .i64 v.laid) := heap_cell HX3.out.b rfl
      have g6 : wc.cell? ⟨wb, 6, none⟩ = some (.slice p.lr v.lanes.length p.lc) := heap_cell HX3.out.b rfl
      clear HVa HVb c6' t2 t3 q0 q1
      go_wp2_with fail
      refine Calls.mono (holds_kx HX3.out HT3.out HG.out.1 HG.out.2.1 (by omega)) ?_
      rintro e w2 ⟨rfl, hb2⟩
      have HF : Hid (Steps w0 wb (fun v' _ => Mvs v v') (.returned (.bool true)) w2) := ⟨rfl, p, v, L, HX3.out.below hb2, .inl rfl⟩
      clear hb2 g0 g1 g2 g3 g4 g5 g6
      go_wp2
      go_ret
      exact HF.out
end Go.Proofs.YtomdbcddokaagaaDoor
