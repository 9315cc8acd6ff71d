/- A world of one's own: a lane takes the word of one that has ended. -/
import Derived.Test.YtomdbcddokaagaaDoorGQ
import Derived.Test.YtomdbcddokaagaaDoorGR
namespace Go.Proofs.YtomdbcddokaagaaDoor
open Go.RowKit

/-- What KJoin leaves. -/
def JoinR (w0 : Wz) (wb : Nat) (p : Vp) (v : Vw) (L : List Lq) (i : Nat) (q : Lq) (e : Ending) (w' : World) : Prop :=
  e = .returned (.bool true) ∧ (KX w0 w' wb p v L ∨ ∃ (o : Lq) (x : Int), o ∈ L ∧ o.x.en = true ∧ x ∈ o.x.roots ∧ Took w0 wb p v L i q x w')
/-- A lane that was copied into a block. -/
theorem keep_lane {w w' : World} {g : Nat} {cs : Array Value} (h : w.heap[g]? = some (.cells cs 61 (0, 0))) (hb : Below w.heap.size w w') : w'.heap[g]? = some (.cells cs 61 (0, 0)) := (hb.block g (heap_lt h)).trans h
theorem takes_kg (w0 : Wz) (w : World) (wb gl i : Nat) (p : Vp) (v : Vw) (L : List Lq) (q : Lq) (x : Int) (hX : KX w0 w wb p v L) (hq : L[i]? = some q) (hpl : p.lr = some ⟨gl, 0, none⟩) (hx : Rng x) :
    Calls Tryd.prog 82 #[.pointer (some ⟨gl, i * 3, none⟩), .int .u64 x] w fun e w' => (∃ u, e = .returned u) ∧ Took w0 wb p v L i q x w' ∧ ∀ (k : Nat) (cs : Array Value) (t : TypeId), w.heap[k]? = some (.cells cs t (0, 0)) → t ≠ 57 → k ≠ gl → w'.heap[k]? = w.heap[k]? := by
  have o := hX.l
  rw [hpl] at o
  obtain ⟨g0, _, _⟩ := lq3_at L i q hq
  obtain ⟨cs, h1, _⟩ := own_out o
  have hc : cs[i * 3]? = some (.slice q.ra q.x.roots.length q.cc) := by
    have h := own_cell o g0
    unfold World.cell? at h
    rw [h1] at h
    simpa using h
  refine (takes_any w0.heap.size gl (i * 3) q.x.roots q.ra q.cc x cs w hX.bel.size h1 hc (hX.q q (List.mem_of_getElem? hq))).mono ?_
  rintro e w' ⟨h2, h3⟩
  refine ⟨h2, ?_, ?_⟩
  · by_cases h40 : q.x.roots.length < 40
    · exact .inr (hX.takes hpl hq hx h40 h3)
    · rcases h3 with ⟨_, rfl⟩ | ⟨h, _⟩
      · exact .inl hX
      · exact absurd h h40
  · rcases h3 with ⟨_, rfl⟩ | ⟨_, rr, cc, w1, _, hgr, _, rfl⟩
    · exact fun _ _ _ _ _ _ => rfl
    · have hw := hX.q q (List.mem_of_getElem? hq)
      intro k ds t hk ht hkg
      have hlt := heap_lt hk
      have hk2 : (w.alloc (.cells #[.int .u64 x] 57)).heap[k]? = some (.cells ds t (0, 0)) := (Below.heap_alloc _ _ _ hlt).trans hk
      exact (Below.heap_setCell _ _ _ _ hkg).trans ((hgr.block k (heap_lt hk2) (fun e => own_ty (hw.alloc _) hk2 ht e.symm)).trans (Below.heap_alloc _ _ _ hlt))
set_option maxRecDepth 100000 in
set_option maxHeartbeats 16000000 in
theorem lane_join (w0 : Wz) (w : World) (wb gl i : Nat) (p : Vp) (v : Vw) (L : List Lq) (q : Lq) (who a b d : Int) (hX : KX w0 w wb p v L) (hq : L[i]? = some q) (hpl : p.lr = some ⟨gl, 0, none⟩) (hen : q.x.en = false) (hL : L.length ≤ 8) (hr : ∀ o ∈ L, o.x.roots.length ≤ 2000) (ha : -9223372036854775808 ≤ a ∧ a ≤ 9223372036854775807) (hb : -9223372036854775808 ≤ b ∧ b ≤ 9223372036854775807) :
    Calls Tryd.prog 62 #[.pointer (some ⟨wb, 0, none⟩), .agg #[.int .i64 9, .int .i64 who, .int .i64 a, .int .i64 b, .int .i64 d], .pointer (some ⟨gl, i * 3, none⟩)] w fun e w' => JoinR w0 wb p v L i q e w' := by
  have hB0 := (Below.refl w.heap.size w).alloc (Nat.le_refl _) (.cells #[.int .i64 9, .int .i64 who, .int .i64 a, .int .i64 b, .int .i64 d] 72)
  have HX : Hid (KX w0 (w.alloc (.cells #[.int .i64 9, .int .i64 who, .int .i64 a, .int .i64 b, .int .i64 d] 72)) wb p v L) := hX.below hB0
  have HB : Hid ((w.alloc (.cells #[.int .i64 9, .int .i64 who, .int .i64 a, .int .i64 b, .int .i64 d] 72)).heap[w.heap.size]? = some (.cells #[.int .i64 9, .int .i64 who, .int .i64 a, .int .i64 b, .int .i64 d] 72 (0, 0))) := heap_alloc_new w _
  have HQ : Hid (L[i]? = some q ∧ p.lr = some ⟨gl, 0, none⟩) := ⟨hq, hpl⟩
  have hmx : Tryd.prog.follows .mixedOrders = true := by kernel_rfl
  have hiL := (List.getElem?_eq_some_iff.1 hq).1
  have hlen : v.lanes.length = L.length := by rw [← hX.e, List.length_map]
  have hL0 : 0 < L.length := by omega
  have hj := pick_lt (c := a) hL0
  have HPk : Hid (∀ W, Calls Tryd.prog 60 #[.int .i64 a, .int .i64 L.length] W fun e w' => e = .returned (.int .i64 (pickN a L.length)) ∧ w' = W) := fun W => pick_any a L.length W ha hL0 (by omega)
  generalize pickN a L.length = j at hj HPk
  obtain ⟨o, ho⟩ : ∃ o, L[j]? = some o := ⟨_, List.getElem?_eq_getElem hj⟩
  have HTk : Hid (∀ (W : World) (x : Int), KX w0 W wb p v L → Rng x → Calls Tryd.prog 82 #[.pointer (some ⟨gl, i * 3, none⟩), .int .u64 x] W fun e w' => (∃ u, e = .returned u) ∧ Took w0 wb p v L i q x w' ∧ Ks W w') := fun W x X hx => takes_ks w0 W wb gl i p v L q x X hq hpl hx
  have hro := hr o (List.mem_of_getElem? ho)
  have HO : Hid (L[j]? = some o) := ho
  clear hX hB0 hq hpl hr ho
  go_enter Tryd.func62, Tryd.ntmps62
  go_upto_region 32 with fail
  generalize w.alloc (.cells #[.int .i64 9, .int .i64 who, .int .i64 a, .int .i64 b, .int .i64 d] 72) = W at HX HB ⊢
  generalize w.heap.size = sb at HB ⊢
  have s2 : W.cell? ⟨sb, 2, none⟩ = some (.int .i64 a) := heap_cell HB.out rfl
  have lsb := heap_lt HB.out
  have f6 : W.cell? ⟨wb, 6, none⟩ = some (.slice (some ⟨gl, 0, none⟩) L.length p.lc) := by
    have h : W.cell? ⟨wb, 6, none⟩ = some (.slice p.lr v.lanes.length p.lc) := heap_cell HX.out.b rfl
    rw [HQ.out.2, hlen] at h
    exact h
  have lwb := heap_lt HX.out.b
  have ol := HX.out.l
  rw [HQ.out.2] at ol
  obtain ⟨m0, m1, m2⟩ := lq3_at L j o HO.out
  have r0 : W.cell? ⟨gl, j * 3, none⟩ = some (.slice o.ra o.x.roots.length o.cc) := own_cell ol m0
  have r1 : W.cell? ⟨gl, j * 3 + 1, none⟩ = some (.bool o.x.sc) := own_cell ol m1
  have r2 : W.cell? ⟨gl, j * 3 + 1 + 1, none⟩ = some (.bool o.x.en) := own_cell ol m2
  have lgl := (ol.lt gl rfl).2
  have kj0 : (0 : Int) ≤ (j : Int) := by omega
  have kj1 : (j : Int) < (L.length : Int) := by omega
  have HLg : Hid (gl < W.heap.size) := lgl
  have HSg : Hid (sb ≠ gl) := fun e => own_ty ol HB.out (by decide) (by rw [e]; rfl)
  clear ol m0 m1 m2 hlen
  have HKb : Hid (∀ w' : World, Below W.heap.size W w' → w'.cell? ⟨wb, 6, none⟩ = some (.slice (some ⟨gl, 0, none⟩) L.length p.lc) ∧ w'.cell? ⟨sb, 2, none⟩ = some (.int .i64 a) ∧ w'.cell? ⟨gl, j * 3, none⟩ = some (.slice o.ra o.x.roots.length o.cc) ∧ w'.cell? ⟨gl, j * 3 + 1, none⟩ = some (.bool o.x.sc) ∧ w'.cell? ⟨gl, j * 3 + 1 + 1, none⟩ = some (.bool o.x.en) ∧ wb < w'.heap.size ∧ sb < w'.heap.size ∧ gl < w'.heap.size) := fun w' hbb => by
    have cc : ∀ {g o : Nat} {u : Value}, g < W.heap.size → W.cell? ⟨g, o, none⟩ = some u → w'.cell? ⟨g, o, none⟩ = some u := fun {g o u} hg h => (World.cell?_of_block (a := ⟨g, o, none⟩) (hbb.block g hg)).trans h
    have hz := hbb.size
    exact ⟨cc lwb f6, cc lsb s2, cc lgl r0, cc lgl r1, cc lgl r2, by omega, by omega, by omega⟩
  go_cut [14] from 204 (fun v14 wx => ∃ g : Nat, v14 = .pointer (some ⟨g, 0, none⟩) ∧ Hid (Below W.heap.size W wx ∧ wx.heap[g]? = some (.cells #[.slice o.ra o.x.roots.length o.cc, .bool o.x.sc, .bool o.x.en] 61 (0, 0)) ∧ W.heap.size ≤ g))
  case first =>
    go_region_held3 (fun w' : World => w'.cell? ⟨wb, 6, none⟩ = some (.slice (some ⟨gl, 0, none⟩) L.length p.lc) ∧ w'.cell? ⟨sb, 2, none⟩ = some (.int .i64 a) ∧ w'.cell? ⟨gl, j * 3, none⟩ = some (.slice o.ra o.x.roots.length o.cc) ∧ w'.cell? ⟨gl, j * 3 + 1, none⟩ = some (.bool o.x.sc) ∧ w'.cell? ⟨gl, j * 3 + 1 + 1, none⟩ = some (.bool o.x.en) ∧ wb < w'.heap.size ∧ sb < w'.heap.size ∧ gl < w'.heap.size) (first | exact ⟨f6, s2, r0, r1, r2, lwb, lsb, lgl⟩ | (refine HKb.out _ ?_; repeat (first | exact Below.refl _ _ | apply Below.drew | refine Below.setCell ?_ (Nat.le_refl _) _ | refine Below.alloc ?_ (Nat.le_refl _) _)) | (go_keep; done)) (first | (go_at_call 60; refine (HPk.out _).mono ?_; rintro e w99 ⟨rfl, hw99⟩; rw [hw99]; clear hw99) | fail)
    all_goals
      go_wp2
      go_meet
      exact ⟨W.heap.size, rfl, ((Below.refl _ _).alloc (Nat.le_refl _) _).drew, heap_alloc_new W _, Nat.le_refl _⟩
  case rest =>
    obtain ⟨g, rfl, HG⟩ := hcut
    have HX1 : Hid (KX w0 wc wb p v L) := HX.out.below HG.out.1
    have hb1 : wc.heap[sb]? = some (.cells #[.int .i64 9, .int .i64 who, .int .i64 a, .int .i64 b, .int .i64 d] 72 (0, 0)) := (HG.out.1.block sb lsb).trans HB.out
    have HB1 : Hid _ := hb1
    have c0 : wc.cell? ⟨g, 0, none⟩ = some (.slice o.ra o.x.roots.length o.cc) := heap_cell HG.out.2.1 rfl
    have c2 : wc.cell? ⟨g, 2, none⟩ = some (.bool o.x.en) := heap_cell HG.out.2.1 rfl
    have lg := heap_lt HG.out.2.1
    have s3 : wc.cell? ⟨sb, 3, none⟩ = some (.int .i64 b) := heap_cell hb1 rfl
    have lsb' := heap_lt hb1
    clear HKb HX HB f6 s2 r0 r1 r2 lwb lsb lgl HPk hb1
    cases he : o.x.en with
    | false =>
      rw [he] at c2
      clear HTk
      go_wp2
      go_ret
      exact ⟨rfl, .inl HX1.out⟩
    | true =>
      rw [he] at c2
      by_cases hlt : 0 < o.x.roots.length
      · have kg : (0 : Int) < (o.x.roots.length : Int) := by omega
        have hk := pick_lt (c := b) hlt
        have HPk : Hid (∀ W, Calls Tryd.prog 60 #[.int .i64 b, .int .i64 o.x.roots.length] W fun e w' => e = .returned (.int .i64 (pickN b o.x.roots.length)) ∧ w' = W) := fun W => pick_any b o.x.roots.length W hb hlt (by omega)
        generalize pickN b o.x.roots.length = k at hk HPk
        have kk0 : (0 : Int) ≤ (k : Int) := by omega
        have kk1 : (k : Int) < (o.x.roots.length : Int) := by omega
        obtain ⟨x, hx⟩ : ∃ x, o.x.roots[k]? = some x := ⟨_, List.getElem?_eq_getElem hk⟩
        have hom := List.mem_of_getElem? HO.out
        obtain ⟨gq, cq, hvq, hgq0, lgq⟩ := World.ownsRow.form (HX1.out.q o hom) hlt
        have hpq : o.ra = some ⟨gq, 0, none⟩ := (Value.slice.inj hvq).1
        have oq := HX1.out.q o hom
        rw [hpq] at oq c0
        have r0 : wc.cell? ⟨gq, k, none⟩ = some (.int .u64 x) := own_cell oq (by rw [List.getElem?_map, hx]; rfl)
        have HMx : Hid (x ∈ o.x.roots ∧ o ∈ L) := ⟨List.mem_of_getElem? hx, hom⟩
        have HTx : Hid (Calls Tryd.prog 82 #[.pointer (some ⟨gl, i * 3, none⟩), .int .u64 x] wc.drew fun e w' => (∃ u, e = .returned u) ∧ Took w0 wb p v L i q x w' ∧ ∀ (k : Nat) (cs : Array Value) (t : TypeId), wc.drew.heap[k]? = some (.cells cs t (0, 0)) → t ≠ 57 → k ≠ gl → w'.heap[k]? = wc.drew.heap[k]?) := takes_kg w0 wc.drew wb gl i p v L q x (HX1.out.below (Below.refl _ _).drew) HQ.out.1 HQ.out.2 (HX1.out.rl o hom x (List.mem_of_getElem? hx))
        have hji : j ≠ i := fun e => by
          have h1 := HO.out
          rw [e, HQ.out.1] at h1
          cases h1
          rw [hen] at he
          cases he
        have HKp : Hid (∀ w' : World, Took w0 wb p v L i q x w' → (∀ (k : Nat) (cs : Array Value) (t : TypeId), wc.drew.heap[k]? = some (.cells cs t (0, 0)) → t ≠ 57 → k ≠ gl → w'.heap[k]? = wc.drew.heap[k]?) → w'.cell? ⟨g, 0, none⟩ = some (.slice (some ⟨gq, 0, none⟩) o.x.roots.length o.cc) ∧ w'.cell? ⟨sb, 3, none⟩ = some (.int .i64 b) ∧ w'.cell? ⟨gq, k, none⟩ = some (.int .u64 x) ∧ g < w'.heap.size ∧ sb < w'.heap.size ∧ gq < w'.heap.size) := fun w' ht hk9 => by
          have hgl : gl < W.heap.size := HLg.out
          have ob := (hk9 g _ _ HG.out.2.1 (by decide) (by have := HG.out.2.2; omega)).trans HG.out.2.1
          have osb : w'.heap[sb]? = _ := (hk9 sb _ _ HB1.out (by decide) HSg.out).trans HB1.out
          have row : ∀ (p' : Vp) (v' : Vw) (L' : List Lq), KX w0 w' wb p' v' L' → o ∈ L' → w'.cell? ⟨gq, k, none⟩ = some (.int .u64 x) ∧ gq < w'.heap.size := fun p' v' L' X hm => by
            have h := X.q o hm
            rw [hpq] at h
            exact ⟨own_cell h (by rw [List.getElem?_map, hx]; rfl), (h.lt gq rfl).2⟩
          have r5 : w'.cell? ⟨gq, k, none⟩ = some (.int .u64 x) ∧ gq < w'.heap.size := by
            rcases ht with X | ⟨rr, cc, X⟩
            · exact row _ _ _ X hom
            · exact row _ _ _ X (List.mem_of_getElem? (by rw [List.getElem?_set_ne (fun e => hji e.symm)]; exact HO.out))
          refine ⟨?_, heap_cell osb rfl, r5.1, heap_lt ob, heap_lt osb, r5.2⟩
          have := heap_cell (j := 0) ob rfl
          rw [hpq] at this
          exact this
        clear hvq hpq oq hx hom HTk ha hb hlt
        go_upto_region 34 with fail
        go_region_held3 (fun w' : World => w'.cell? ⟨g, 0, none⟩ = some (.slice (some ⟨gq, 0, none⟩) o.x.roots.length o.cc) ∧ w'.cell? ⟨sb, 3, none⟩ = some (.int .i64 b) ∧ w'.cell? ⟨gq, k, none⟩ = some (.int .u64 x) ∧ g < w'.heap.size ∧ sb < w'.heap.size ∧ gq < w'.heap.size) (first | exact ⟨c0, s3, r0, lg, lsb', lgq⟩ | (go_keep; done) | exact HKp.out _ h5 h6) (first | (go_at_call 60; refine (HPk.out _).mono ?_; rintro e w99 ⟨rfl, hw99⟩; rw [hw99]; clear hw99) | (go_at_call 82; refine HTx.out.mono ?_; rintro e w5 ⟨⟨u, rfl⟩, h5, h6⟩) | fail)
        have HF : Hid (JoinR w0 wb p v L i q (.returned (.bool true)) w5) := ⟨rfl, .inr ⟨o, x, HMx.out.2, he, HMx.out.1, h5⟩⟩
        clear h5 h6 HTx HPk HKp
        go_wp2
        go_ret
        exact HF.out
      · have kg : ¬ (0 : Int) < (o.x.roots.length : Int) := by omega
        clear HTk
        go_wp2
        go_ret
        exact ⟨rfl, .inl HX1.out⟩
end Go.Proofs.YtomdbcddokaagaaDoor
