/- A range over the holders of a view: the law for its callers.; Are all that holders hold words that fit?; What named needs: a row of truths, made within a fenced walk; who is named so far. -/
import Derived.Test.YtomdbcddokaagaaDoorHBHold
import Derived.OwnWalk
/- A range over the holders of a view: the law for its callers. -/
namespace Go.Proofs.YtomdbcddokaagaaDoor
open Go.RowKit Go.Shelf

/-- Nothing that lies below N turns, and no row of cells does. -/
def Kc (N : Nat) (W W' : World) : Prop := Below N W W' ∧ ∀ (k : Nat) (cs : Array Value) (t : TypeId) (f : Nat × Nat), W.heap[k]? = some (.cells cs t f) → W'.heap[k]? = some (.cells cs t f)
theorem kc_below {N : Nat} {W W' : World} (hN : N ≤ W.heap.size) (h : Below W.heap.size W W') : Kc N W W' :=
  ⟨h.mono hN, fun k _ _ _ hk => (h.block k (Array.getElem?_eq_some_iff.1 hk).1).trans hk⟩
theorem kc_put {N l : Nat} {W : World} {o o' : Obj} (hN : N ≤ l) (hl : W.heap[l]? = some o) (ho : o.isCells = false) : Kc N W (W.putObj l o') := by
  have hlt := (Array.getElem?_eq_some_iff.1 hl).1
  refine ⟨(Below.refl N W).grown (grownBy_putObj' W l o') (by omega) (fun k e => by cases e; omega), fun k cs t f hk => ?_⟩
  rw [World.putObj_heap_other (by rintro rfl; rw [hl] at hk; cases hk; cases ho)]
  exact hk
theorem kc_t {N : Nat} {A B C : World} (h : Kc N A B) (k : Kc N B C) : Kc N A C := ⟨h.1.trans k.1, fun j cs t f hj => k.2 j cs t f (h.2 j cs t f hj)⟩
/-- What is no row of cells stays. -/
def Nk (W W' : World) : Prop := ∀ (k : Nat) (o : Obj), o.isCells = false → W.heap[k]? = some o → W'.heap[k]? = some o
theorem nk_below {W W' : World} (h : Below W.heap.size W W') : Nk W W' := fun k _ _ hk => (h.block k (Array.getElem?_eq_some_iff.1 hk).1).trans hk
theorem nk_t {A B C : World} (h : Nk A B) (k : Nk B C) : Nk A C := fun j o ho hj => k j o ho (h j o ho hj)
theorem cell_kc {N : Nat} {W W' : World} (h : Kc N W W') {b o : Nat} {x : Value} (hc : W.cell? ⟨b, o, none⟩ = some x) : b < W'.heap.size ∧ W'.cell? ⟨b, o, none⟩ = some x := by
  unfold World.cell? at hc ⊢
  cases hb : W.heap[b]? with
  | none => simp [hb] at hc
  | some ob =>
    cases ob with
    | cells cs t f =>
      have := h.2 _ _ _ _ hb
      refine ⟨(Array.getElem?_eq_some_iff.1 this).1, ?_⟩
      simp only [hb] at hc
      simp only [this]
      exact hc
    | _ => simp [hb] at hc
theorem WR.kc {N : Nat} {W W' : World} {ra : Option Addr} {l : List Int} (h : WR W ra l) (hk : Kc N W W') : WR W' ra l := by
  obtain ⟨b, o, h1, h2⟩ := h
  exact ⟨b, o, h1, fun j x hx => ⟨(cell_kc hk (h2 j x hx).2.1).1, (cell_kc hk (h2 j x hx).2.1).2, (h2 j x hx).2.2⟩⟩
theorem HR.kc {N : Nat} {W W' : World} {ra : Option Addr} {l : List Cl} (h : HR W ra l) (hk : Kc N W W') : HR W' ra l := by
  obtain ⟨b, o, h1, h2⟩ := h
  refine ⟨b, o, h1, fun j x hx => ?_⟩
  obtain ⟨g, ⟨a0, a1, a2, a3⟩, k⟩ := h2 j x hx
  exact ⟨(cell_kc hk a0).1, ⟨(cell_kc hk a0).2, (cell_kc hk a1).2, (cell_kc hk a2).2, (cell_kc hk a3).2⟩, k⟩
theorem LR.kc {N : Nat} {W W' : World} {ra : Option Addr} {l : List Ln} (h : LR W ra l) (hk : Kc N W W') : LR W' ra l := by
  obtain ⟨b, o, h1, h2⟩ := h
  refine ⟨b, o, h1, fun j x hx => ?_⟩
  obtain ⟨g, ⟨rr, cc, a0, a1, a2⟩, a3, a4⟩ := h2 j x hx
  exact ⟨(cell_kc hk a0).1, ⟨rr, cc, (cell_kc hk a0).2, a1.kc hk, a2⟩, (cell_kc hk a3).2, (cell_kc hk a4).2⟩
theorem RX.kc {N : Nat} {W W' : World} {ra : Option Addr} {l : List Int} (h : RX (Value.int .i64) W ra l) (hk : Kc N W W') : RX (Value.int .i64) W' ra l := by
  obtain ⟨b, o, h1, h2⟩ := h
  exact ⟨b, o, h1, fun j x hx => ⟨(cell_kc hk (h2 j x hx).2).1, (cell_kc hk (h2 j x hx).2).2⟩⟩
theorem VL.kc {N : Nat} {W W' : World} {p : Vp} {v : Vw} (h : VL W p v) (hk : Kc N W W') : VL W' p v := ⟨h.h.kc hk, h.hl, h.y.kc hk, h.yl, h.g.kc hk, h.gl, h.l.kc hk, h.ll⟩
theorem VB.kc {N b : Nat} {W W' : World} {p : Vp} {v : Vw} (h : VB W b p v) (hk : Kc N W W') : VB W' b p v := hk.2 _ _ _ _ h
theorem callsIn_any {n n' : Nat} {P : Program} {f : FuncId} {args : Array Value} {w : World} {R : Ending → World → Prop} (h : CallsIn Fence.wide n P f args w R) : CallsIn Fence.wide n' P f args w R :=
  ⟨h.1, fun cs _ => h.2 cs (fun d hd => by cases hd)⟩
/-- The law: a loop over the holders, at the outermost. -/
theorem range_holders {n b : Nat} {g : Operand} {ps : Array Tmp} {assign body : Code} {Q : Exit → Act → World → Prop} {a : Act} {w : World} {p : Vp} {v : Vw} (h1 : 1 ≤ n)
    (hg : a.eval g = .func (.func 96) #[] #[.pointer (some ⟨b, 0, none⟩)]) (hps : ps.size = 2)
    (I Ix : Nat → World → Prop) (Ax : Hd → Option Addr → Nat → Act → World → Prop) (hAx : ∀ x ra ca a' W W', Kc w.heap.size W W' → Ax x ra ca a' W → Ax x ra ca a' W')
    (hV : ∀ j W, I j W → VL W p v ∧ VB W b p v) (hI : ∀ j W W', Kc w.heap.size W W' → w.heap.size ≤ W.heap.size → I j W → I j W') (hIx : ∀ j W W', Kc w.heap.size W W' → w.heap.size ≤ W.heap.size → Ix j W → Ix j W')
    (h0 : I 0 w)
    (hassign : ∀ (m l : Nat) (W : World) (x : Hd) (ra : Option Addr) (ca : Nat) (K : Act → World → Prop), (∀ a' W', Below W.heap.size W W' → Ax x ra ca a' W' → K a' W') → assign.wpIn (Fence.wide.inRound l) m Tryd.prog (Exit.then K (fun _ _ _ => False)) { tmps := (ps.zip #[hdV x, .slice ra x.ws.length ca]).foldl (fun t (p, v) => t.setIfInBounds p v) a.tmps, defers := [] } W)
    (hbody : ∀ m l j x W ra ca a', w.heap.size ≤ l → (∃ r, W.heap[l]? = some (.loop r)) → I j W → Ax x ra ca a' W → (holdersM v)[j]? = some x → WR W ra x.ws → x.ws.length ≤ 281474976710656 →
      body.wpIn (Fence.wide.inRound l) m Tryd.prog (fun e _ W' => Nk W W' ∧ w.heap.size ≤ W'.heap.size ∧ ((e = .normal ∧ I (j + 1) W') ∨ (e = .ret ∧ Ix (j + 1) W'))) a' W)
    (hdone : ∀ W, I (holdersM v).length W → W.heap[w.heap.size]? = some (.deferred (some [])) → Q .normal { a with defers := { target := .collected w.heap.size, args := #[] } :: a.defers } W)
    (hstop : ∀ j W, Ix j W → W.heap[w.heap.size]? = some (.deferred (some [])) → Code.ret.wpIn Fence.wide n Tryd.prog Q { a with defers := { target := .collected w.heap.size, args := #[] } :: a.defers } W) :
    (Code.rangeFunc g ps assign body).wpIn Fence.wide n Tryd.prog Q a w := by
  refine range_at rfl h1 hg trivial (enters_of Tryd.func96 (by kernel_rfl) rfl) fun fn hfn => ?_
  obtain ⟨r, hr⟩ : ∃ r : Loop, recL w fn a.tmps ps assign body = r := ⟨_, rfl⟩
  have hW : Below w.heap.size w (entW w r) := ((Below.refl _ w).alloc (Nat.le_refl _) _).alloc (by simp) _
  have hsz : (entW w r).heap.size = w.heap.size + 2 := by unfold entW; rw [World.size_alloc, World.size_alloc]
  have hL1 : (entW w r).heap[w.heap.size + 1]? = some (.loop r) := by
    have := World.alloc_heap_new (w.alloc (.deferred (some []))) (.loop r); rwa [World.size_alloc] at this
  have hK1 : (entW w r).heap[w.heap.size]? = some (.deferred (some [])) := (Below.heap_alloc _ _ _ (by simp)).trans (World.alloc_heap_new w _)
  have hI1 : I 0 (entW w r) := hI _ _ _ (kc_below (Nat.le_refl _) hW) (Nat.le_refl _) h0
  have er : r.state = .ready ∧ r.pending = none ∧ r.fn = fn ∧ r.tmps = a.tmps ∧ r.params = ps ∧ r.assign = assign ∧ r.body = body := by subst hr; exact ⟨rfl, rfl, rfl, rfl, rfl, rfl, rfl⟩
  rw [hr]
  generalize entW w r = W0 at *
  clear hr
  obtain ⟨er1, er2, er3, er4, er5, er6, er7⟩ := er
  have K := holders1_in 1 (Nat.le_refl _) (w.heap.size + 1) b p v (fun j W => I j W ∧ w.heap.size ≤ W.heap.size ∧ W.heap[w.heap.size + 1]? = some (.loop r) ∧ W.heap[w.heap.size]? = some (.deferred (some [])))
    (fun j W => Ix j W ∧ w.heap.size ≤ W.heap.size ∧ W.heap[w.heap.size + 1]? = some (.loop { r with state := .done, pending := some .ret }) ∧ W.heap[w.heap.size]? = some (.deferred (some [])))
    (fun j W h => hV j W h.1) ?hA ?hY W0 ⟨hI1, by omega, hL1, hK1⟩
  case hA =>
    rintro j W W' ⟨i1, i2, i3, i4⟩ hb
    exact ⟨hI _ _ _ (kc_below i2 hb) i2 i1, Nat.le_trans i2 hb.size, nk_below hb _ _ rfl i3, nk_below hb _ _ rfl i4⟩
  case hY =>
    rintro j x Wa ra ca ⟨i1a, i2a, i3a, i4a⟩ hx hwa hlen
    refine yield_round i3a er1 (by rw [er5, hps]; rfl) (er3 ▸ hfn) fun K hK => ?_
    rw [er5, er4, er6]
    refine hassign _ _ _ _ _ _ _ fun a' W hbW hax => ?_
    have i1 := hI _ _ _ (kc_below i2a hbW) i2a i1a
    have i2 := Nat.le_trans i2a hbW.size
    have i3 := nk_below hbW _ _ rfl i3a
    have i4 := nk_below hbW _ _ rfl i4a
    have hw := hwa.below hbW
    refine hK _ _ i3 ?_
    have hq : ∀ {C : Code} {E : Exit → Act → World → Prop} {a' : Act} {X : World}, C = body → body.wpIn (Fence.wide.inRound (w.heap.size + 1)) (1 - 1) Tryd.prog E a' X → C.wpIn (Fence.wide.inRound (w.heap.size + 1)) (1 - 1) Tryd.prog E a' X := fun h g => by rw [h]; exact g
    refine hq er7 ?_
    have k1 : Kc w.heap.size W (W.putObj (w.heap.size + 1) (.loop { r with state := .busy })) := kc_put (by omega) i3 rfl
    have hlt := (Array.getElem?_eq_some_iff.1 i3).1
    have hbu : (W.putObj (w.heap.size + 1) (.loop { r with state := .busy })).heap[w.heap.size + 1]? = some (.loop { r with state := .busy }) := World.putObj_heap_same hlt
    have hde : (W.putObj (w.heap.size + 1) (.loop { r with state := .busy })).heap[w.heap.size]? = some (.deferred (some [])) := (World.putObj_heap_other (by omega)).trans i4
    refine wpIn_mono (hbody _ _ j x _ ra ca a' (by omega) ⟨_, hbu⟩ (hI _ _ _ k1 i2 i1) (hAx _ _ _ _ _ _ k1 hax) hx (hw.kc k1) hlen) ?_
    rintro e a3 W3 ⟨nk, sz, h3⟩
    have l3 := nk _ _ rfl hbu
    have d3 := nk _ _ rfl hde
    have hlt3 := (Array.getElem?_eq_some_iff.1 l3).1
    rcases h3 with ⟨rfl, h3⟩ | ⟨rfl, h3⟩
    · refine ⟨l3, .inl ⟨rfl, hI _ _ _ (kc_put (by omega) l3 rfl) sz h3, ?_, ?_, (World.putObj_heap_other (by omega)).trans d3⟩⟩
      · rw [World.putObj_size]; exact sz
      · rw [World.putObj_heap_same hlt3]
        cases r
        simp only at er1 er2
        subst er1 er2
        rfl
    · refine ⟨l3, .inr ⟨rfl, hIx _ _ _ (kc_put (by omega) l3 rfl) sz h3, ?_, ?_, (World.putObj_heap_other (by omega)).trans d3⟩⟩
      · rw [World.putObj_size]; exact sz
      · exact World.putObj_heap_same hlt3
  refine (callsIn_any K).mono ?_
  rintro e W ⟨hv, ⟨i1, i2, i3, i4⟩ | ⟨j, i1, i2, i3, i4⟩⟩
  · exact ⟨hv, .inl ⟨r, i3, er1, er2, hdone _ (hI _ _ _ (kc_put (by omega) i3 rfl) i2 i1) ((World.putObj_heap_other (by omega)).trans i4)⟩⟩
  · exact ⟨hv, .inr ⟨_, i3, rfl, rfl, hstop j _ (hIx _ _ _ (kc_put (by omega) i3 rfl) i2 i1) ((World.putObj_heap_other (by omega)).trans i4)⟩⟩
end Go.Proofs.YtomdbcddokaagaaDoor

/- Are all that holders hold words that fit? -/
namespace Go.Proofs.YtomdbcddokaagaaDoor
open Go.RowKit Go.Shelf

attribute [local go_sem] Oper.semAt_some
def okTo (v : Vw) (j : Nat) : Prop := ∀ i x, i < j → (holdersM v)[i]? = some x → x.ws.all (fitsW v.h.length) = true
theorem okTo_all {v : Vw} (h : okTo v (holdersM v).length) : wordsOk v = true := by
  unfold wordsOk
  refine List.all_eq_true.2 fun x hx => ?_
  obtain ⟨i, hi⟩ := List.getElem?_of_mem hx
  exact h i x (List.getElem?_eq_some_iff.1 hi).1 hi
theorem okTo_not {v : Vw} {j i : Nat} {x : Hd} {y : Int} (h : (holdersM v)[j]? = some x) (hy : x.ws[i]? = some y) (hn : fitsW v.h.length y = false) : wordsOk v = false := by
  cases hw : wordsOk v
  · rfl
  · have h1 := List.all_eq_true.1 hw x (List.mem_of_getElem? h)
    have h2 := List.all_eq_true.1 h1 y (List.mem_of_getElem? hy)
    rw [hn] at h2
    cases h2
theorem okTo_more {v : Vw} {j : Nat} {x : Hd} (h : okTo v j) (hx : (holdersM v)[j]? = some x) (ha : x.ws.all (fitsW v.h.length) = true) : okTo v (j + 1) := by
  intro i y hi hy
  by_cases e : i = j
  · subst e
    rw [hx] at hy
    cases hy
    exact ha
  · exact h i y (by omega) hy
/-- What stands in each round of hasWords. -/
structure IW (w : World) (p : Vp) (v : Vw) (j : Nat) (W : World) : Prop where
  ok : okTo v j
  b : Below w.heap.size w W
  l : VL W p v
  v0 : VB W w.heap.size p v
  r : W.heap[w.heap.size + 1]? = some (.cells #[.bool false] 4 (0, 0))
  v2 : VB W (w.heap.size + 2) p v
structure IX (w : World) (v : Vw) (W : World) : Prop where
  ok : wordsOk v = false
  b : Below w.heap.size w W
  r : W.heap[w.heap.size + 1]? = some (.cells #[.bool false] 4 (0, 0))
theorem results1 {fn : Func} {tmps : Array Value} {b0 : Nat} {v0 : Value} {W : World} (hres : fn.results = #[.cell 2 4]) (h2 : tmps[2]? = some (.pointer (some ⟨b0, 0, none⟩)))
    (k0 : Boxed W b0 4 v0) : (results fn tmps).run Tryd.prog W = .ok v0 W := by
  have c0 := k0.cell
  obtain ⟨l2, e2⟩ := Array.getElem?_eq_some_iff.1 h2
  simp [results, hres, go_sem, c0, l2, e2]
theorem put_box {N b l : Nat} {W : World} {x : Value} {t : TypeId} {o o' : Obj} (h : Boxed W b t x) (hN : N ≤ l) (hl : W.heap[l]? = some o) (ho : o.isCells = false) : Boxed (W.putObj l o') b t x := (kc_put hN hl ho).2 _ _ _ _ h
theorem set_other {W : World} {b l : Nat} {x : Value} {o : Obj} (h : W.heap[l]? = some o) (hne : b ≠ l) : (W.setCell ⟨b, 0, none⟩ x).heap[l]? = some o :=
  ((grownBy_setCell' W b x).block l (Array.getElem?_eq_some_iff.1 h).1 (fun e => hne (by cases e; rfl))).trans h
set_option maxRecDepth 100000 in
set_option maxHeartbeats 4000000 in
theorem hasWords_any (p : Vp) (v : Vw) (w : World) (hV : VL w p v) (hT : Tab w) :
    Calls Tryd.prog 91 #[.agg (p.cells v)] w fun e w' => e = .returned (.bool (wordsOk v)) ∧ Below w.heap.size w w' := by
  refine (callsIn_wide (n := 7)).1 ?_
  refine callsIn_of_wp_marks Tryd.func91 rfl trivial ?_ rfl
  simp only [Tryd.ntmps91, List.size_toArray, List.length_cons, List.length_nil, Nat.reduceAdd, Nat.reduceSub, Array.replicate_succ, Array.replicate_zero, List.push_toArray, List.append_toArray, List.nil_append, List.cons_append]
  unfold Vp.cells
  gi_wp2_with fail
  refine ⟨trivial, ?_⟩
  refine (holders_in _ p v _).mono ?_
  rintro e w' ⟨rfl, rfl⟩
  unfold Vp.cells
  gi_wp2
  obtain ⟨W0, hW0e⟩ : ∃ W0, (((w.alloc (.cells (p.cells v) 28)).alloc (.cells #[.bool false] 4)).alloc (.cells (p.cells v) 28)) = W0 := ⟨_, rfl⟩
  have hsz : W0.heap.size = w.heap.size + 3 := by rw [← hW0e, World.size_alloc, World.size_alloc, World.size_alloc]
  have hb0 : Below w.heap.size w W0 := by rw [← hW0e]; exact (((Below.refl _ w).alloc (Nat.le_refl _) _).alloc (by simp) _).alloc (by simp; omega) _
  have hi0 : IW w p v 0 W0 := by
    refine ⟨fun i x hi _ => by omega, hb0, hV.kc (kc_below (Nat.le_refl _) hb0), ?_, ?_, ?_⟩
    · unfold VB; rw [← hW0e]
      exact (Below.heap_alloc _ _ _ (by simp; omega)).trans ((Below.heap_alloc _ _ _ (by simp)).trans (World.alloc_heap_new w _))
    · rw [← hW0e]
      refine (Below.heap_alloc _ _ _ (by simp)).trans ?_
      have := World.alloc_heap_new (w.alloc (.cells (p.cells v) 28)) (.cells #[.bool false] 4)
      rwa [World.size_alloc] at this
    · unfold VB; rw [← hW0e]
      have := World.alloc_heap_new ((w.alloc (.cells (p.cells v) 28)).alloc (.cells #[.bool false] 4)) (.cells (p.cells v) 28)
      rwa [World.size_alloc, World.size_alloc] at this
  unfold Vp.cells at hW0e
  rw [hW0e]
  clear hW0e
  refine range_holders (b := w.heap.size + 2) (p := p) (v := v) (by omega) rfl rfl (IW w p v) (fun _ W => IX w v W)
    (fun x ra ca a' _ => a' = ⟨#[.agg (p.cells v), .pointer (some ⟨w.heap.size, 0, none⟩), .pointer (some ⟨w.heap.size + 1, 0, none⟩), undef, .slice ra x.ws.length ca, undef, undef, .agg (p.cells v), .func (.func 96) #[] #[.pointer (some ⟨w.heap.size + 2, 0, none⟩)], hdV x, .slice ra x.ws.length ca, undef, undef, undef, undef, undef, undef, undef, undef, undef, undef, undef, undef, undef], []⟩) (fun _ _ _ _ _ _ _ h => h)
    (fun j W h => ⟨h.l, h.v2⟩) ?hI ?hIx hi0 ?assign ?body ?done ?stop
  case hI =>
    intro j W W' hk hs h
    exact ⟨h.ok, h.b.trans (hk.1.mono (by omega)), h.l.kc hk, h.v0.kc hk, hk.2 _ _ _ _ h.r, h.v2.kc hk⟩
  case hIx =>
    intro j W W' hk hs h
    exact ⟨h.ok, h.b.trans (hk.1.mono (by omega)), hk.2 _ _ _ _ h.r⟩
  case assign =>
    intro m l W x ra ca K hK
    gi_wp2
    exact hK _ _ (Below.refl _ _) rfl
  case body =>
    rintro m l j x W ra ca _ hl hr hi rfl hx hw hlen
    have HI : Hid (IW w p v j W) := hi
    have HX : Hid ((holdersM v)[j]? = some x) := hx
    have HW : Hid (WR W ra x.ws) := hw
    have HV0 : Hid (Vp.cells p v = Vp.cells p v) := rfl
    have c0 := hi.v0.at.1
    have HT : Hid (Tab W) := hT.below hi.b
    have HR : Hid (Boxed W (w.heap.size + 1) 4 (.bool false)) := hi.r
    have hlh := hi.l.hl
    clear hi hx hw
    gi_wp2
    gi_loopw [13, 6] (fun i _ wr => ∃ k : Nat, i = .int .i64 k ∧ k ≤ x.ws.length ∧ Hid ((x.ws.take k).all (fitsW v.h.length) = true) ∧ wr = W) (fun i _ _ => x.ws.length - (intOf i).toNat)
    case atStart => exact ⟨0, rfl, Nat.zero_le _, rfl, rfl⟩
    case round =>
      obtain ⟨k, rfl, hk, HN, rfl⟩ := hrel
      by_cases hkl : k < x.ws.length
      · have k1 : (k : Int) < (x.ws.length : Int) := by omega
        obtain ⟨y, hy⟩ : ∃ y, x.ws[k]? = some y := ⟨_, List.getElem?_eq_getElem hkl⟩
        obtain ⟨bb, o, hor, hcs⟩ := HW.out
        have hra : ra = some ⟨bb, o, none⟩ := hor.resolve_left (by omega)
        subst hra
        obtain ⟨g1, y2, ok⟩ := hcs k y hy
        have HY : Hid (x.ws[k]? = some y) := hy
        have HO : Hid (Rng y) := ok
        clear hy hcs hor ok
        gi_wp2_with fail
        refine ⟨trivial, fun h => (nomatch h), ?_⟩
        refine (CallsIn.inRound l (callsIn_wide.2 (isWord_any y v.h.length _ HO.out HT.out))).mono ?_
        rintro e w' ⟨rfl, rfl⟩
        cases hf : fitsW v.h.length y
        · have HF : Hid (wordsOk v = false) := okTo_not HX.out HY.out hf
          have hc := HR.out.cell
          have hfz := HR.out.frozen
          gi_wp2
          refine ⟨fun q ob hob hq => set_other hq ?_, ?_, HF.out, HI.out.b.setCell (by simp) _, HR.out.set _⟩
          · rintro rfl
            have := HI.out.r
            rw [hq] at this
            cases this
            cases hob
          · have := HI.out.v2; have := (Array.getElem?_eq_some_iff.1 this).1; omega
        · have HX2 : Hid ((x.ws.take (k + 1)).all (fitsW v.h.length) = true) := (fields_all HN.out HY.out).trans hf
          gi_wp2
          go_roundw
          case rel => exact ⟨k + 1, by go_num, by omega, HX2, trivial⟩
          case measure => simp [intOf]; omega
      · have k1 : ¬ (k : Int) < (x.ws.length : Int) := by omega
        gi_wp2
        refine ⟨fun _ _ _ h => h, ?_, ?_⟩
        · have := HI.out.v2; have := (Array.getElem?_eq_some_iff.1 this).1; omega
        · refine ⟨okTo_more HI.out.ok HX.out ?_, HI.out.b, HI.out.l, HI.out.v0, HI.out.r, HI.out.v2⟩
          have := HN.out; rwa [List.take_of_length_le (by omega)] at this
  case done =>
    intro W hi hD
    have HR : Hid (Boxed W (w.heap.size + 1) 4 (.bool false)) := hi.r
    have hc := HR.out.cell
    have hf := HR.out.frozen
    have hlt := HR.out.lt
    gi_wp2
    have hD2 : (W.setCell ⟨w.heap.size + 1, 0, none⟩ (.bool true)).heap[W0.heap.size]? = some (.deferred (some [])) := set_other hD (by omega)
    refine ⟨by simp, .inl ⟨_, _, rfl, run_takeDeferred hD2, ?_⟩⟩
    refine ⟨_, results1 rfl rfl (put_box (HR.out.set _) (Nat.le_refl _) hD2 rfl), ?_, ?_⟩
    · rw [okTo_all hi.ok]
    · exact (hi.b.setCell (by simp) _).trans ((kc_put (N := w.heap.size) (by omega) hD2 rfl).1)
  case stop =>
    intro j W hx hD
    gi_wp2
    refine ⟨by simp, .inl ⟨_, _, rfl, run_takeDeferred hD, ?_⟩⟩
    refine ⟨_, results1 rfl rfl (put_box hx.r (Nat.le_refl _) hD rfl), ?_, ?_⟩
    · rw [hx.ok]
    · exact hx.b.trans ((kc_put (N := w.heap.size) (by omega) hD rfl).1)
end Go.Proofs.YtomdbcddokaagaaDoor

/- What named needs: a row of truths, made within a fenced walk; who is named so far. -/
namespace Go.Proofs.YtomdbcddokaagaaDoor
open Go.RowKit Go.Shelf

theorem wpListIn_make_full {F : Fence} {n : Nat} {P : Program} (w : World) {ops : Array Oper} {rest : List Oper} {o : Oper} {a : Act} {Q : Exit → Act → World → Prop}
    (hg : o.guard = none) (l c : Operand) (t : TypeId) (hop : o.op = Op.makeSlice t l c)
    (base : Nat) (e : TypeId) (i : TypeInfo) (z : Value) (size : Nat) (h1 : P.underlying t = some (.slice e)) (h2 : P.info? e = some i) (h3 : i.zero = some z) (h4 : i.size = size)
    (kl kc : IntKind) (L C : Int) (m : Nat) (hl : a.eval l = .int kl L) (hc : a.eval c = .int kc C) (hL : L = (m : Int)) (hC : C = (m : Int)) (b2 : i.bytes * m ≤ 281474976710656) (b3 : m ≤ maxLen) (b4 : base ≤ w.heap.size)
    (hK : ∀ w', w'.ownsRow base e size (.slice (some ⟨w.heap.size, 0, none⟩) m m) m (madeCells z.cells (m * size)).toList → w.grownBy w' none → wpListIn F n P ops Q rest (a.put o.dst (.slice (some ⟨w.heap.size, 0, none⟩) m m)) w') :
    wpListIn F n P ops Q (o :: rest) a w := by
  refine wpListIn_plain hg fun K hK' => ?_
  obtain ⟨w', hrun, r1, r2⟩ := run_make_full (P := P) w base t e i z size h1 h2 h3 h4 kl kc m b2 b3 b4
  subst hL
  subst hC
  unfold Oper.wpIn
  refine ⟨?_, ?_⟩
  · simp [Oper.about, hop]
  · rw [Oper.semAt_plain F _ _ (by rw [hop]; intro c hc'; cases hc')]
    simp [execOp, hop, hl, hc, hrun, Result.andThen]
    exact hK' _ _ (hK w' r1 r2)
theorem infoBool : (Tryd.prog.info? 4).map (fun i => (i.zero, i.size, i.bytes)) = some (some (.bool false), 1, 1) := by kernel_rfl
theorem row_made {W : World} {base g n t : Nat} {xs : List Value} {u0 : Value} (h : W.ownsRow base t 1 (.slice (some ⟨g, 0, none⟩) n n) n xs) (hx : ∀ u ∈ xs, u = u0) : DR W t g n (fun _ u => u = u0) := by
  rcases h.2 with ⟨h0, _⟩ | ⟨g', cap', cur, hv, _, hh, _, _, hsz, ht⟩
  · cases h0
  · cases hv
    refine ⟨cur, hh, by simpa using hsz, fun k u hk => hx u ?_⟩
    have hk2 : k < cur.size := (Array.getElem?_eq_some_iff.1 hk).1
    rw [← ht, List.take_of_length_le (by simp; omega)]
    exact Array.mem_toList_iff.2 (Array.mem_of_getElem? hk)
theorem false_made (n : Nat) : ∀ u ∈ (madeCells (Value.bool false).cells (n * 1)).toList, u = .bool false := by
  intro u hu
  unfold madeCells at hu
  rw [Array.toList_map] at hu
  obtain ⟨i, _, rfl⟩ := List.mem_map.1 hu
  show (#[Value.bool false])[i % 1]! = _
  rw [Nat.mod_one]; rfl
theorem DR.kc {N : Nat} {W W' : World} {t g n : Nat} {P : Nat → Value → Prop} (h : DR W t g n P) (hk : Kc N W W') : DR W' t g n P := by
  obtain ⟨cs, h1, h2, h3⟩ := h
  exact ⟨cs, hk.2 _ _ _ _ h1, h2, h3⟩
/-- Who is named by the first j holders; and by k words more. -/
def nmTo (v : Vw) (cf : Hd → Bool) (j : Nat) (c : Nat) : Bool := ((holdersM v).take j).any (fun x => cf x && x.ws.any (fun w => refN w == some c))
def nmIn (ws : List Int) (k c : Nat) : Bool := (ws.take k).any (fun w => refN w == some c)
theorem nmTo_all (v : Vw) (cf : Hd → Bool) (c : Nat) : nmTo v cf (holdersM v).length c = namedM v cf c := by
  unfold nmTo namedM
  rw [List.take_of_length_le (Nat.le_refl _)]
theorem nmTo_more {v : Vw} {cf : Hd → Bool} {j : Nat} {x : Hd} (h : (holdersM v)[j]? = some x) (c : Nat) : nmTo v cf (j + 1) c = (nmTo v cf j c || (cf x && nmIn x.ws x.ws.length c)) := by
  unfold nmTo nmIn
  rw [List.take_add_one, h, List.any_append, List.take_of_length_le (Nat.le_refl _)]
  simp
theorem nmIn_more {ws : List Int} {k : Nat} {y : Int} (h : ws[k]? = some y) (c : Nat) : nmIn ws (k + 1) c = (nmIn ws k c || (refN y == some c)) := by
  unfold nmIn
  rw [List.take_add_one, h, List.any_append]
  simp
theorem refs_some {n : Nat} {y : Int} (h : fitsW n y = true) (hr : refB y = true) : ∃ k : Nat, refN y = some k ∧ k < n ∧ cellV y = (k : Int) := by
  have h8 : ofT y = 8 := by simpa [refB] using hr
  have hb := ofN_ref hr
  refine ⟨(ofN y).toNat, ?_, ?_, ?_⟩
  · unfold refN; rw [if_pos h8]
  · unfold fitsW refN at h
    rw [if_pos h8] at h
    simpa using (Bool.and_eq_true_iff.1 h).2
  · unfold cellV
    rw [if_pos h8]
    omega
theorem refs_none {y : Int} (hr : refB y = false) : refN y = none := by
  have h8 : ¬ ofT y = 8 := by simpa [refB] using hr
  unfold refN
  rw [if_neg h8]
theorem fits_of {v : Vw} (h : wordsOk v = true) {j k : Nat} {x : Hd} {y : Int} (hx : (holdersM v)[j]? = some x) (hy : x.ws[k]? = some y) : fitsW v.h.length y = true :=
  List.all_eq_true.1 (List.all_eq_true.1 h x (List.mem_of_getElem? hx)) y (List.mem_of_getElem? hy)
end Go.Proofs.YtomdbcddokaagaaDoor
