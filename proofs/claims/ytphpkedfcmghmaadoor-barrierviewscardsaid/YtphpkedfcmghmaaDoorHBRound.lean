/- A range over the holders of a view: the law for its callers. -/
import Derived.Test.YtphpkedfcmghmaaDoorHBHold
namespace Go.Proofs.YtphpkedfcmghmaaDoor
open Go.RowKit Go.Shelf

/-- Nothing that lies below N turns, and no row of cells does. -/
def Kc (N : Nat) (W W' : World) : Prop := Below N W W' ∧ ∀ (k : Nat) (cs : Array Value) (t : TypeId) (f : Nat × Nat), W.heap[k]? = some (.cells cs t f) → W'.heap[k]? = some (.cells cs t f)
theorem kc_below {N : Nat} {W W' : World} (hN : N ≤ W.heap.size) (h : Below W.heap.size W W') : Kc N W W' :=
  ⟨h.mono hN, fun k _ _ _ hk => (h.block k (Array.getElem?_eq_some_iff.1 hk).1).trans hk⟩
theorem kc_put {N l : Nat} {W : World} {o o' : Obj} (hN : N ≤ l) (hl : W.heap[l]? = some o) (ho : o.isCells = false) : Kc N W (W.putObj l o') := by
  have hlt := (Array.getElem?_eq_some_iff.1 hl).1
  refine ⟨(Below.refl N W).grown (grownBy_putObj' W l o') (by omega) (fun k e => by cases e; omega), fun k cs t f hk => ?_⟩
  rw [World.putObj_heap_other (by rintro rfl; rw [hl] at hk; cases hk; cases ho)]
  exact hk
theorem kc_t {N : Nat} {A B C : World} (h : Kc N A B) (k : Kc N B C) : Kc N A C := ⟨h.1.trans k.1, fun j cs t f hj => k.2 j cs t f (h.2 j cs t f hj)⟩
/-- What is no row of cells stays. -/
def Nk (W W' : World) : Prop := ∀ (k : Nat) (o : Obj), o.isCells = false → W.heap[k]? = some o → W'.heap[k]? = some o
theorem nk_below {W W' : World} (h : Below W.heap.size W W') : Nk W W' := fun k _ _ hk => (h.block k (Array.getElem?_eq_some_iff.1 hk).1).trans hk
theorem nk_t {A B C : World} (h : Nk A B) (k : Nk B C) : Nk A C := fun j o ho hj => k j o ho (h j o ho hj)
theorem cell_kc {N : Nat} {W W' : World} (h : Kc N W W') {b o : Nat} {x : Value} (hc : W.cell? ⟨b, o, none⟩ = some x) : b < W'.heap.size ∧ W'.cell? ⟨b, o, none⟩ = some x := by
  unfold World.cell? at hc ⊢
  cases hb : W.heap[b]? with
  | none => simp [hb] at hc
  | some ob =>
    cases ob with
    | cells cs t f =>
      have := h.2 _ _ _ _ hb
      refine ⟨(Array.getElem?_eq_some_iff.1 this).1, ?_⟩
      simp only [hb] at hc
      simp only [this]
      exact hc
    | _ => simp [hb] at hc
theorem WR.kc {N : Nat} {W W' : World} {ra : Option Addr} {l : List Int} (h : WR W ra l) (hk : Kc N W W') : WR W' ra l := by
  obtain ⟨b, o, h1, h2⟩ := h
  exact ⟨b, o, h1, fun j x hx => ⟨(cell_kc hk (h2 j x hx).2.1).1, (cell_kc hk (h2 j x hx).2.1).2, (h2 j x hx).2.2⟩⟩
theorem HR.kc {N : Nat} {W W' : World} {ra : Option Addr} {l : List Cl} (h : HR W ra l) (hk : Kc N W W') : HR W' ra l := by
  obtain ⟨b, o, h1, h2⟩ := h
  refine ⟨b, o, h1, fun j x hx => ?_⟩
  obtain ⟨g, ⟨a0, a1, a2, a3⟩, k⟩ := h2 j x hx
  exact ⟨(cell_kc hk a0).1, ⟨(cell_kc hk a0).2, (cell_kc hk a1).2, (cell_kc hk a2).2, (cell_kc hk a3).2⟩, k⟩
theorem LR.kc {N : Nat} {W W' : World} {ra : Option Addr} {l : List Ln} (h : LR W ra l) (hk : Kc N W W') : LR W' ra l := by
  obtain ⟨b, o, h1, h2⟩ := h
  refine ⟨b, o, h1, fun j x hx => ?_⟩
  obtain ⟨g, ⟨rr, cc, a0, a1, a2⟩, a3, a4⟩ := h2 j x hx
  exact ⟨(cell_kc hk a0).1, ⟨rr, cc, (cell_kc hk a0).2, a1.kc hk, a2⟩, (cell_kc hk a3).2, (cell_kc hk a4).2⟩
theorem RX.kc {N : Nat} {W W' : World} {ra : Option Addr} {l : List Int} (h : RX (Value.int .i64) W ra l) (hk : Kc N W W') : RX (Value.int .i64) W' ra l := by
  obtain ⟨b, o, h1, h2⟩ := h
  exact ⟨b, o, h1, fun j x hx => ⟨(cell_kc hk (h2 j x hx).2).1, (cell_kc hk (h2 j x hx).2).2⟩⟩
theorem VL.kc {N : Nat} {W W' : World} {p : Vp} {v : Vw} (h : VL W p v) (hk : Kc N W W') : VL W' p v := ⟨h.h.kc hk, h.hl, h.y.kc hk, h.yl, h.g.kc hk, h.gl, h.l.kc hk, h.ll⟩
theorem VB.kc {N b : Nat} {W W' : World} {p : Vp} {v : Vw} (h : VB W b p v) (hk : Kc N W W') : VB W' b p v := hk.2 _ _ _ _ h
theorem callsIn_any {n n' : Nat} {P : Program} {f : FuncId} {args : Array Value} {w : World} {R : Ending → World → Prop} (h : CallsIn Fence.wide n P f args w R) : CallsIn Fence.wide n' P f args w R :=
  ⟨h.1, fun cs _ => h.2 cs (fun d hd => by cases hd)⟩
/-- The law: a loop over the holders, at the outermost. -/
theorem range_holders {n b : Nat} {g : Operand} {ps : Array Tmp} {assign body : Code} {Q : Exit → Act → World → Prop} {a : Act} {w : World} {p : Vp} {v : Vw} (h1 : 1 ≤ n)
    (hg : a.eval g = .func (.func 96) #[] #[.pointer (some ⟨b, 0, none⟩)]) (hps : ps.size = 2)
    (I Ix : Nat → World → Prop) (Ax : Hd → Option Addr → Nat → Act → World → Prop) (hAx : ∀ x ra ca a' W W', Kc w.heap.size W W' → Ax x ra ca a' W → Ax x ra ca a' W')
    (hV : ∀ j W, I j W → VL W p v ∧ VB W b p v) (hI : ∀ j W W', Kc w.heap.size W W' → w.heap.size ≤ W.heap.size → I j W → I j W') (hIx : ∀ j W W', Kc w.heap.size W W' → w.heap.size ≤ W.heap.size → Ix j W → Ix j W')
    (h0 : I 0 w)
    (hassign : ∀ (m l : Nat) (W : World) (x : Hd) (ra : Option Addr) (ca : Nat) (K : Act → World → Prop), (∀ a' W', Below W.heap.size W W' → Ax x ra ca a' W' → K a' W') → assign.wpIn (Fence.wide.inRound l) m Tryd.prog (Exit.then K (fun _ _ _ => False)) { tmps := (ps.zip #[hdV x, .slice ra x.ws.length ca]).foldl (fun t (p, v) => t.setIfInBounds p v) a.tmps, defers := [] } W)
    (hbody : ∀ m l j x W ra ca a', w.heap.size ≤ l → (∃ r, W.heap[l]? = some (.loop r)) → I j W → Ax x ra ca a' W → (holdersM v)[j]? = some x → WR W ra x.ws → x.ws.length ≤ 281474976710656 →
      body.wpIn (Fence.wide.inRound l) m Tryd.prog (fun e _ W' => Nk W W' ∧ w.heap.size ≤ W'.heap.size ∧ ((e = .normal ∧ I (j + 1) W') ∨ (e = .ret ∧ Ix (j + 1) W'))) a' W)
    (hdone : ∀ W, I (holdersM v).length W → W.heap[w.heap.size]? = some (.deferred (some [])) → Q .normal { a with defers := { target := .collected w.heap.size, args := #[] } :: a.defers } W)
    (hstop : ∀ j W, Ix j W → W.heap[w.heap.size]? = some (.deferred (some [])) → Code.ret.wpIn Fence.wide n Tryd.prog Q { a with defers := { target := .collected w.heap.size, args := #[] } :: a.defers } W) :
    (Code.rangeFunc g ps assign body).wpIn Fence.wide n Tryd.prog Q a w := by
  refine range_at rfl h1 hg trivial (enters_of Tryd.func96 (by kernel_rfl) rfl) fun fn hfn => ?_
  obtain ⟨r, hr⟩ : ∃ r : Loop, recL w fn a.tmps ps assign body = r := ⟨_, rfl⟩
  have hW : Below w.heap.size w (entW w r) := ((Below.refl _ w).alloc (Nat.le_refl _) _).alloc (by simp) _
  have hsz : (entW w r).heap.size = w.heap.size + 2 := by unfold entW; rw [World.size_alloc, World.size_alloc]
  have hL1 : (entW w r).heap[w.heap.size + 1]? = some (.loop r) := by
    have := World.alloc_heap_new (w.alloc (.deferred (some []))) (.loop r); rwa [World.size_alloc] at this
  have hK1 : (entW w r).heap[w.heap.size]? = some (.deferred (some [])) := (Below.heap_alloc _ _ _ (by simp)).trans (World.alloc_heap_new w _)
  have hI1 : I 0 (entW w r) := hI _ _ _ (kc_below (Nat.le_refl _) hW) (Nat.le_refl _) h0
  have er : r.state = .ready ∧ r.pending = none ∧ r.fn = fn ∧ r.tmps = a.tmps ∧ r.params = ps ∧ r.assign = assign ∧ r.body = body := by subst hr; exact ⟨rfl, rfl, rfl, rfl, rfl, rfl, rfl⟩
  rw [hr]
  generalize entW w r = W0 at *
  clear hr
  obtain ⟨er1, er2, er3, er4, er5, er6, er7⟩ := er
  have K := holders1_in 1 (Nat.le_refl _) (w.heap.size + 1) b p v (fun j W => I j W ∧ w.heap.size ≤ W.heap.size ∧ W.heap[w.heap.size + 1]? = some (.loop r) ∧ W.heap[w.heap.size]? = some (.deferred (some [])))
    (fun j W => Ix j W ∧ w.heap.size ≤ W.heap.size ∧ W.heap[w.heap.size + 1]? = some (.loop { r with state := .done, pending := some .ret }) ∧ W.heap[w.heap.size]? = some (.deferred (some [])))
    (fun j W h => hV j W h.1) ?hA ?hY W0 ⟨hI1, by omega, hL1, hK1⟩
  case hA =>
    rintro j W W' ⟨i1, i2, i3, i4⟩ hb
    exact ⟨hI _ _ _ (kc_below i2 hb) i2 i1, Nat.le_trans i2 hb.size, nk_below hb _ _ rfl i3, nk_below hb _ _ rfl i4⟩
  case hY =>
    rintro j x Wa ra ca ⟨i1a, i2a, i3a, i4a⟩ hx hwa hlen
    refine yield_round i3a er1 (by rw [er5, hps]; rfl) (er3 ▸ hfn) fun K hK => ?_
    rw [er5, er4, er6]
    refine hassign _ _ _ _ _ _ _ fun a' W hbW hax => ?_
    have i1 := hI _ _ _ (kc_below i2a hbW) i2a i1a
    have i2 := Nat.le_trans i2a hbW.size
    have i3 := nk_below hbW _ _ rfl i3a
    have i4 := nk_below hbW _ _ rfl i4a
    have hw := hwa.below hbW
    refine hK _ _ i3 ?_
    have hq : ∀ {C : Code} {E : Exit → Act → World → Prop} {a' : Act} {X : World}, C = body → body.wpIn (Fence.wide.inRound (w.heap.size + 1)) (1 - 1) Tryd.prog E a' X → C.wpIn (Fence.wide.inRound (w.heap.size + 1)) (1 - 1) Tryd.prog E a' X := fun h g => by rw [h]; exact g
    refine hq er7 ?_
    have k1 : Kc w.heap.size W (W.putObj (w.heap.size + 1) (.loop { r with state := .busy })) := kc_put (by omega) i3 rfl
    have hlt := (Array.getElem?_eq_some_iff.1 i3).1
    have hbu : (W.putObj (w.heap.size + 1) (.loop { r with state := .busy })).heap[w.heap.size + 1]? = some (.loop { r with state := .busy }) := World.putObj_heap_same hlt
    have hde : (W.putObj (w.heap.size + 1) (.loop { r with state := .busy })).heap[w.heap.size]? = some (.deferred (some [])) := (World.putObj_heap_other (by omega)).trans i4
    refine wpIn_mono (hbody _ _ j x _ ra ca a' (by omega) ⟨_, hbu⟩ (hI _ _ _ k1 i2 i1) (hAx _ _ _ _ _ _ k1 hax) hx (hw.kc k1) hlen) ?_
    rintro e a3 W3 ⟨nk, sz, h3⟩
    have l3 := nk _ _ rfl hbu
    have d3 := nk _ _ rfl hde
    have hlt3 := (Array.getElem?_eq_some_iff.1 l3).1
    rcases h3 with ⟨rfl, h3⟩ | ⟨rfl, h3⟩
    · refine ⟨l3, .inl ⟨rfl, hI _ _ _ (kc_put (by omega) l3 rfl) sz h3, ?_, ?_, (World.putObj_heap_other (by omega)).trans d3⟩⟩
      · rw [World.putObj_size]; exact sz
      · rw [World.putObj_heap_same hlt3]
        cases r
        simp only at er1 er2
        subst er1 er2
        rfl
    · refine ⟨l3, .inr ⟨rfl, hIx _ _ _ (kc_put (by omega) l3 rfl) sz h3, ?_, ?_, (World.putObj_heap_other (by omega)).trans d3⟩⟩
      · rw [World.putObj_size]; exact sz
      · exact World.putObj_heap_same hlt3
  refine (callsIn_any K).mono ?_
  rintro e W ⟨hv, ⟨i1, i2, i3, i4⟩ | ⟨j, i1, i2, i3, i4⟩⟩
  · exact ⟨hv, .inl ⟨r, i3, er1, er2, hdone _ (hI _ _ _ (kc_put (by omega) i3 rfl) i2 i1) ((World.putObj_heap_other (by omega)).trans i4)⟩⟩
  · exact ⟨hv, .inr ⟨_, i3, rfl, rfl, hstop j _ (hIx _ _ _ (kc_put (by omega) i3 rfl) i2 i1) ((World.putObj_heap_other (by omega)).trans i4)⟩⟩
end Go.Proofs.YtphpkedfcmghmaaDoor
