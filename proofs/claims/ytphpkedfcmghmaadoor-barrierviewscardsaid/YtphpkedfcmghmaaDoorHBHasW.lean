/- Are all that holders hold words that fit? -/
import Derived.Test.YtphpkedfcmghmaaDoorHBRound
namespace Go.Proofs.YtphpkedfcmghmaaDoor
open Go.RowKit Go.Shelf

attribute [local go_sem] Oper.semAt_some
def okTo (v : Vw) (j : Nat) : Prop := ∀ i x, i < j → (holdersM v)[i]? = some x → x.ws.all (fitsW v.h.length) = true
theorem okTo_all {v : Vw} (h : okTo v (holdersM v).length) : wordsOk v = true := by
  unfold wordsOk
  refine List.all_eq_true.2 fun x hx => ?_
  obtain ⟨i, hi⟩ := List.getElem?_of_mem hx
  exact h i x (List.getElem?_eq_some_iff.1 hi).1 hi
theorem okTo_not {v : Vw} {j i : Nat} {x : Hd} {y : Int} (h : (holdersM v)[j]? = some x) (hy : x.ws[i]? = some y) (hn : fitsW v.h.length y = false) : wordsOk v = false := by
  cases hw : wordsOk v
  · rfl
  · have h1 := List.all_eq_true.1 hw x (List.mem_of_getElem? h)
    have h2 := List.all_eq_true.1 h1 y (List.mem_of_getElem? hy)
    rw [hn] at h2
    cases h2
theorem okTo_more {v : Vw} {j : Nat} {x : Hd} (h : okTo v j) (hx : (holdersM v)[j]? = some x) (ha : x.ws.all (fitsW v.h.length) = true) : okTo v (j + 1) := by
  intro i y hi hy
  by_cases e : i = j
  · subst e
    rw [hx] at hy
    cases hy
    exact ha
  · exact h i y (by omega) hy
/-- What stands in each round of hasWords. -/
structure IW (w : World) (p : Vp) (v : Vw) (j : Nat) (W : World) : Prop where
  ok : okTo v j
  b : Below w.heap.size w W
  l : VL W p v
  v0 : VB W w.heap.size p v
  r : W.heap[w.heap.size + 1]? = some (.cells #[.bool false] 4 (0, 0))
  v2 : VB W (w.heap.size + 2) p v
structure IX (w : World) (v : Vw) (W : World) : Prop where
  ok : wordsOk v = false
  b : Below w.heap.size w W
  r : W.heap[w.heap.size + 1]? = some (.cells #[.bool false] 4 (0, 0))
theorem results1 {fn : Func} {tmps : Array Value} {b0 : Nat} {v0 : Value} {W : World} (hres : fn.results = #[.cell 2 4]) (h2 : tmps[2]? = some (.pointer (some ⟨b0, 0, none⟩)))
    (k0 : Boxed W b0 4 v0) : (results fn tmps).run Tryd.prog W = .ok v0 W := by
  have c0 := k0.cell
  obtain ⟨l2, e2⟩ := Array.getElem?_eq_some_iff.1 h2
  simp [results, hres, go_sem, c0, l2, e2]
theorem put_box {N b l : Nat} {W : World} {x : Value} {t : TypeId} {o o' : Obj} (h : Boxed W b t x) (hN : N ≤ l) (hl : W.heap[l]? = some o) (ho : o.isCells = false) : Boxed (W.putObj l o') b t x := (kc_put hN hl ho).2 _ _ _ _ h
theorem set_other {W : World} {b l : Nat} {x : Value} {o : Obj} (h : W.heap[l]? = some o) (hne : b ≠ l) : (W.setCell ⟨b, 0, none⟩ x).heap[l]? = some o :=
  ((grownBy_setCell' W b x).block l (Array.getElem?_eq_some_iff.1 h).1 (fun e => hne (by cases e; rfl))).trans h
set_option maxRecDepth 100000 in
set_option maxHeartbeats 4000000 in
theorem hasWords_any (p : Vp) (v : Vw) (w : World) (hV : VL w p v) (hT : Tab w) :
    Calls Tryd.prog 91 #[.agg (p.cells v)] w fun e w' => e = .returned (.bool (wordsOk v)) ∧ Below w.heap.size w w' := by
  refine (callsIn_wide (n := 7)).1 ?_
  refine callsIn_of_wp_marks Tryd.func91 rfl trivial ?_ rfl
  simp only [Tryd.ntmps91, List.size_toArray, List.length_cons, List.length_nil, Nat.reduceAdd, Nat.reduceSub, Array.replicate_succ, Array.replicate_zero, List.push_toArray, List.append_toArray, List.nil_append, List.cons_append]
  unfold Vp.cells
  gi_wp2_with fail
  refine ⟨trivial, ?_⟩
  refine (holders_in _ p v _).mono ?_
  rintro e w' ⟨rfl, rfl⟩
  unfold Vp.cells
  gi_wp2
  obtain ⟨W0, hW0e⟩ : ∃ W0, (((w.alloc (.cells (p.cells v) 28)).alloc (.cells #[.bool false] 4)).alloc (.cells (p.cells v) 28)) = W0 := ⟨_, rfl⟩
  have hsz : W0.heap.size = w.heap.size + 3 := by rw [← hW0e, World.size_alloc, World.size_alloc, World.size_alloc]
  have hb0 : Below w.heap.size w W0 := by rw [← hW0e]; exact (((Below.refl _ w).alloc (Nat.le_refl _) _).alloc (by simp) _).alloc (by simp; omega) _
  have hi0 : IW w p v 0 W0 := by
    refine ⟨fun i x hi _ => by omega, hb0, hV.kc (kc_below (Nat.le_refl _) hb0), ?_, ?_, ?_⟩
    · unfold VB; rw [← hW0e]
      exact (Below.heap_alloc _ _ _ (by simp; omega)).trans ((Below.heap_alloc _ _ _ (by simp)).trans (World.alloc_heap_new w _))
    · rw [← hW0e]
      refine (Below.heap_alloc _ _ _ (by simp)).trans ?_
      have := World.alloc_heap_new (w.alloc (.cells (p.cells v) 28)) (.cells #[.bool false] 4)
      rwa [World.size_alloc] at this
    · unfold VB; rw [← hW0e]
      have := World.alloc_heap_new ((w.alloc (.cells (p.cells v) 28)).alloc (.cells #[.bool false] 4)) (.cells (p.cells v) 28)
      rwa [World.size_alloc, World.size_alloc] at this
  unfold Vp.cells at hW0e
  rw [hW0e]
  clear hW0e
  refine range_holders (b := w.heap.size + 2) (p := p) (v := v) (by omega) rfl rfl (IW w p v) (fun _ W => IX w v W)
    (fun x ra ca a' _ => a' = ⟨#[.agg (p.cells v), .pointer (some ⟨w.heap.size, 0, none⟩), .pointer (some ⟨w.heap.size + 1, 0, none⟩), undef, .slice ra x.ws.length ca, undef, undef, .agg (p.cells v), .func (.func 96) #[] #[.pointer (some ⟨w.heap.size + 2, 0, none⟩)], hdV x, .slice ra x.ws.length ca, undef, undef, undef, undef, undef, undef, undef, undef, undef, undef, undef, undef, undef], []⟩) (fun _ _ _ _ _ _ _ h => h)
    (fun j W h => ⟨h.l, h.v2⟩) ?hI ?hIx hi0 ?assign ?body ?done ?stop
  case hI =>
    intro j W W' hk hs h
    exact ⟨h.ok, h.b.trans (hk.1.mono (by omega)), h.l.kc hk, h.v0.kc hk, hk.2 _ _ _ _ h.r, h.v2.kc hk⟩
  case hIx =>
    intro j W W' hk hs h
    exact ⟨h.ok, h.b.trans (hk.1.mono (by omega)), hk.2 _ _ _ _ h.r⟩
  case assign =>
    intro m l W x ra ca K hK
    gi_wp2
    exact hK _ _ (Below.refl _ _) rfl
  case body =>
    rintro m l j x W ra ca _ hl hr hi rfl hx hw hlen
    have HI : Hid (IW w p v j W) := hi
    have HX : Hid ((holdersM v)[j]? = some x) := hx
    have HW : Hid (WR W ra x.ws) := hw
    have HV0 : Hid (Vp.cells p v = Vp.cells p v) := rfl
    have c0 := hi.v0.at.1
    have HT : Hid (Tab W) := hT.below hi.b
    have HR : Hid (Boxed W (w.heap.size + 1) 4 (.bool false)) := hi.r
    have hlh := hi.l.hl
    clear hi hx hw
    gi_wp2
    gi_loopw [13, 6] (fun i _ wr => ∃ k : Nat, i = .int .i64 k ∧ k ≤ x.ws.length ∧ Hid ((x.ws.take k).all (fitsW v.h.length) = true) ∧ wr = W) (fun i _ _ => x.ws.length - (intOf i).toNat)
    case atStart => exact ⟨0, rfl, Nat.zero_le _, rfl, rfl⟩
    case round =>
      obtain ⟨k, rfl, hk, HN, rfl⟩ := hrel
      by_cases hkl : k < x.ws.length
      · have k1 : (k : Int) < (x.ws.length : Int) := by omega
        obtain ⟨y, hy⟩ : ∃ y, x.ws[k]? = some y := ⟨_, List.getElem?_eq_getElem hkl⟩
        obtain ⟨bb, o, hor, hcs⟩ := HW.out
        have hra : ra = some ⟨bb, o, none⟩ := hor.resolve_left (by omega)
        subst hra
        obtain ⟨g1, y2, ok⟩ := hcs k y hy
        have HY : Hid (x.ws[k]? = some y) := hy
        have HO : Hid (Rng y) := ok
        clear hy hcs hor ok
        gi_wp2_with fail
        refine ⟨trivial, fun h => (nomatch h), ?_⟩
        refine (CallsIn.inRound l (callsIn_wide.2 (isWord_any y v.h.length _ HO.out HT.out))).mono ?_
        rintro e w' ⟨rfl, rfl⟩
        cases hf : fitsW v.h.length y
        · have HF : Hid (wordsOk v = false) := okTo_not HX.out HY.out hf
          have hc := HR.out.cell
          have hfz := HR.out.frozen
          gi_wp2
          refine ⟨fun q ob hob hq => set_other hq ?_, ?_, HF.out, HI.out.b.setCell (by simp) _, HR.out.set _⟩
          · rintro rfl
            have := HI.out.r
            rw [hq] at this
            cases this
            cases hob
          · have := HI.out.v2; have := (Array.getElem?_eq_some_iff.1 this).1; omega
        · have HX2 : Hid ((x.ws.take (k + 1)).all (fitsW v.h.length) = true) := (fields_all HN.out HY.out).trans hf
          gi_wp2
          go_roundw
          case rel => exact ⟨k + 1, by go_num, by omega, HX2, trivial⟩
          case measure => simp [intOf]; omega
      · have k1 : ¬ (k : Int) < (x.ws.length : Int) := by omega
        gi_wp2
        refine ⟨fun _ _ _ h => h, ?_, ?_⟩
        · have := HI.out.v2; have := (Array.getElem?_eq_some_iff.1 this).1; omega
        · refine ⟨okTo_more HI.out.ok HX.out ?_, HI.out.b, HI.out.l, HI.out.v0, HI.out.r, HI.out.v2⟩
          have := HN.out; rwa [List.take_of_length_le (by omega)] at this
  case done =>
    intro W hi hD
    have HR : Hid (Boxed W (w.heap.size + 1) 4 (.bool false)) := hi.r
    have hc := HR.out.cell
    have hf := HR.out.frozen
    have hlt := HR.out.lt
    gi_wp2
    have hD2 : (W.setCell ⟨w.heap.size + 1, 0, none⟩ (.bool true)).heap[W0.heap.size]? = some (.deferred (some [])) := set_other hD (by omega)
    refine ⟨by simp, .inl ⟨_, _, rfl, run_takeDeferred hD2, ?_⟩⟩
    refine ⟨_, results1 rfl rfl (put_box (HR.out.set _) (Nat.le_refl _) hD2 rfl), ?_, ?_⟩
    · rw [okTo_all hi.ok]
    · exact (hi.b.setCell (by simp) _).trans ((kc_put (N := w.heap.size) (by omega) hD2 rfl).1)
  case stop =>
    intro j W hx hD
    gi_wp2
    refine ⟨by simp, .inl ⟨_, _, rfl, run_takeDeferred hD, ?_⟩⟩
    refine ⟨_, results1 rfl rfl (put_box hx.r (Nat.le_refl _) hD rfl), ?_, ?_⟩
    · rw [hx.ok]
    · exact hx.b.trans ((kc_put (N := w.heap.size) (by omega) hD rfl).1)
end Go.Proofs.YtphpkedfcmghmaaDoor
