/- What a book tells: who is stuck, how one ended, who holds a lock, a global. -/
import Derived.Test.YtdlnkdcgipaoeaaDoorHLAsk2
namespace Go.Proofs.YtdlnkdcgipaoeaaDoor
open Go.RowKit

section
variable {w : World} {b : Nat} {pt pl pg : Sl} {T : List (Sl × Th)} {L : List (Sl × Lk)} {G : List Int}
set_option maxRecDepth 100000 in
set_option maxHeartbeats 4000000 in
theorem threads_any (h : BX w b pt pl pg T L G) :
    Calls Tryd.prog 45 #[.pointer (some ⟨b, 0, none⟩)] w fun e w' => e = .returned (.int .i64 T.length) ∧ w' = w := by
  have c0 := h.c0
  have lb := heap_lt h.obj
  clear h
  go_enter Tryd.func45, Tryd.ntmps45
  go_wp2
  go_ret
  exact ⟨rfl, rfl⟩
def hoX (L : List (Sl × Lk)) (x : Int) : Int := if isL L.length x = true then (match L[x.toNat]? with
  | some l => l.2.ho
  | none => 0) else 0
set_option maxRecDepth 100000 in
set_option maxHeartbeats 4000000 in
theorem holder_any (h : BX w b pt pl pg T L G) (x : Int) :
    Calls Tryd.prog 22 #[.pointer (some ⟨b, 0, none⟩), .int .i64 x] w fun e w' => e = .returned (.int .i64 (hoX L x)) ∧ w' = w := by
  have HI : Hid _ := isLock_any h x
  have c1 := h.c1
  have lb := heap_lt h.obj
  cases hB : isL L.length x
  · have HE : hoX L x = 0 := by unfold hoX; rw [hB]; rfl
    rw [HE]
    rw [hB] at HI
    clear h HE hB
    go_enter Tryd.func22, Tryd.ntmps22
    go_wp2_with fail
    refine Calls.mono HI.out ?_
    rintro e w2 ⟨rfl, hw2⟩
    rw [hw2]
    clear hw2
    go_wp2
    go_ret
    exact ⟨rfl, rfl⟩
  · obtain ⟨i, rfl, hi⟩ := isL_at hB
    obtain ⟨y, hy⟩ : ∃ y, L[i]? = some y := ⟨_, List.getElem?_eq_getElem hi⟩
    obtain ⟨gl, hp, -, lg, cs, hcs, -, hc1⟩ := h.lf hy
    have d1 := heap_cell hcs hc1
    have HE : hoX L (i : Int) = y.2.ho := by
      unfold hoX
      rw [hB, if_pos rfl, Int.toNat_natCast, hy]
    rw [HE]
    rw [hB] at HI
    rw [hp] at c1
    have k1 : (0 : Int) ≤ (i : Int) := by omega
    have k2 : (i : Int) < (L.length : Int) := by omega
    generalize y.2.ho = ho at d1 ⊢
    clear h HE hB hcs hc1 hp
    go_enter Tryd.func22, Tryd.ntmps22
    go_wp2_with fail
    refine Calls.mono HI.out ?_
    rintro e w2 ⟨rfl, hw2⟩
    rw [hw2]
    clear hw2
    go_wp2
    go_ret
    exact ⟨rfl, rfl⟩
/-- A global: its word, the error. -/
def glX (G : List Int) (x : Int) : Int × Int := if isL G.length x = true then ((G[x.toNat]?).getD 0, 0) else (0, 1)
theorem BX.gf (h : BX w b pt pl pg T L G) {i : Nat} {x : Int} (hi : G[i]? = some x) : ∃ gt, pg.ra = some ⟨gt, 0, none⟩ ∧ pg.blk = some gt ∧ gt < w.heap.size ∧ ∃ cs, w.heap[gt]? = some (.cells cs 56 (0, 0)) ∧ cs[i]? = some (.int .u64 x) := by
  have hlt := (List.getElem?_eq_some_iff.1 hi).1
  obtain ⟨g, c, hv, -, -⟩ := World.ownsRow.form h.g (by omega)
  have e : pg.ra = some ⟨g, 0, none⟩ := (Value.slice.inj hv).1
  have ht := h.g
  rw [e] at ht
  obtain ⟨cs, h1, _, _, _, _, _, h2⟩ := own_out ht
  refine ⟨g, e, by rw [Sl.blk, e]; rfl, heap_lt h1, cs, h1, h2 _ _ ?_⟩
  rw [List.getElem?_map, hi]
  rfl
set_option maxRecDepth 100000 in
set_option maxHeartbeats 4000000 in
theorem global_any (h : BX w b pt pl pg T L G) (x : Int) :
    Calls Tryd.prog 27 #[.pointer (some ⟨b, 0, none⟩), .int .i64 x] w fun e w' => e = .returned (.tuple #[.int .u64 (glX G x).1, .int .i64 (glX G x).2]) ∧ w' = w := by
  have c2 := h.c2
  have lb := heap_lt h.obj
  cases hB : isL G.length x
  · have HE : glX G x = (0, 1) := by unfold glX; rw [hB]; rfl
    rw [HE]
    have hB' := hB
    simp [isL] at hB'
    clear h HE hB
    by_cases h0 : x < 0
    · go_enter Tryd.func27, Tryd.ntmps27
      go_wp2
      exact bodyPost_ret (results_tmp2 rfl _ _ _) rfl ⟨rfl, rfl⟩
    · have h1 : (G.length : Int) ≤ x := hB' (by omega)
      go_enter Tryd.func27, Tryd.ntmps27
      go_wp2
      exact bodyPost_ret (results_tmp2 rfl _ _ _) rfl ⟨rfl, rfl⟩
  · obtain ⟨i, rfl, hi⟩ := isL_at hB
    obtain ⟨y, hy⟩ : ∃ y, G[i]? = some y := ⟨_, List.getElem?_eq_getElem hi⟩
    obtain ⟨gg, hp, -, lg, cs, hcs, hc⟩ := h.gf hy
    have d1 := heap_cell hcs hc
    have HE : glX G (i : Int) = (y, 0) := by
      unfold glX
      rw [hB, if_pos rfl, Int.toNat_natCast, hy]
      rfl
    rw [HE]
    rw [hp] at c2
    have k0 : ¬ (i : Int) < 0 := by omega
    have k1 : (0 : Int) ≤ (i : Int) := by omega
    have k2 : (i : Int) < (G.length : Int) := by omega
    have k3 : ¬ (G.length : Int) ≤ (i : Int) := by omega
    clear h HE hB hcs hc hp
    go_enter Tryd.func27, Tryd.ntmps27
    go_wp2
    exact bodyPost_ret (results_tmp2 rfl _ _ _) rfl ⟨rfl, rfl⟩
/-- How one ended: whether, the word, the error; and the call's error. -/
def enX (T : List (Sl × Th)) (x : Int) : (Bool × Int × Int) × Int := if isB T.length x = true then (match T[(x - 1).toNat]? with
  | some t => ((t.2.en, t.2.wd, t.2.er), 0)
  | none => ((false, 0, 0), 190)) else ((false, 0, 0), 190)
theorem results_e {fn : Func} {tmps : Array Value} {s u g : Nat} {e : Bool} {x y : Int} {v : Value} {W : World} (hres : fn.results = #[.cell s 67, .tmp u])
    (h1 : tmps[s]? = some (.pointer (some ⟨g, 0, none⟩))) (h3 : tmps[u]? = some v) (k1 : W.heap[g]? = some (.cells #[.bool e, .int .u64 x, .int .i64 y] 67 (0, 0))) : (results fn tmps).run Tryd.prog W = .ok (.tuple #[.agg #[.bool e, .int .u64 x, .int .i64 y], v]) W := by
  have a0 : W.cell? ⟨g, 0, none⟩ = some (.bool e) := heap_cell k1 rfl
  have a1 : W.cell? ⟨g, 1, none⟩ = some (.int .u64 x) := heap_cell k1 rfl
  have a2 : W.cell? ⟨g, 2, none⟩ = some (.int .i64 y) := heap_cell k1 rfl
  obtain ⟨l1, e1⟩ := Array.getElem?_eq_some_iff.1 h1
  obtain ⟨l3, e3⟩ := Array.getElem?_eq_some_iff.1 h3
  simp [results, hres, go_sem, l1, e1, l3, e3, a0, a1, a2]
set_option maxRecDepth 100000 in
set_option maxHeartbeats 4000000 in
theorem ended_any (h : BX w b pt pl pg T L G) (x : Int) :
    Calls Tryd.prog 15 #[.pointer (some ⟨b, 0, none⟩), .int .i64 x] w fun e w' => e = .returned (.tuple #[.agg #[.bool (enX T x).1.1, .int .u64 (enX T x).1.2.1, .int .i64 (enX T x).1.2.2], .int .i64 (enX T x).2]) ∧ Below w.heap.size w w' := by
  have hb0 : Below w.heap.size w (w.alloc (.cells #[.bool false, .int .u64 0, .int .i64 0] 67)) := (Below.refl _ _).alloc (Nat.le_refl _) _
  have h1 := h.below hb0
  have HI : Hid _ := isThread_any h1 x
  cases hB : isB T.length x
  · have HE : enX T x = ((false, 0, 0), 190) := by unfold enX; rw [hB]; rfl
    rw [HE]
    rw [hB] at HI
    clear h HE hB h1
    go_enter Tryd.func15, Tryd.ntmps15
    go_wp2_with fail
    refine Calls.mono HI.out ?_
    rintro e w2 ⟨rfl, hw2⟩
    rw [hw2]
    clear hw2
    go_wp2
    exact bodyPost_ret (results_e rfl rfl rfl (heap_alloc_new w _)) rfl ⟨rfl, (Below.refl _ _).alloc (Nat.le_refl _) _⟩
  · obtain ⟨i, rfl, hi⟩ := isB_at hB
    obtain ⟨t, ht⟩ : ∃ t, T[i]? = some t := ⟨_, List.getElem?_eq_getElem hi⟩
    obtain ⟨gt, hp, -, lg, cs, hcs, -, hc1, hc2, hc3⟩ := h1.tf ht
    have HT : Hid _ := thread_any h1 hi hp lg
    have d1 := heap_cell hcs hc1
    have d2 := heap_cell hcs hc2
    have d3 := heap_cell hcs hc3
    have HE : enX T ((i : Int) + 1) = ((t.2.en, t.2.wd, t.2.er), 0) := by
      unfold enX
      rw [hB, if_pos rfl, show ((i : Int) + 1 - 1).toNat = i by omega, ht]
    rw [HE]
    rw [hB] at HI
    clear h HE hB hcs hc1 hc2 hc3 hp h1
    go_enter Tryd.func15, Tryd.ntmps15
    go_wp2_with fail
    refine Calls.mono HI.out ?_
    rintro e w2 ⟨rfl, hw2⟩
    rw [hw2]
    clear hw2
    go_wp2_with fail
    refine Calls.mono HT.out ?_
    rintro e w2 ⟨rfl, hw2⟩
    rw [hw2]
    clear hw2
    go_wp2
    exact bodyPost_ret (results_e rfl rfl rfl (heap_alloc_new w _)) rfl ⟨rfl, (Below.refl _ _).alloc (Nat.le_refl _) _⟩
/-- Who waits in a ring, of the first ones. -/
def stX (T : List (Sl × Th)) (L : List (Sl × Lk)) (j : Nat) : List Int := ((List.range j).map (fun i : Nat => (i : Int) + 1)).filter (fun x => ringX T L x T.length x)
theorem stX_succ (T : List (Sl × Th)) (L : List (Sl × Lk)) (j : Nat) : stX T L (j + 1) = if ringX T L ((j : Int) + 1) T.length ((j : Int) + 1) then stX T L j ++ [(j : Int) + 1] else stX T L j := by
  simp only [stX, List.range_succ, List.map_append, List.filter_append, List.map_cons, List.map_nil, List.filter_cons, List.filter_nil]
  split <;> simp
theorem stX_len (T : List (Sl × Th)) (L : List (Sl × Lk)) (j : Nat) : (stX T L j).length ≤ j := by
  have := List.length_filter_le (fun x => ringX T L x T.length x) ((List.range j).map (fun i : Nat => (i : Int) + 1))
  simpa [stX] using this
/-- A list of numbers that comes out: new memory. -/
def OutR (w : World) (l : List Int) (e : Ending) (w' : World) : Prop := ∃ s : Sl, e = .returned (.slice s.ra l.length s.cap) ∧ RI w' s l ∧ (∀ g, s.blk = some g → w.heap.size ≤ g) ∧ Below w.heap.size w w'
set_option maxRecDepth 100000 in
set_option maxHeartbeats 4000000 in
theorem stuck_any (h : BX w b pt pl pg T L G) (hS : ShT T L) :
    Calls Tryd.prog 24 #[.pointer (some ⟨b, 0, none⟩)] w fun e w' => OutR w (stX T L T.length) e w' := by
  have c0 := h.c0
  have lb := heap_lt h.obj
  have tn := h.tn
  have HX : Hid (BX w b pt pl pg T L G) := h
  have HS : Hid (ShT T L) := hS
  clear h hS
  go_enter Tryd.func24, Tryd.ntmps24
  go_wp2
  go_loopw [3, 10] (fun o i wr => ∃ (j : Nat) (s : Sl), i = .int .i64 j ∧ o = .slice s.ra (stX T L j).length s.cap ∧ j ≤ T.length ∧ Hid (RI wr s (stX T L j) ∧ (∀ g, s.blk = some g → w.heap.size ≤ g) ∧ Below w.heap.size w wr)) (fun _ i _ => T.length - (intOf i).toNat)
  case atStart => exact ⟨0, ⟨none, 0⟩, rfl, rfl, Nat.zero_le _, .inl ⟨rfl, rfl⟩, (fun g hg => by cases hg), Below.refl _ _⟩
  case round =>
    obtain ⟨j, s, rfl, rfl, hj, HN⟩ := hrel
    obtain ⟨ra, ca⟩ := s
    by_cases hlt : j < T.length
    · have k1 : (j : Int) < (T.length : Int) := by omega
      have HR : Hid _ := inRing_any (HX.out.below HN.out.2.2) HS.out ((j : Int) + 1)
      have hst := stX_succ T L j
      have hln := stX_len T L j
      go_wp2_with fail
      refine Calls.mono HR.out ?_
      rintro e w2 ⟨rfl, hw2⟩
      rw [hw2]
      clear hw2 HR
      cases hr : ringX T L ((j : Int) + 1) T.length ((j : Int) + 1)
      · rw [hr] at hst
        simp only [Bool.false_eq_true, if_false] at hst
        have HN2 : Hid (RI wr ⟨ra, ca⟩ (stX T L (j + 1)) ∧ (∀ g, Sl.blk ⟨ra, ca⟩ = some g → w.heap.size ≤ g) ∧ Below w.heap.size w wr) := by rw [hst]; exact HN.out
        have HL : Hid ((stX T L (j + 1)).length = (stX T L j).length) := by show _ = _; rw [hst]
        clear hst HN hr
        go_wp2
        go_roundw
        case rel => exact ⟨j + 1, ⟨ra, ca⟩, by go_num, by rw [HL.out], by omega, HN2⟩
        case measure => simp [intOf]; omega
      · rw [hr] at hst
        simp only [if_true] at hst
        have hk : ∀ g, g < wr.heap.size → (wr.alloc (.cells #[.int .i64 ((j : Int) + 1)] 3)).heap[g]? = wr.heap[g]? := fun g hg => Below.heap_alloc _ _ _ hg
        have hz : (wr.alloc (.cells #[.int .i64 ((j : Int) + 1)] 3)).heap.size = wr.heap.size + 1 := World.size_alloc ..
        obtain ⟨hR, hfr, hbl⟩ := HN.out
        obtain ⟨s', w1, hap, h1, h2, h3, h4⟩ := (hR.kept (w' := wr.alloc (.cells #[.int .i64 ((j : Int) + 1)] 3)) (fun g hg => hk g (hR.lt hg))).snoc (by omega) ((j : Int) + 1) wr.heap.size (heap_alloc_new wr _)
        have hbs := hbl.size
        have hb1 : Below w.heap.size w w1 := ⟨h3.os.trans (hbl.alloc hbs _).os, h3.tape.trans (hbl.alloc hbs _).tape, h3.output.trans (hbl.alloc hbs _).output, by have := h3.size; omega, fun k hk' => by
          rw [h2 k (by omega) (fun e => by have := hfr k e; omega), hk k (by omega)]
          exact hbl.block k hk'⟩
        have HN2 : Hid (RI w1 s' (stX T L (j + 1)) ∧ (∀ g, s'.blk = some g → w.heap.size ≤ g) ∧ Below w.heap.size w w1) := ⟨by rw [hst]; exact h1, fun g hg => by
          rcases h4 with h4 | h4
          · exact hfr g (by rw [← h4]; exact hg)
          · rw [h4] at hg
            have := Option.some.inj hg
            omega, hb1⟩
        have HL : Hid ((stX T L (j + 1)).length = (stX T L j).length + 1) := by show _ = _; rw [hst]; simp
        obtain ⟨ra', ca'⟩ := s'
        dsimp only at hap
        clear hst HN hr hR hfr hbl h1 h2 h3 h4 hk hz hb1 hbs
        go_wp2_with (at_builtin; refine stop_of ?_)
        unfold Hid
        refine wpList_append_known _ rfl _ _ 62 62 rfl _ _ rfl rfl (hap _) ?_
        clear hap
        go_wp2
        go_roundw
        case rel => exact ⟨j + 1, ⟨ra', ca'⟩, by go_num, by rw [HL.out], by omega, HN2⟩
        case measure => simp [intOf]; omega
    · have k1 : ¬ (j : Int) < (T.length : Int) := by omega
      have hjl : j = T.length := by omega
      have HF : Hid (OutR w (stX T L T.length) (.returned (.slice ra (stX T L j).length ca)) wr) := by
        rw [hjl] at HN ⊢
        exact ⟨⟨ra, ca⟩, rfl, HN.out⟩
      clear hjl HN
      go_wp2
      go_ret
      exact HF.out
end
end Go.Proofs.YtdlnkdcgipaoeaaDoor
