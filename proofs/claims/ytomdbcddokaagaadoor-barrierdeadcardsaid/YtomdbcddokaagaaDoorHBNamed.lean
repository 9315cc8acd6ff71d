/- The cells that some holders name. -/
import Derived.Test.YtomdbcddokaagaaDoorGD
namespace Go.Proofs.YtomdbcddokaagaaDoor
open Go.RowKit Go.Shelf

attribute [local go_sem] Oper.semAt_some
/-- What stands while named runs: f says who is named so far. -/
structure IN (w : World) (Z : Nat) (p : Vp) (v : Vw) (fc : Nat) (lb : Array Value) (f : Nat → Bool) (W : World) : Prop where
  z : w.heap.size + 2 < Z
  b : Below w.heap.size w W
  v0 : VB W w.heap.size p v
  c : Boxed W (w.heap.size + 1) 114 (.func (.func fc) #[] lb)
  o : DR W 4 (w.heap.size + 2) v.h.length (fun k u => u = .bool (f k))
  q : Boxed W Z 73 (.slice (some ⟨w.heap.size + 2, 0, none⟩) v.h.length v.h.length)
  v4 : VB W (Z + 1) p v
theorem VB.at7 {w : World} {b : Nat} {p : Vp} {v : Vw} (h : VB w b p v) : w.cell? ⟨b, 0, none⟩ = some (.slice p.cr v.h.length p.cc) ∧ w.cell? ⟨b, 1, none⟩ = some (.int .u8 v.ph) ∧ w.cell? ⟨b, 2, none⟩ = some (.int .i64 v.sw) ∧ w.cell? ⟨b, 3, none⟩ = some (.slice p.yr v.grey.length p.yc) ∧ w.cell? ⟨b, 4, none⟩ = some (.slice p.gr v.gl.length p.gc) ∧ w.cell? ⟨b, 5, none⟩ = some (.int .i64 v.laid) ∧ w.cell? ⟨b, 6, none⟩ = some (.slice p.lr v.lanes.length p.lc) := by
  unfold VB Vp.cells at h
  simp [World.cell?, h]
theorem IN.kc {w : World} {Z : Nat} {p : Vp} {v : Vw} {fc : Nat} {lb : Array Value} {f : Nat → Bool} {W W' : World} {N : Nat} (h : IN w Z p v fc lb f W) (hk : Kc N W W') (hN : w.heap.size ≤ N) : IN w Z p v fc lb f W' :=
  ⟨h.z, h.b.trans (hk.1.mono hN), h.v0.kc hk, hk.2 _ _ _ _ h.c, h.o.kc hk, hk.2 _ _ _ _ h.q, h.v4.kc hk⟩
theorem IN.f {w : World} {Z : Nat} {p : Vp} {v : Vw} {fc : Nat} {lb : Array Value} {f g : Nat → Bool} {W : World} (h : IN w Z p v fc lb f W) (hf : ∀ c, f c = g c) : IN w Z p v fc lb g W :=
  ⟨h.z, h.b, h.v0, h.c, h.o.mono (fun k u _ hu => by rw [hu, hf]), h.q, h.v4⟩
theorem IN.set {w : World} {Z : Nat} {p : Vp} {v : Vw} {fc : Nat} {lb : Array Value} {f g : Nat → Bool} {W : World} (h : IN w Z p v fc lb f W) {k : Nat} (hg : ∀ c, c ≠ k → f c = g c) (hk : g k = true) : IN w Z p v fc lb g (W.setCell ⟨w.heap.size + 2, k, none⟩ (.bool true)) ∧ Nk W (W.setCell ⟨w.heap.size + 2, k, none⟩ (.bool true)) := by
  have hb : ∀ {l : Nat} {ob : Obj}, W.heap[l]? = some ob → l ≠ w.heap.size + 2 → (W.setCell ⟨w.heap.size + 2, k, none⟩ (.bool true)).heap[l]? = some ob := fun {l} {ob} hl hne => by
    exact (Below.heap_setCell _ _ _ l hne).trans hl
  have hz := h.z
  refine ⟨⟨h.z, h.b.setCell (by simp) _, hb h.v0 (by omega), hb h.c (by omega), h.o.set (fun c u hc hu => by rw [hu, hg c hc]) (by rw [hk]), hb h.q (by omega), hb h.v4 (by omega)⟩, fun l ob ho hl => hb hl ?_⟩
  rintro rfl
  obtain ⟨cs, h1, _⟩ := h.o
  rw [hl] at h1
  cases h1
  cases ho
theorem wr_set {W : World} {ra : Option Addr} {ws : List Int} {t g n k : Nat} {f : Nat → Bool} {u : Value} (h : WR W ra ws) (hd : DR W t g n (fun k u => u = .bool (f k))) : WR (W.setCell ⟨g, k, none⟩ u) ra ws := by
  obtain ⟨b, o, h1, h2⟩ := h
  refine ⟨b, o, h1, fun j x hx => ?_⟩
  obtain ⟨g1, g2, g3⟩ := h2 j x hx
  have hne : b ≠ g := by
    rintro rfl
    obtain ⟨cs, e1, e2, e3⟩ := hd
    unfold World.cell? at g2
    simp only [e1] at g2
    have := e3 _ _ g2
    cases this
  have hh : (W.setCell ⟨g, k, none⟩ u).heap[b]? = W.heap[b]? := Below.heap_setCell _ _ _ b hne
  refine ⟨?_, ?_, g3⟩
  · have : (W.setCell ⟨g, k, none⟩ u).heap.size = W.heap.size := by simp [World.setCell]
    omega
  · unfold World.cell? at g2 ⊢
    rw [hh]
    exact g2
set_option maxRecDepth 100000 in
set_option maxHeartbeats 4000000 in
theorem named_any (p : Vp) (v : Vw) (w : World) (fc : Nat) (lb : Array Value) (cf : Hd → Bool) (hV : VL w p v) (hT : Tab w) (hok : wordsOk v = true) (eg : ∀ args W, (callFunc fc args).run Tryd.prog W = .ok (.enter fc args) W)
    (hC : ∀ W x, Below w.heap.size w W → x ∈ holdersM v → Calls Tryd.prog fc (#[hdV x] ++ lb) W fun e w' => e = .returned (.bool (cf x)) ∧ Below W.heap.size W w') :
    Calls Tryd.prog 55 #[.agg (p.cells v), .func (.func fc) #[] lb] w fun e w' => e = .returned (.slice (some ⟨w.heap.size + 2, 0, none⟩) v.h.length v.h.length) ∧ Below w.heap.size w w' ∧ DR w' 4 (w.heap.size + 2) v.h.length (fun k u => u = .bool (namedM v cf k)) := by
  have HC : Hid (∀ W x, Below w.heap.size w W → x ∈ holdersM v → Calls Tryd.prog fc (#[hdV x] ++ lb) W fun e w' => e = .returned (.bool (cf x)) ∧ Below W.heap.size W w') := hC
  have HG : Hid (∀ args W, (callFunc fc args).run Tryd.prog W = .ok (.enter fc args) W) := eg
  clear hC eg
  refine (callsIn_wide (n := 7)).1 ?_
  refine callsIn_of_wp_marks Tryd.func55 rfl trivial ?_ rfl
  simp only [Tryd.ntmps55, List.size_toArray, List.length_cons, List.length_nil, Nat.reduceAdd, Nat.reduceSub, Array.replicate_succ, Array.replicate_zero, List.push_toArray, List.append_toArray, List.nil_append, List.cons_append]
  have hl := hV.hl
  obtain ⟨i0, hi0, hz0, hz1, hz2⟩ := info_parts infoBool
  obtain ⟨W1, hW1⟩ : ∃ W1, (w.alloc (.cells (p.cells v) 28)).alloc (.cells #[.func (.func fc) #[] lb] 114) = W1 := ⟨_, rfl⟩
  have s1 : W1.heap.size = w.heap.size + 2 := by rw [← hW1, World.size_alloc, World.size_alloc]
  have b1 : Below w.heap.size w W1 := by rw [← hW1]; exact ((Below.refl _ w).alloc (Nat.le_refl _) _).alloc (by simp) _
  have v1 : VB W1 w.heap.size p v := by unfold VB; rw [← hW1]; exact (Below.heap_alloc _ _ _ (by simp)).trans (World.alloc_heap_new w _)
  have c1 : Boxed W1 (w.heap.size + 1) 114 (.func (.func fc) #[] lb) := by
    have := Boxed.new (w.alloc (.cells (p.cells v) 28)) 114 (.func (.func fc) #[] lb)
    rw [World.size_alloc, hW1] at this
    exact this
  obtain ⟨w2, hrun, hown, hgr⟩ := run_make_full (P := Tryd.prog) W1 (w.heap.size + 2) 73 4 i0 (.bool false) 1 Tryd.underlying73 hi0 hz0 hz1 .i64 .i64 v.h.length (by rw [hz2]; omega) (by unfold maxLen; omega) (by omega)
  have hd2 := row_made hown (false_made _)
  have b2 : Below W1.heap.size W1 w2 := grown_low hgr (fun g hg => by cases hg) (Nat.le_refl _)
  rw [s1] at hrun hd2
  have ld2 := hd2.lt
  have HD : Hid (DR w2 4 (w.heap.size + 2) v.h.length (fun _ u => u = .bool false)) := hd2
  have HB2 : Hid (Below W1.heap.size W1 w2) := b2
  have c0 := v1.at.1
  have v2 : VB w2 w.heap.size p v := (b2.block _ (by omega)).trans v1
  have cc2 : Boxed w2 (w.heap.size + 1) 114 (.func (.func fc) #[] lb) := (b2.block _ (by omega)).trans c1
  have v3 : VB (w2.alloc (.cells #[.slice (some ⟨w.heap.size + 2, 0, none⟩) v.h.length v.h.length] 73)) w.heap.size p v := (Below.heap_alloc _ _ _ (by omega)).trans v2
  obtain ⟨d0, d1, d2, d3, d4, d5, d6⟩ := v3.at7
  clear hd2 hgr hown
  unfold Vp.cells at hW1
  unfold Vp.cells
  gi_wp2_with (first | rw [hW1] | fail)
  refine ⟨trivial, ?_⟩
  refine (holders_in _ p v _).mono ?_
  rintro e w' ⟨rfl, rfl⟩
  gi_wp2
  obtain ⟨W0, hW0e⟩ : ∃ W0, ((w2.alloc (.cells #[.slice (some ⟨w.heap.size + 2, 0, none⟩) v.h.length v.h.length] 73)).alloc (.cells (p.cells v) 28)) = W0 := ⟨_, rfl⟩
  have hsz : W0.heap.size = w2.heap.size + 2 := by rw [← hW0e, World.size_alloc, World.size_alloc]
  have b20 : Below w2.heap.size w2 W0 := by rw [← hW0e]; exact ((Below.refl _ w2).alloc (Nat.le_refl _) _).alloc (by simp) _
  have hi0 : IN w w2.heap.size p v fc lb (nmTo v cf 0) W0 := by
    refine ⟨ld2, b1.trans ((HB2.out.mono (by omega)).trans (b20.mono (by omega))), (b20.block _ (by omega)).trans v2, (b20.block _ (by omega)).trans cc2, ?_, ?_, ?_⟩
    · exact (HD.out.kept (b20.block _ ld2)).mono (fun k u _ hu => by rw [hu]; simp [nmTo])
    · rw [← hW0e]
      exact (Boxed.new w2 73 _).alloc _
    · unfold VB; rw [← hW0e]
      have := World.alloc_heap_new (w2.alloc (.cells #[.slice (some ⟨w.heap.size + 2, 0, none⟩) v.h.length v.h.length] 73)) (.cells (p.cells v) 28)
      rwa [World.size_alloc] at this
  rw [hW0e]
  clear hW0e d0 d1 d2 d3 d4 d5 d6 v3 cc2 v2 c0 hrun c1 v1 hW1
  obtain ⟨Z, hZ⟩ : ∃ Z, w2.heap.size = Z := ⟨_, rfl⟩
  rw [hZ] at hi0 hsz ⊢
  clear HD HB2 b2 b20 hZ ld2 b1 s1
  refine range_holders (b := Z + 1) (p := p) (v := v) (by omega) rfl rfl (fun j W => IN w Z p v fc lb (nmTo v cf j) W) (fun _ _ => False)
    (fun x ra ca a' W => ∃ bx, W.heap[bx]? = some (.cells #[.int .u8 x.s, .int .i64 x.i] 113 (0, 0)) ∧ a' = ⟨#[.agg (p.cells v), .func (.func fc) #[] lb, .pointer (some ⟨w.heap.size, 0, none⟩), .pointer (some ⟨w.heap.size + 1, 0, none⟩), .slice none 0 0, .pointer (some ⟨Z, 0, none⟩), .pointer (some ⟨bx, 0, none⟩), .slice ra x.ws.length ca, undef, undef, undef, undef, .pointer (some ⟨w.heap.size, 0, none⟩), .slice p.cr v.h.length p.cc, .int .i64 v.h.length, .slice (some ⟨w.heap.size + 2, 0, none⟩) v.h.length v.h.length, .agg (p.cells v), .func (.func 96) #[] #[.pointer (some ⟨Z + 1, 0, none⟩)], hdV x, .slice ra x.ws.length ca, undef, undef, undef, undef, undef, undef, undef, undef, undef, undef, undef, undef, undef, undef, undef, undef, undef, undef, undef, undef, undef], []⟩)
    (fun x ra ca a' W W' hk h => h.imp fun bx hx => ⟨hk.2 _ _ _ _ hx.1, hx.2⟩)
    (fun j W h => ⟨hV.kc (kc_below (Nat.le_refl _) h.b), h.v4⟩) (fun j W W' hk _ h => h.kc hk (by have := h.z; omega)) (fun _ _ _ _ _ h => h) hi0 ?assign ?body ?done (fun _ _ h => h.elim)
  case assign =>
    intro m l W x ra ca K hK
    unfold hdV
    gi_wp2
    refine hK _ _ ((Below.refl _ _).alloc (Nat.le_refl _) _) ⟨W.heap.size, World.alloc_heap_new _ _, ?_⟩
    rfl
  case body =>
    rintro m l j x W ra ca _ hl hr hi ⟨bx, hbx, rfl⟩ hx hw hlen
    have HI : Hid (IN w Z p v fc lb (nmTo v cf j) W) := hi
    have HX : Hid ((holdersM v)[j]? = some x) := hx
    have HW : Hid (WR W ra x.ws) := hw
    have e0 : W.cell? ⟨bx, 0, none⟩ = some (.int .u8 x.s) := by simp [World.cell?, hbx]
    have e1 : W.cell? ⟨bx, 1, none⟩ = some (.int .i64 x.i) := by simp [World.cell?, hbx]
    have e2 := hi.c.cell
    have eg := HG.out
    have hz := hi.z
    clear hi hx hw hbx
    gi_wp2_with fail
    refine ⟨trivial, fun h => (nomatch h), ?_⟩
    refine (CallsIn.inRound l (callsIn_wide.2 (HC.out W x HI.out.b (List.mem_of_getElem? HX.out)))).mono ?_
    rintro e W1 ⟨rfl, hb1⟩
    have HI1 : Hid (IN w Z p v fc lb (nmTo v cf j) W1) := HI.out.kc (kc_below (N := w.heap.size) HI.out.b.size hb1) (Nat.le_refl _)
    have HW1 : Hid (WR W1 ra x.ws) := HW.out.below hb1
    have HN1 : Hid (Nk W W1) := nk_below hb1
    clear hb1 HI HW e0 e1 e2 eg
    cases hcf : cf x
    · have HE : Hid (IN w Z p v fc lb (nmTo v cf (j + 1)) W1) := HI1.out.f (fun c => by rw [nmTo_more HX.out, hcf]; simp)
      gi_wp2
      refine ⟨HN1.out, ?_, HE.out⟩
      have := HE.out.v4; have := (Array.getElem?_eq_some_iff.1 this).1; omega
    · have HF : Hid (∀ c, nmTo v cf (j + 1) c = (nmTo v cf j c || nmIn x.ws x.ws.length c)) := fun c => by rw [nmTo_more HX.out, hcf]; simp
      gi_wp2
      gi_loopw [26, 9, 10, 11] (fun i _ _ _ wr => ∃ k : Nat, i = .int .i64 k ∧ k ≤ x.ws.length ∧ Hid (IN w Z p v fc lb (fun c => nmTo v cf j c || nmIn x.ws k c) wr) ∧ Hid (Nk W wr) ∧ Hid (WR wr ra x.ws)) (fun i _ _ _ _ => x.ws.length - (intOf i).toNat)
      case atStart => exact ⟨0, rfl, Nat.zero_le _, HI1.out.f (fun c => by simp [nmIn]), HN1, HW1⟩
      case round =>
        obtain ⟨k, rfl, hk, HIr, HNr, HWr⟩ := hrel
        by_cases hkl : k < x.ws.length
        · have k1 : (k : Int) < (x.ws.length : Int) := by omega
          obtain ⟨y, hy⟩ : ∃ y, x.ws[k]? = some y := ⟨_, List.getElem?_eq_getElem hkl⟩
          obtain ⟨bb, o, hor, hcs⟩ := HWr.out
          have hra : ra = some ⟨bb, o, none⟩ := hor.resolve_left (by omega)
          subst hra
          obtain ⟨g1, y2, ok⟩ := hcs k y hy
          have HY : Hid (x.ws[k]? = some y) := hy
          have HO : Hid (Rng y) := ok
          have HTr : Hid (Tab wr) := hT.below HIr.out.b
          have HFi : Hid (fitsW v.h.length y = true) := fits_of hok HX.out hy
          clear hy hcs hor ok
          gi_wp2_with fail
          refine ⟨trivial, fun h => (nomatch h), ?_⟩
          refine (CallsIn.inRound l (callsIn_wide.2 (cell_any y _ HO.out HTr.out))).mono ?_
          rintro e w' ⟨rfl, rfl⟩
          cases hrf : refB y
          · have HE : Hid (IN w Z p v fc lb (fun c => nmTo v cf j c || nmIn x.ws (k + 1) c) w') := HIr.out.f (fun c => by rw [nmIn_more HY.out, refs_none hrf]; simp)
            gi_wp2
            go_roundw
            case rel => exact ⟨k + 1, by go_num, by omega, HE, HNr, HWr⟩
            case measure => simp [intOf]; omega
          · obtain ⟨cN, hc1, hc2, hc3⟩ := refs_some HFi.out hrf
            have HE := HIr.out.set (k := cN) (g := fun c => nmTo v cf j c || nmIn x.ws (k + 1) c) (fun c hc => by
              have e : (some cN == some c) = false := by simpa using Ne.symm hc
              simp only [nmIn_more HY.out, hc1, e, Bool.or_false]) (by simp [nmIn_more HY.out, hc1])
            have HE1 : Hid (IN w Z p v fc lb (fun c => nmTo v cf j c || nmIn x.ws (k + 1) c) (w'.setCell ⟨w.heap.size + 2, cN, none⟩ (.bool true))) := HE.1
            have HE2 : Hid (Nk W (w'.setCell ⟨w.heap.size + 2, cN, none⟩ (.bool true))) := nk_t HNr.out HE.2
            have HE3 : Hid (WR (w'.setCell ⟨w.heap.size + 2, cN, none⟩ (.bool true)) (some ⟨bb, o, none⟩) x.ws) := wr_set HWr.out HIr.out.o
            obtain ⟨u0, hu0, _⟩ := HIr.out.o.cell hc2
            have hfz := HIr.out.o.fz cN
            have hq := HIr.out.q.cell
            have k2 : (cN : Int) < (v.h.length : Int) := by omega
            clear HE hc1
            rw [hc3]
            gi_wp2
            go_roundw
            case rel => exact ⟨k + 1, by go_num, by omega, HE1, HE2, HE3⟩
            case measure => simp [intOf]; omega
        · have k1 : ¬ (k : Int) < (x.ws.length : Int) := by omega
          have HE : Hid (IN w Z p v fc lb (nmTo v cf (j + 1)) wr) := HIr.out.f (fun c => by rw [HF.out, show x.ws.length = k by omega])
          gi_wp2
          refine ⟨HNr.out, ?_, HE.out⟩
          have := HE.out.v4; have := (Array.getElem?_eq_some_iff.1 this).1; omega
  case done =>
    intro W hi hD
    have hq := hi.q.cell
    have hz := hi.z
    gi_wp2
    have hk : Kc w.heap.size W (W.putObj W0.heap.size (.deferred none)) := kc_put (by omega) hD rfl
    refine ⟨by simp, .inl ⟨_, _, rfl, run_takeDeferred hD, ?_⟩⟩
    refine ⟨_, results_tmp rfl _ _ _, rfl, hi.b.trans hk.1, (hi.o.kc hk).mono (fun k u _ hu => by rw [hu, nmTo_all])⟩
end Go.Proofs.YtomdbcddokaagaaDoor
