/- The document's book: End. -/
import Derived.Test.YtdlnkdcgipaoeaaDoorGI
namespace Go.Proofs.YtdlnkdcgipaoeaaDoor
open Go.RowKit

section
variable {w w1 : World} {r : Nat} {pt pl pg : Sl} {T : List Dt} {L : List (Sl × Dl)} {G : List Int}
theorem DX.enT (h : DX w r pt pl pg T L G) {i gt : Nat} {x : Dt} (c : Bool) (d e : Int) (hi : T[i]? = some x) (hg : pt.ra = some ⟨gt, 0, none⟩) :
    DX (((w.setCell ⟨gt, i * 5 + 2, none⟩ (.bool c)).setCell ⟨gt, i * 5 + 3, none⟩ (.int .u64 d)).setCell ⟨gt, i * 5 + 4, none⟩ (.int .i64 e)) r pt pl pg (T.set i ⟨x.w, x.f, c, d, e⟩) L G ∧ Chg (Fd r pt pl pg L) (Fd r pt pl pg L) w (((w.setCell ⟨gt, i * 5 + 2, none⟩ (.bool c)).setCell ⟨gt, i * 5 + 3, none⟩ (.int .u64 d)).setCell ⟨gt, i * 5 + 4, none⟩ (.int .i64 e)) := by
  have hlt := (List.getElem?_eq_some_iff.1 hi).1
  refine h.turnT (gt := gt) (by rw [Sl.blk, hg]; rfl) List.length_set (fun g hne => by rw [Below.heap_setCell _ _ _ _ hne, Below.heap_setCell _ _ _ _ hne, Below.heap_setCell _ _ _ _ hne]) ((((Below.refl 0 w).setCell (p := ⟨gt, i * 5 + 2, none⟩) (Nat.zero_le _) _).setCell (p := ⟨gt, i * 5 + 3, none⟩) (Nat.zero_le _) _).setCell (p := ⟨gt, i * 5 + 4, none⟩) (Nat.zero_le _) _) ?_
  have ho := h.t
  rw [hg] at ho ⊢
  have e3 := fm_set dc_len T i 2 x { x with en := c } (.bool c) hi (by omega) rfl
  have g3 : (T.set i { x with en := c })[i]? = some { x with en := c } := List.getElem?_set_self hlt
  have e4 := fm_set dc_len _ i 3 _ { x with en := c, wd := d } (.int .u64 d) g3 (by omega) rfl
  rw [List.set_set] at e4
  have g4 : (T.set i { x with en := c, wd := d })[i]? = some { x with en := c, wd := d } := List.getElem?_set_self hlt
  have e5 := fm_set dc_len _ i 4 _ ⟨x.w, x.f, c, d, e⟩ (.int .i64 e) g4 (by omega) rfl
  rw [List.set_set] at e5
  rw [e5, e4, e3]
  exact own_set (own_set (own_set ho _) _) _
end
theorem zT_nil' (T : List Dt) (t : Int) (L : List Dl) : zT T (dS t L 0) = T := by
  rw [show dS t L 0 = [] by simp [dS]]
  exact zT_nil T
theorem made_bools (n : Nat) (h : n ≤ 8) (W : World) : (Instr.makeSlice 132 (.int .i64 ((n : Int) + 1)) (.int .i64 ((n : Int) + 1))).run Tryd.prog W = .ok (.slice (some ⟨W.heap.size, 0, none⟩) (n + 1) (n + 1)) (W.alloc (.cells ((dBl [] (n + 1)).map Value.bool).toArray 4)) := by
  have : n = 0 ∨ n = 1 ∨ n = 2 ∨ n = 3 ∨ n = 4 ∨ n = 5 ∨ n = 6 ∨ n = 7 ∨ n = 8 := by omega
  rcases this with rfl | rfl | rfl | rfl | rfl | rfl | rfl | rfl | rfl <;> (show _ = _) <;> kernel_rfl
/-- What is done of an End. -/
structure QV (w wr : World) (r : Nat) (D : Dk) (F0 F : Nat → Prop) (gw : Nat) (bl : List Bool) : Prop where
  d : DB wr r D F
  c : Chg F0 F w wr
  b : wr.heap[gw]? = some (.cells (bl.map Value.bool).toArray 4 (0, 0))
  n : w.heap.size ≤ gw
theorem DB.nb {w : World} {r : Nat} {D : Dk} {F : Nat → Prop} (h : DB w r D F) {g : Nat} (hg : F g) : ∃ cs t, w.heap[g]? = some (.cells cs t (0, 0)) ∧ t ≠ 4 := by
  obtain ⟨pt, pl, pg, L, hX, -, rfl⟩ := h
  rcases hg with (rfl | hg | hg | hg) | hg
  · exact ⟨_, _, hX.obj, by decide⟩
  · obtain ⟨cs, h⟩ := hX.tb hg; exact ⟨_, _, h, by decide⟩
  · obtain ⟨cs, h⟩ := hX.lb hg; exact ⟨_, _, h, by decide⟩
  · obtain ⟨cs, h⟩ := hX.gb hg; exact ⟨_, _, h, by decide⟩
  · obtain ⟨cs, h⟩ := hX.rb hg; exact ⟨_, _, h, by decide⟩
theorem QV.nf {w wr : World} {r : Nat} {D : Dk} {F0 F : Nat → Prop} {gw : Nat} {bl : List Bool} (h : QV w wr r D F0 F gw bl) : ¬ F gw := fun hf => by
  obtain ⟨cs, t, h1, h2⟩ := h.d.nb hf
  exact ty_ne h1 h.b h2 rfl
theorem qv_start {w w1 : World} {r : Nat} {pt pl pg : Sl} {T : List Dt} {L : List (Sl × Dl)} {Dl' : List Dl} {G : List Int} {F : Nat → Prop} {bl : List Bool} (h1 : DX w1 r pt pl pg T L G) (h2 : Chg (Fd r pt pl pg L) (Fd r pt pl pg L) w w1) (hL : L.map (·.2) = Dl') (hF : F = Fd r pt pl pg L) (hs : w1.heap.size = w.heap.size) : ∃ FF, QV w (w1.alloc (.cells (bl.map Value.bool).toArray 4)) r ⟨T, Dl', G⟩ F FF w.heap.size bl := by
  subst hF
  have hb : Below w1.heap.size w1 (w1.alloc (.cells (bl.map Value.bool).toArray 4)) := (Below.refl _ _).alloc (Nat.le_refl _) _
  refine ⟨_, ⟨pt, pl, pg, L, h1.below hb, hL, rfl⟩, h2.trans (Chg.quiet _ hb), ?_, Nat.le_refl _⟩
  rw [← hs]
  exact heap_alloc_new w1 _
theorem QV.hand {w wr w2 : World} {r : Nat} {D D' : Dk} {F0 F : Nat → Prop} {gw : Nat} {bl : List Bool} (h : QV w wr r D F0 F gw bl) (hR : DR2 r D' F wr w2) : ∃ F', QV w w2 r D' F0 F' gw bl := by
  obtain ⟨F', h1, h2⟩ := hR
  exact ⟨F', h1, h.c.trans h2, (h2.1 gw (heap_lt h.b) h.nf).trans h.b, h.n⟩
theorem QV.mark {w wr : World} {r : Nat} {D : Dk} {F0 F : Nat → Prop} {gw : Nat} {bl : List Bool} (h : QV w wr r D F0 F gw bl) (m : Nat) : QV w (wr.setCell ⟨gw, m, none⟩ (.bool true)) r D F0 F gw (bl.set m true) := by
  have hk : ∀ g, g ≠ gw → (wr.setCell ⟨gw, m, none⟩ (.bool true)).heap[g]? = wr.heap[g]? := fun g hg => Below.heap_setCell _ _ _ _ hg
  refine ⟨h.d.kept (fun g hg => hk g (fun e => h.nf (by rw [← e]; exact hg))), ⟨fun g h1 h2 => (hk g (fun e => by have := h.n; omega)).trans (h.c.1 g h1 h2), h.c.2.1.setCell (p := ⟨gw, m, none⟩) (Nat.zero_le _) _, h.c.2.2⟩, ?_, h.n⟩
  rw [set_atC h.b, List.map_set]
  simp
structure Q2 (w wr : World) (r : Nat) (D : Dk) (F0 F : Nat → Prop) (gw : Nat) (bl : List Bool) (s : Sl) (o : List Int) : Prop where
  q : QV w wr r D F0 F gw bl
  r : RI wr s o
  f : ∀ g, s.blk = some g → w.heap.size ≤ g ∧ ¬ F g
section
variable {w wr w1 : World} {r : Nat} {D : Dk} {F0 F : Nat → Prop} {gw : Nat} {bl : List Bool} {s s' : Sl} {o o' : List Int}
theorem Q2.zero (h : Q2 w wr r D F0 F gw bl s o) {pt pl pg : Sl} {L : List (Sl × Dl)} (hX : DX wr r pt pl pg D.t L D.g) (hL : L.map (·.2) = D.l) (hF : F = Fd r pt pl pg L) {k gt : Nat} {x : Dt} (hk : D.t[k]? = some x) (hp : pt.ra = some ⟨gt, 0, none⟩) : Q2 w (wr.setCell ⟨gt, k * 5, none⟩ (.int .i64 0)) r ⟨D.t.set k (zr x), D.l, D.g⟩ F0 F gw bl s o := by
  obtain ⟨h1, h2⟩ := hX.wT 0 hk hp
  rw [← hF] at h2
  exact ⟨⟨⟨pt, pl, pg, L, h1, hL, hF⟩, h.q.c.trans h2, (h2.1 gw (heap_lt h.q.b) h.q.nf).trans h.q.b, h.q.n⟩, h.r.kept (fun g hg => h2.1 g (h.r.lt hg) (h.f g hg).2), h.f⟩
theorem Q2.mark (h : Q2 w wr r D F0 F gw bl s o) (m : Nat) : Q2 w (wr.setCell ⟨gw, m, none⟩ (.bool true)) r D F0 F gw (bl.set m true) s o :=
  ⟨h.q.mark m, h.r.kept (fun g hg => Below.heap_setCell _ _ _ _ (by
    obtain ⟨cs, hc⟩ := h.r.bt hg
    exact ty_ne hc h.q.b (by decide))), h.f⟩
theorem Q2.app (h : Q2 w wr r D F0 F gw bl s o) {ob : Obj} (hR : RI w1 s' o') (hk : ∀ g, g < (wr.alloc ob).heap.size → s.blk ≠ some g → w1.heap[g]? = (wr.alloc ob).heap[g]?) (hb : Below 0 (wr.alloc ob) w1) (hq : s'.blk = s.blk ∨ s'.blk = some (wr.alloc ob).heap.size) : Q2 w w1 r D F0 F gw bl s' o' := by
  have hz : (wr.alloc ob).heap.size = wr.heap.size + 1 := World.size_alloc ..
  have hk2 : ∀ g, g < wr.heap.size → s.blk ≠ some g → w1.heap[g]? = wr.heap[g]? := fun g hg hn => (hk g (by omega) hn).trans (Below.heap_alloc _ _ _ hg)
  have hks : ∀ g, F g → w1.heap[g]? = wr.heap[g]? := fun g hg => hk2 g (h.q.d.lt hg) (fun e => (h.f g e).2 hg)
  refine ⟨⟨h.q.d.kept hks, ⟨fun g hg hn => ?_, h.q.c.2.1.trans (((Below.refl 0 wr).alloc (Nat.zero_le _) _).trans hb), h.q.c.2.2⟩, (hk2 gw (heap_lt h.q.b) (fun e => ?_)).trans h.q.b, h.q.n⟩, hR, fun g hg => ?_⟩
  · have hs := h.q.c.2.1.size
    rw [hk2 g (by omega) (fun e => by have := (h.f g e).1; omega)]
    exact h.q.c.1 g hg hn
  · obtain ⟨cs, hc⟩ := h.r.bt e
    exact ty_ne hc h.q.b (by decide) rfl
  · rcases hq with hq | hq
    · exact h.f g (by rw [← hq]; exact hg)
    · rw [hq] at hg
      have e := Option.some.inj hg
      have hs := h.q.c.2.1.size
      exact ⟨by omega, fun hf => by have := h.q.d.lt hf; omega⟩
end
def dDone (D : Dk) (i : Nat) (x : Dt) (wd er : Int) : List Int × Dk :=
  (dO ((i : Int) + 1) (dS ((i : Int) + 1) D.l D.l.length) (zT (endD D i x wd er) (dS ((i : Int) + 1) D.l D.l.length)) D.t.length, ⟨dT2 ((i : Int) + 1) (zT (endD D i x wd er) (dS ((i : Int) + 1) D.l D.l.length)) D.t.length, dLs ((i : Int) + 1) D.l D.l.length, D.g⟩)
def DER (r : Nat) (D' : Dk) (F : Nat → Prop) (l : List Int) (er : Int) (w : World) (e : Ending) (w' : World) : Prop := ∃ s F', e = .returned (.tuple #[.slice s.ra l.length s.cap, .int .i64 er]) ∧ RI w' s l ∧ (∀ g, s.blk = some g → w.heap.size ≤ g ∧ ¬ F' g) ∧ DB w' r D' F' ∧ Chg F F' w w'

set_option maxRecDepth 100000 in
set_option maxHeartbeats 16000000 in
theorem dEnd_ok {w : World} {r : Nat} {D : Dk} {F : Nat → Prop} (h : DB w r D F) (hS : Sd D) {i : Nat} {x : Dt} (hx : D.t[i]? = some x) (hgo : (!x.en && x.w == 0) = true) (wd : Int) :
    Calls Tryd.prog 33 #[.pointer (some ⟨r, 0, none⟩), .int .i64 ((i : Int) + 1), .int .u64 wd, .int .i64 0] w fun e w' => DER r (dDone D i x wd 0).2 F (dDone D i x wd 0).1 0 w e w' := by
  have hlt : i < D.t.length := (List.getElem?_eq_some_iff.1 hx).1
  obtain ⟨pt, pl, pg, L, hX, hL, hF⟩ := h
  have HI : Hid _ := dIs_any hX ((i : Int) + 1)
  rw [show isB D.t.length ((i : Int) + 1) = true by simp [isB]; omega] at HI
  have HGo : Hid _ := dGoes_any hX hx
  rw [hgo] at HGo
  have htn := hX.tn
  have hln : D.l.length ≤ 8 := by rw [← hL, List.length_map]; exact hX.ln
  obtain ⟨gt, hpt, hpb, lgt, ct, hct, -, -, ht2, ht3, ht4⟩ := hX.tf hx
  have c0 := hX.c0
  rw [hpt] at c0
  have lb := heap_lt hX.obj
  have d2 := heap_cell hct ht2
  have d3 := heap_cell hct ht3
  have d4 := heap_cell hct ht4
  have fv : ∀ n, w.frozen? ⟨gt, n, none⟩ = false := fun n => by simp [World.frozen?, hct]
  have hw1 : IntKind.i64.wrap ((i : Int) + 1 - 1) = (i : Int) := by
    rw [show (i : Int) + 1 - 1 = i by omega]
    exact IntWalk.i64_in _ (by omega)
  have z1 : (0 : Int) ≤ (i : Int) := by omega
  have z2 : (i : Int) < (D.t.length : Int) := by omega
  have hE := hX.enT true wd 0 hx hpt
  have hmk := made_bools D.t.length htn (((w.setCell ⟨gt, i * 5 + 2, none⟩ (.bool true)).setCell ⟨gt, i * 5 + 3, none⟩ (.int .u64 wd)).setCell ⟨gt, i * 5 + 4, none⟩ (.int .i64 0))
  have e0 : (((w.setCell ⟨gt, i * 5 + 2, none⟩ (.bool true)).setCell ⟨gt, i * 5 + 3, none⟩ (.int .u64 wd)).setCell ⟨gt, i * 5 + 4, none⟩ (.int .i64 0)).cell? ⟨r, 0, none⟩ = some (.slice (some ⟨gt, 0, none⟩) D.t.length pt.cap) := by
    have := hE.1.c0
    rw [List.length_set, hpt] at this
    exact this
  have HQ0 : Hid (∃ FF, QV w ((((w.setCell ⟨gt, i * 5 + 2, none⟩ (.bool true)).setCell ⟨gt, i * 5 + 3, none⟩ (.int .u64 wd)).setCell ⟨gt, i * 5 + 4, none⟩ (.int .i64 0)).alloc (.cells ((dBl [] (D.t.length + 1)).map Value.bool).toArray 4)) r ⟨zT (endD D i x wd 0) (dS ((i : Int) + 1) D.l 0), dLs ((i : Int) + 1) D.l 0, D.g⟩ F FF w.heap.size (dBl (dS ((i : Int) + 1) D.l 0) (D.t.length + 1))) := by
    rw [zT_nil', dLs_zero]
    exact qv_start (L := L) hE.1 hE.2 hL hF (by simp)
  have HS : Hid (Sd D) := hS
  obtain ⟨T0, hT0⟩ : ∃ T0, T0 = endD D i x wd 0 := ⟨_, rfl⟩
  have tl0 : Hid (T0.length = D.t.length) := by show _ = _; rw [hT0, endD_len]
  unfold dDone
  rw [← hT0] at HQ0 ⊢
  have HN : Hid (∃ n, n = D.t.length) := ⟨_, rfl⟩
  have HT : Hid (D.t.length = D.t.length) := rfl
  obtain ⟨n, hn⟩ : ∃ n, n = D.t.length := ⟨_, rfl⟩
  have HNN : Hid (D.t.length = n) := hn.symm
  rw [← hn] at c0 z2 htn hmk e0 HQ0 tl0 ⊢
  generalize hF0 : F = F0 at HQ0 ⊢
  clear hX hE hct ht2 ht3 ht4 hpt hpb hL hS hx hgo hn hT0 hF hF0 HN HT
  go_enter Tryd.func33, Tryd.ntmps33
  go_wp2_with fail
  refine Calls.mono HI.out ?_
  rintro e w2 ⟨rfl, hw2⟩
  rw [hw2]
  clear hw2
  go_wp2_with fail
  refine Calls.mono HGo.out ?_
  rintro e w2 ⟨rfl, hw2⟩
  rw [hw2]
  clear hw2
  go_wp2
  go_loopw [13] (fun v wr => ∃ (j : Nat), v = .int .i64 j ∧ j ≤ D.l.length ∧ Hid (∃ FF, QV w wr r ⟨zT T0 (dS ((i : Int) + 1) D.l j), dLs ((i : Int) + 1) D.l j, D.g⟩ F0 FF w.heap.size (dBl (dS ((i : Int) + 1) D.l j) (n + 1)))) (fun v _ => D.l.length - (intOf v).toNat)
  case atStart => exact ⟨0, rfl, Nat.zero_le _, HQ0⟩
  case round =>
    obtain ⟨j, rfl, hj, HV⟩ := hrel
    obtain ⟨FF, hV⟩ := HV.out
    have HVV : Hid (QV w wr r ⟨zT T0 (dS ((i : Int) + 1) D.l j), dLs ((i : Int) + 1) D.l j, D.g⟩ F0 FF w.heap.size (dBl (dS ((i : Int) + 1) D.l j) (n + 1))) := hV
    obtain ⟨pt', pl', pg', L', hX', hL', hF'⟩ := hV.d
    have hlen : L'.length = D.l.length := by
      have := congrArg List.length hL'
      simp only [List.length_map] at this
      rw [this, dLs_len]
    have c1' := hX'.c1
    rw [hlen] at c1'
    have lb' := heap_lt hX'.obj
    clear HV hV
    by_cases hjl : j < D.l.length
    · have k1 : (j : Int) < (D.l.length : Int) := by omega
      have k0 : (0 : Int) ≤ (j : Int) := by omega
      obtain ⟨y, hy⟩ : ∃ y, D.l[j]? = some y := ⟨_, List.getElem?_eq_getElem hjl⟩
      obtain ⟨y', hy'⟩ : ∃ y', L'[j]? = some y' := ⟨_, List.getElem?_eq_getElem (by omega)⟩
      have hyy : y'.2 = y := by
        have e1 : (L'.map (·.2))[j]? = some y'.2 := by rw [List.getElem?_map, hy']; rfl
        rw [hL', dLs_at, hy] at e1
        exact (Option.some.inj e1).symm
      obtain ⟨gl, hp, -, lg, cs, hcs, hc0, -⟩ := hX'.lf hy'
      have d0 := heap_cell hcs hc0
      rw [hp] at c1'
      rw [hyy] at d0
      by_cases hh : y.ho = ((i : Int) + 1)
      · rw [hh] at d0
        have hr : ∀ z ∈ y.row, 1 ≤ z ∧ z ≤ (T0.length : Int) := by
          rw [tl0.out, ← HNN.out]
          exact (HS.out y (List.mem_of_getElem? hy)).2
        have HH : Hid _ := dHands_any HVV.out.d (sd_step HS.out (tl0.out.trans HNN.out.symm) ((i : Int) + 1) j (dS ((i : Int) + 1) D.l j)) (show (dLs ((i : Int) + 1) D.l j)[j]? = some y by rw [dLs_at]; exact hy)
        rw [hand_step hy hh hr] at HH
        obtain ⟨m, hm, hmn⟩ : ∃ m : Nat, y.row.headD 0 = (m : Int) ∧ m ≤ n := by
          cases hrow : y.row with
          | nil => exact ⟨0, rfl, Nat.zero_le _⟩
          | cons z q =>
            have := hr z (by rw [hrow]; exact List.mem_cons_self)
            have h2 := tl0.out
            exact ⟨z.toNat, by rw [List.headD_cons]; omega, by omega⟩
        have HSs : Hid (dS ((i : Int) + 1) D.l (j + 1) = dS ((i : Int) + 1) D.l j ++ [(m : Int)]) := by
          show _ = _
          rw [dS_succ hy]
          unfold hdS
          rw [if_pos hh, hm]
        rw [hm] at HH
        dsimp only at HH
        have m0 : (0 : Int) ≤ (m : Int) := by omega
        have m1 : (m : Int) < (n : Int) + 1 := by omega
        clear hX' hL' hF' hcs hc0 hp hyy hy' hh hr hm hy
        go_wp2_with fail
        refine Calls.mono HH.out ?_
        rintro e w2 ⟨rfl, hR⟩
        obtain ⟨F2, hV2⟩ := HVV.out.hand hR
        have gb := heap_lt hV2.b
        have cb : ∃ u, w2.cell? ⟨w.heap.size, m, none⟩ = some (.bool u) := ⟨(dBl (dS ((i : Int) + 1) D.l j) (n + 1))[m]'(by simp [dBl]; omega), heap_cell hV2.b (by simp)⟩
        obtain ⟨u, cb⟩ := cb
        have fb : w2.frozen? ⟨w.heap.size, m, none⟩ = false := by simp [World.frozen?, hV2.b]
        have hV3 := hV2.mark m
        rw [dBl_set (by omega), ← HSs.out] at hV3
        have HV3 : Hid _ := hV3
        clear hV2 hR hV3 HH HVV c1' d0 lb' lg
        go_wp2
        go_roundw
        case rel => exact ⟨j + 1, by go_num, by omega, F2, HV3.out⟩
        case measure => simp [intOf]; omega
      · have HV3 : Hid (∃ FF, QV w wr r ⟨zT T0 (dS ((i : Int) + 1) D.l (j + 1)), dLs ((i : Int) + 1) D.l (j + 1), D.g⟩ F0 FF w.heap.size (dBl (dS ((i : Int) + 1) D.l (j + 1)) (n + 1))) := by
          rw [dS_same hy hh, dLs_same hy hh]
          exact ⟨FF, HVV.out⟩
        have hne : (y.ho == ((i : Int) + 1)) = false := by simpa using hh
        generalize y.ho = ho at *
        clear hX' hL' hF' hcs hc0 hp hyy hy' hh hy HVV
        go_wp2
        go_roundw
        case rel => exact ⟨j + 1, by go_num, by omega, HV3⟩
        case measure => simp [intOf]; omega
    · have hjj : j = D.l.length := by omega
      subst hjj
      have k1 : ¬ (D.l.length : Int) < (D.l.length : Int) := by omega
      clear hX' hL' hF' hj hjl
      go_wp2
      obtain ⟨S, hS⟩ : ∃ S, S = dS ((i : Int) + 1) D.l D.l.length := ⟨_, rfl⟩
      obtain ⟨LL, hLL⟩ : ∃ LL, LL = dLs ((i : Int) + 1) D.l D.l.length := ⟨_, rfl⟩
      obtain ⟨T1, hT1⟩ : ∃ T1, T1 = zT T0 S := ⟨_, rfl⟩
      have HSe : Hid (S = dS ((i : Int) + 1) D.l D.l.length ∧ LL = dLs ((i : Int) + 1) D.l D.l.length ∧ T1 = zT T0 S) := ⟨hS, hLL, hT1⟩
      rw [← hS] at HVV
      rw [← hLL] at HVV
      rw [← hT1] at HVV
      have tl1 : Hid (T1.length = n) := by show _ = _; rw [hT1, zT_len]; exact tl0.out
      have HQ1 : Hid (∃ bl, Q2 w wr r ⟨dT2 ((i : Int) + 1) T1 0, LL, D.g⟩ F0 FF w.heap.size bl ⟨none, 0⟩ (dO ((i : Int) + 1) S T1 0) ∧ bl.length = n + 1 ∧ ∀ m, 0 < m → bl[m]? = (dBl S (n + 1))[m]?) := ⟨_, ⟨by rw [dT2_zero]; exact HVV.out, .inl ⟨rfl, rfl⟩, fun g hg => by cases hg⟩, by simp [dBl], fun _ _ => rfl⟩
      clear hS hLL hT1 HVV c1' lb' k1 HQ0
      obtain ⟨wA, hwA⟩ : ∃ wA, wA = wr := ⟨_, rfl⟩
      rw [← hwA] at HQ1 ⊢
      clear hwA
      go_loopw [15, 16] (fun o v wr => ∃ (k : Nat) (s : Sl), v = .int .i64 ((k : Int) + 1) ∧ o = .slice s.ra (dO ((i : Int) + 1) S T1 k).length s.cap ∧ k ≤ n ∧ ∃ bl, Hid (Q2 w wr r ⟨dT2 ((i : Int) + 1) T1 k, LL, D.g⟩ F0 FF w.heap.size bl s (dO ((i : Int) + 1) S T1 k) ∧ bl.length = n + 1 ∧ ∀ m, k < m → bl[m]? = (dBl S (n + 1))[m]?)) (fun _ v _ => n + 1 - (intOf v).toNat)
      case atStart =>
        obtain ⟨bl, hq⟩ := HQ1.out
        exact ⟨0, ⟨none, 0⟩, rfl, rfl, Nat.zero_le _, bl, hq⟩
      case round =>
        obtain ⟨k, s, rfl, rfl, hk, bl, HR⟩ := hrel
        obtain ⟨ra2, ca2⟩ := s
        obtain ⟨pt', pl', pg', L', hX', hL', hF'⟩ := HR.out.1.q.d
        have c0' := hX'.c0
        dsimp only at c0'
        rw [dT2_len, tl1.out] at c0'
        have lb' := heap_lt hX'.obj
        have hol := dO_len ((i : Int) + 1) S T1 k
        generalize hOl : (dO ((i : Int) + 1) S T1 k).length = ol at hol ⊢
        by_cases hkn : k < n
        · have k1 : (k : Int) + 1 ≤ (n : Int) := by omega
          have k0 : (0 : Int) ≤ (k : Int) := by omega
          have k2 : (k : Int) < (n : Int) := by omega
          have k3 : (0 : Int) ≤ (k : Int) + 1 := by omega
          have k4 : (k : Int) + 1 < (n : Int) + 1 := by omega
          have hw2 : IntKind.i64.wrap ((k : Int) + 1 - 1) = (k : Int) := by
            rw [show (k : Int) + 1 - 1 = k by omega]
            exact IntWalk.i64_in _ (by omega)
          obtain ⟨x1, hx1⟩ : ∃ x1, T1[k]? = some x1 := ⟨_, List.getElem?_eq_getElem (by rw [tl1.out]; exact hkn)⟩
          have HTk : Hid (T1[k]? = some x1) := hx1
          have hdt : (dT2 ((i : Int) + 1) T1 k)[k]? = some x1 := by rw [dT2_at hx1]; simp
          obtain ⟨g2, hp2, -, lg2, cs, hcs, hc0, hc1, -⟩ := hX'.tf hdt
          have d0 := heap_cell hcs hc0
          have d1 := heap_cell hcs hc1
          have fz : ∀ m, wr.frozen? ⟨g2, m, none⟩ = false := fun m => by simp [World.frozen?, hcs]
          rw [hp2] at c0'
          have hbk : bl[k + 1]? = some (S.contains ((k : Int) + 1)) := by
            rw [HR.out.2.2 (k + 1) (by omega)]
            simp [dBl, hkn]
          have cb : wr.cell? ⟨w.heap.size, k + 1, none⟩ = some (.bool (S.contains ((k : Int) + 1))) := heap_cell HR.out.1.q.b (by simp [hbk])
          have gb := heap_lt HR.out.1.q.b
          have fb : ∀ m, wr.frozen? ⟨w.heap.size, m, none⟩ = false := fun m => by simp [World.frozen?, HR.out.1.q.b]
          have hZ := HR.out.1.zero hX' hL' hF' hdt hp2
          obtain ⟨xw, xf, xe, xd, xr⟩ := x1
          dsimp only at d0 d1
          clear hcs hc0 hc1 hX' hL' hF' hp2 hdt hx1
          by_cases hj : jn ((i : Int) + 1) ⟨xw, xf, xe, xd, xr⟩ = true
          · have hj' := hj
            simp [jn] at hj'
            obtain ⟨rfl, rfl⟩ := hj'
            have hM := hZ.mark (k + 1)
            obtain ⟨W3, hW3⟩ : ∃ W3, W3 = (wr.setCell ⟨g2, k * 5, none⟩ (.int .i64 0)).setCell ⟨w.heap.size, k + 1, none⟩ (.bool true) := ⟨_, rfl⟩
            rw [← hW3] at hM
            have HWE : Hid (W3 = (wr.setCell ⟨g2, k * 5, none⟩ (.int .i64 0)).setCell ⟨w.heap.size, k + 1, none⟩ (.bool true)) := hW3
            have hle : k + 1 < bl.length := by rw [HR.out.2.1]; omega
            have c3 : W3.cell? ⟨w.heap.size, k + 1, none⟩ = some (.bool true) := heap_cell hM.q.b (by simp [hle])
            have gb3 := heap_lt hM.q.b
            obtain ⟨bl3, hbl3⟩ : ∃ bl3, bl3 = bl.set (k + 1) true := ⟨_, rfl⟩
            have HQ3 : Hid (Q2 w W3 r ⟨dT2 ((i : Int) + 1) T1 (k + 1), LL, D.g⟩ F0 FF w.heap.size bl3 ⟨ra2, ca2⟩ (dO ((i : Int) + 1) S T1 k) ∧ bl3.length = n + 1 ∧ ∀ m, k + 1 < m → bl3[m]? = (dBl S (n + 1))[m]?) := by
              subst hbl3
              rw [dT2_succ HTk.out, if_pos hj]
              refine ⟨hM, by rw [List.length_set]; exact HR.out.2.1, fun m hm => ?_⟩
              rw [List.getElem?_set_ne (by omega)]
              exact HR.out.2.2 m (by omega)
            clear hM hZ hbl3 HR hW3
            obtain ⟨s3, w3, hap, h1, h2, h3, h4⟩ := (HQ3.out.1.r.kept (w' := W3.alloc (.cells #[.int .i64 ((k : Int) + 1)] 3)) (fun g hg => Below.heap_alloc _ _ _ (HQ3.out.1.r.lt hg))).snoc (by omega) ((k : Int) + 1) W3.heap.size (heap_alloc_new W3 _)
            have HO : Hid (dO ((i : Int) + 1) S T1 (k + 1) = dO ((i : Int) + 1) S T1 k ++ [(k : Int) + 1]) := by show _ = _; rw [dO_succ HTk.out, if_pos (by rw [hj]; simp)]
            have HQ4 : Hid (Q2 w w3 r ⟨dT2 ((i : Int) + 1) T1 (k + 1), LL, D.g⟩ F0 FF w.heap.size bl3 s3 (dO ((i : Int) + 1) S T1 (k + 1)) ∧ bl3.length = n + 1 ∧ ∀ m, k + 1 < m → bl3[m]? = (dBl S (n + 1))[m]?) := ⟨by rw [HO.out]; exact HQ3.out.1.app h1 h2 h3 h4, HQ3.out.2⟩
            have HLn : Hid ((dO ((i : Int) + 1) S T1 (k + 1)).length = (dO ((i : Int) + 1) S T1 k).length + 1) := by show _ = _; rw [HO.out, List.length_append]; rfl
            obtain ⟨ra3, ca3⟩ := s3
            dsimp only at hap
            rw [hOl] at hap HLn
            clear h1 h2 h3 h4 HQ3 hj
            go_upto_region 25 with fail
            rw [← HWE.out]
            go_wp2_with (at_builtin; refine stop_of ?_)
            unfold Hid
            refine wpList_append_known _ rfl _ _ 62 62 rfl _ _ rfl rfl (hap _) ?_
            clear hap
            go_wp2
            go_roundw
            case rel => exact ⟨k + 1, ⟨ra3, ca3⟩, by go_num, by rw [HLn.out], by omega, bl3, HQ4⟩
            case measure => simp [intOf]; omega
          · have HT2 : Hid (dT2 ((i : Int) + 1) T1 (k + 1) = dT2 ((i : Int) + 1) T1 k) := by show _ = _; rw [dT2_succ HTk.out, if_neg hj]
            have hjf : jn ((i : Int) + 1) ⟨xw, xf, xe, xd, xr⟩ = false := by simpa using hj
            have HQ3 : Hid (Q2 w wr r ⟨dT2 ((i : Int) + 1) T1 (k + 1), LL, D.g⟩ F0 FF w.heap.size bl ⟨ra2, ca2⟩ (dO ((i : Int) + 1) S T1 k) ∧ bl.length = n + 1 ∧ ∀ m, k + 1 < m → bl[m]? = (dBl S (n + 1))[m]?) := ⟨by rw [HT2.out]; exact HR.out.1, HR.out.2.1, fun m hm => HR.out.2.2 m (by omega)⟩
            clear HR hZ
            cases hcn : S.contains ((k : Int) + 1)
            · rw [hcn] at cb
              have HQ4 : Hid (Q2 w wr r ⟨dT2 ((i : Int) + 1) T1 (k + 1), LL, D.g⟩ F0 FF w.heap.size bl ⟨ra2, ca2⟩ (dO ((i : Int) + 1) S T1 (k + 1)) ∧ bl.length = n + 1 ∧ ∀ m, k + 1 < m → bl[m]? = (dBl S (n + 1))[m]?) := by
                rw [dO_succ HTk.out, hcn, hjf]
                exact HQ3.out
              have HO : Hid (dO ((i : Int) + 1) S T1 (k + 1) = dO ((i : Int) + 1) S T1 k) := by show _ = _; rw [dO_succ HTk.out, hcn, hjf]; rfl
              clear HQ3 hcn hjf
              by_cases hx1 : xw = 1
              · subst hx1
                have hxf : (xf == ((i : Int) + 1)) = false := by
                  cases hxx : (xf == ((i : Int) + 1))
                  · rfl
                  · exact absurd (by simp [jn, hxx]) hj
                clear hj
                go_wp2
                go_roundw
                case rel => exact ⟨k + 1, ⟨ra2, ca2⟩, by go_num, by rw [HO.out, hOl], by omega, bl, HQ4⟩
                case measure => simp [intOf]; omega
              · have hxw : (xw == 1) = false := by simpa using hx1
                clear hj hx1
                go_wp2
                go_roundw
                case rel => exact ⟨k + 1, ⟨ra2, ca2⟩, by go_num, by rw [HO.out, hOl], by omega, bl, HQ4⟩
                case measure => simp [intOf]; omega
            · rw [hcn] at cb
              obtain ⟨W3, hW3⟩ : ∃ W3, W3 = wr := ⟨_, rfl⟩
              have HWE : Hid (W3 = wr) := hW3
              obtain ⟨bl3, hbl3⟩ : ∃ bl3, bl3 = bl := ⟨_, rfl⟩
              rw [← hW3, ← hbl3] at HQ3
              obtain ⟨s3, w3, hap, h1, h2, h3, h4⟩ := (HQ3.out.1.r.kept (w' := W3.alloc (.cells #[.int .i64 ((k : Int) + 1)] 3)) (fun g hg => Below.heap_alloc _ _ _ (HQ3.out.1.r.lt hg))).snoc (by omega) ((k : Int) + 1) W3.heap.size (heap_alloc_new W3 _)
              have HO : Hid (dO ((i : Int) + 1) S T1 (k + 1) = dO ((i : Int) + 1) S T1 k ++ [(k : Int) + 1]) := by show _ = _; rw [dO_succ HTk.out, if_pos (by rw [hcn]; simp)]
              have HQ4 : Hid (Q2 w w3 r ⟨dT2 ((i : Int) + 1) T1 (k + 1), LL, D.g⟩ F0 FF w.heap.size bl3 s3 (dO ((i : Int) + 1) S T1 (k + 1)) ∧ bl3.length = n + 1 ∧ ∀ m, k + 1 < m → bl3[m]? = (dBl S (n + 1))[m]?) := ⟨by rw [HO.out]; exact HQ3.out.1.app h1 h2 h3 h4, HQ3.out.2⟩
              have HLn : Hid ((dO ((i : Int) + 1) S T1 (k + 1)).length = (dO ((i : Int) + 1) S T1 k).length + 1) := by show _ = _; rw [HO.out, List.length_append]; rfl
              obtain ⟨ra3, ca3⟩ := s3
              dsimp only at hap
              rw [hOl] at hap HLn
              rw [hW3] at hap
              clear h1 h2 h3 h4 HQ3 hcn hjf hW3
              by_cases hx1 : xw = 1
              · subst hx1
                have hxf : (xf == ((i : Int) + 1)) = false := by
                  cases hxx : (xf == ((i : Int) + 1))
                  · rfl
                  · exact absurd (by simp [jn, hxx]) hj
                clear hj
                go_wp2_with (at_builtin; refine stop_of ?_)
                unfold Hid
                refine wpList_append_known _ rfl _ _ 62 62 rfl _ _ rfl rfl (hap _) ?_
                clear hap
                go_wp2
                go_roundw
                case rel => exact ⟨k + 1, ⟨ra3, ca3⟩, by go_num, by rw [HLn.out], by omega, bl3, HQ4⟩
                case measure => simp [intOf]; omega
              · have hxw : (xw == 1) = false := by simpa using hx1
                clear hj hx1
                go_wp2_with (at_builtin; refine stop_of ?_)
                unfold Hid
                refine wpList_append_known _ rfl _ _ 62 62 rfl _ _ rfl rfl (hap _) ?_
                clear hap
                go_wp2
                go_roundw
                case rel => exact ⟨k + 1, ⟨ra3, ca3⟩, by go_num, by rw [HLn.out], by omega, bl3, HQ4⟩
                case measure => simp [intOf]; omega
        · have k1 : ¬ (k : Int) + 1 ≤ (n : Int) := by omega
          have hkk : k = n := by omega
          subst hkk
          clear hX' hL' hF' hkn hk
          go_wp2
          refine bodyPost_ret (results_tmp2 rfl _ _ _) rfl ?_
          obtain ⟨e1, e2, e3⟩ := HSe.out
          rw [← e1, ← e2, ← e3]
          exact ⟨⟨ra2, ca2⟩, FF, by rw [hOl]; rfl, HR.out.1.r, HR.out.1.f, HR.out.1.q.d, HR.out.1.q.c⟩

set_option maxRecDepth 100000 in
set_option maxHeartbeats 16000000 in
theorem dEnd_er {w : World} {r : Nat} {D : Dk} {F : Nat → Prop} (h : DB w r D F) (hS : Sd D) {i : Nat} {x : Dt} (hx : D.t[i]? = some x) (hgo : (!x.en && x.w == 0) = true) (wd er : Int) (her : er ≠ 0) :
    Calls Tryd.prog 33 #[.pointer (some ⟨r, 0, none⟩), .int .i64 ((i : Int) + 1), .int .u64 wd, .int .i64 er] w fun e w' => DER r (dDone D i x 0 er).2 F (dDone D i x 0 er).1 0 w e w' := by
  have hlt : i < D.t.length := (List.getElem?_eq_some_iff.1 hx).1
  obtain ⟨pt, pl, pg, L, hX, hL, hF⟩ := h
  have HI : Hid _ := dIs_any hX ((i : Int) + 1)
  rw [show isB D.t.length ((i : Int) + 1) = true by simp [isB]; omega] at HI
  have HGo : Hid _ := dGoes_any hX hx
  rw [hgo] at HGo
  have htn := hX.tn
  have hln : D.l.length ≤ 8 := by rw [← hL, List.length_map]; exact hX.ln
  obtain ⟨gt, hpt, hpb, lgt, ct, hct, -, -, ht2, ht3, ht4⟩ := hX.tf hx
  have c0 := hX.c0
  rw [hpt] at c0
  have lb := heap_lt hX.obj
  have d2 := heap_cell hct ht2
  have d3 := heap_cell hct ht3
  have d4 := heap_cell hct ht4
  have fv : ∀ n, w.frozen? ⟨gt, n, none⟩ = false := fun n => by simp [World.frozen?, hct]
  have hw1 : IntKind.i64.wrap ((i : Int) + 1 - 1) = (i : Int) := by
    rw [show (i : Int) + 1 - 1 = i by omega]
    exact IntWalk.i64_in _ (by omega)
  have z1 : (0 : Int) ≤ (i : Int) := by omega
  have z2 : (i : Int) < (D.t.length : Int) := by omega
  have hE := hX.enT true 0 er hx hpt
  have hmk := made_bools D.t.length htn (((w.setCell ⟨gt, i * 5 + 2, none⟩ (.bool true)).setCell ⟨gt, i * 5 + 3, none⟩ (.int .u64 0)).setCell ⟨gt, i * 5 + 4, none⟩ (.int .i64 er))
  have e0 : (((w.setCell ⟨gt, i * 5 + 2, none⟩ (.bool true)).setCell ⟨gt, i * 5 + 3, none⟩ (.int .u64 0)).setCell ⟨gt, i * 5 + 4, none⟩ (.int .i64 er)).cell? ⟨r, 0, none⟩ = some (.slice (some ⟨gt, 0, none⟩) D.t.length pt.cap) := by
    have := hE.1.c0
    rw [List.length_set, hpt] at this
    exact this
  have HQ0 : Hid (∃ FF, QV w ((((w.setCell ⟨gt, i * 5 + 2, none⟩ (.bool true)).setCell ⟨gt, i * 5 + 3, none⟩ (.int .u64 0)).setCell ⟨gt, i * 5 + 4, none⟩ (.int .i64 er)).alloc (.cells ((dBl [] (D.t.length + 1)).map Value.bool).toArray 4)) r ⟨zT (endD D i x 0 er) (dS ((i : Int) + 1) D.l 0), dLs ((i : Int) + 1) D.l 0, D.g⟩ F FF w.heap.size (dBl (dS ((i : Int) + 1) D.l 0) (D.t.length + 1))) := by
    rw [zT_nil', dLs_zero]
    exact qv_start (L := L) hE.1 hE.2 hL hF (by simp)
  have HS : Hid (Sd D) := hS
  obtain ⟨T0, hT0⟩ : ∃ T0, T0 = endD D i x 0 er := ⟨_, rfl⟩
  have tl0 : Hid (T0.length = D.t.length) := by show _ = _; rw [hT0, endD_len]
  unfold dDone
  rw [← hT0] at HQ0 ⊢
  have HN : Hid (∃ n, n = D.t.length) := ⟨_, rfl⟩
  have HT : Hid (D.t.length = D.t.length) := rfl
  obtain ⟨n, hn⟩ : ∃ n, n = D.t.length := ⟨_, rfl⟩
  have HNN : Hid (D.t.length = n) := hn.symm
  rw [← hn] at c0 z2 htn hmk e0 HQ0 tl0 ⊢
  generalize hF0 : F = F0 at HQ0 ⊢
  clear hX hE hct ht2 ht3 ht4 hpt hpb hL hS hx hgo hn hT0 hF hF0 HN HT
  have her1 : (er != 0) = true := by simpa using her
  have her2 : (er == 0) = false := by simpa using her
  go_enter Tryd.func33, Tryd.ntmps33
  go_wp2_with fail
  refine Calls.mono HI.out ?_
  rintro e w2 ⟨rfl, hw2⟩
  rw [hw2]
  clear hw2
  go_wp2_with fail
  refine Calls.mono HGo.out ?_
  rintro e w2 ⟨rfl, hw2⟩
  rw [hw2]
  clear hw2
  go_wp2
  go_loopw [13] (fun v wr => ∃ (j : Nat), v = .int .i64 j ∧ j ≤ D.l.length ∧ Hid (∃ FF, QV w wr r ⟨zT T0 (dS ((i : Int) + 1) D.l j), dLs ((i : Int) + 1) D.l j, D.g⟩ F0 FF w.heap.size (dBl (dS ((i : Int) + 1) D.l j) (n + 1)))) (fun v _ => D.l.length - (intOf v).toNat)
  case atStart => exact ⟨0, rfl, Nat.zero_le _, HQ0⟩
  case round =>
    obtain ⟨j, rfl, hj, HV⟩ := hrel
    obtain ⟨FF, hV⟩ := HV.out
    have HVV : Hid (QV w wr r ⟨zT T0 (dS ((i : Int) + 1) D.l j), dLs ((i : Int) + 1) D.l j, D.g⟩ F0 FF w.heap.size (dBl (dS ((i : Int) + 1) D.l j) (n + 1))) := hV
    obtain ⟨pt', pl', pg', L', hX', hL', hF'⟩ := hV.d
    have hlen : L'.length = D.l.length := by
      have := congrArg List.length hL'
      simp only [List.length_map] at this
      rw [this, dLs_len]
    have c1' := hX'.c1
    rw [hlen] at c1'
    have lb' := heap_lt hX'.obj
    clear HV hV
    by_cases hjl : j < D.l.length
    · have k1 : (j : Int) < (D.l.length : Int) := by omega
      have k0 : (0 : Int) ≤ (j : Int) := by omega
      obtain ⟨y, hy⟩ : ∃ y, D.l[j]? = some y := ⟨_, List.getElem?_eq_getElem hjl⟩
      obtain ⟨y', hy'⟩ : ∃ y', L'[j]? = some y' := ⟨_, List.getElem?_eq_getElem (by omega)⟩
      have hyy : y'.2 = y := by
        have e1 : (L'.map (·.2))[j]? = some y'.2 := by rw [List.getElem?_map, hy']; rfl
        rw [hL', dLs_at, hy] at e1
        exact (Option.some.inj e1).symm
      obtain ⟨gl, hp, -, lg, cs, hcs, hc0, -⟩ := hX'.lf hy'
      have d0 := heap_cell hcs hc0
      rw [hp] at c1'
      rw [hyy] at d0
      by_cases hh : y.ho = ((i : Int) + 1)
      · rw [hh] at d0
        have hr : ∀ z ∈ y.row, 1 ≤ z ∧ z ≤ (T0.length : Int) := by
          rw [tl0.out, ← HNN.out]
          exact (HS.out y (List.mem_of_getElem? hy)).2
        have HH : Hid _ := dHands_any HVV.out.d (sd_step HS.out (tl0.out.trans HNN.out.symm) ((i : Int) + 1) j (dS ((i : Int) + 1) D.l j)) (show (dLs ((i : Int) + 1) D.l j)[j]? = some y by rw [dLs_at]; exact hy)
        rw [hand_step hy hh hr] at HH
        obtain ⟨m, hm, hmn⟩ : ∃ m : Nat, y.row.headD 0 = (m : Int) ∧ m ≤ n := by
          cases hrow : y.row with
          | nil => exact ⟨0, rfl, Nat.zero_le _⟩
          | cons z q =>
            have := hr z (by rw [hrow]; exact List.mem_cons_self)
            have h2 := tl0.out
            exact ⟨z.toNat, by rw [List.headD_cons]; omega, by omega⟩
        have HSs : Hid (dS ((i : Int) + 1) D.l (j + 1) = dS ((i : Int) + 1) D.l j ++ [(m : Int)]) := by
          show _ = _
          rw [dS_succ hy]
          unfold hdS
          rw [if_pos hh, hm]
        rw [hm] at HH
        dsimp only at HH
        have m0 : (0 : Int) ≤ (m : Int) := by omega
        have m1 : (m : Int) < (n : Int) + 1 := by omega
        clear hX' hL' hF' hcs hc0 hp hyy hy' hh hr hm hy
        go_wp2_with fail
        refine Calls.mono HH.out ?_
        rintro e w2 ⟨rfl, hR⟩
        obtain ⟨F2, hV2⟩ := HVV.out.hand hR
        have gb := heap_lt hV2.b
        have cb : ∃ u, w2.cell? ⟨w.heap.size, m, none⟩ = some (.bool u) := ⟨(dBl (dS ((i : Int) + 1) D.l j) (n + 1))[m]'(by simp [dBl]; omega), heap_cell hV2.b (by simp)⟩
        obtain ⟨u, cb⟩ := cb
        have fb : w2.frozen? ⟨w.heap.size, m, none⟩ = false := by simp [World.frozen?, hV2.b]
        have hV3 := hV2.mark m
        rw [dBl_set (by omega), ← HSs.out] at hV3
        have HV3 : Hid _ := hV3
        clear hV2 hR hV3 HH HVV c1' d0 lb' lg
        go_wp2
        go_roundw
        case rel => exact ⟨j + 1, by go_num, by omega, F2, HV3.out⟩
        case measure => simp [intOf]; omega
      · have HV3 : Hid (∃ FF, QV w wr r ⟨zT T0 (dS ((i : Int) + 1) D.l (j + 1)), dLs ((i : Int) + 1) D.l (j + 1), D.g⟩ F0 FF w.heap.size (dBl (dS ((i : Int) + 1) D.l (j + 1)) (n + 1))) := by
          rw [dS_same hy hh, dLs_same hy hh]
          exact ⟨FF, HVV.out⟩
        have hne : (y.ho == ((i : Int) + 1)) = false := by simpa using hh
        generalize y.ho = ho at *
        clear hX' hL' hF' hcs hc0 hp hyy hy' hh hy HVV
        go_wp2
        go_roundw
        case rel => exact ⟨j + 1, by go_num, by omega, HV3⟩
        case measure => simp [intOf]; omega
    · have hjj : j = D.l.length := by omega
      subst hjj
      have k1 : ¬ (D.l.length : Int) < (D.l.length : Int) := by omega
      clear hX' hL' hF' hj hjl
      go_wp2
      obtain ⟨S, hS⟩ : ∃ S, S = dS ((i : Int) + 1) D.l D.l.length := ⟨_, rfl⟩
      obtain ⟨LL, hLL⟩ : ∃ LL, LL = dLs ((i : Int) + 1) D.l D.l.length := ⟨_, rfl⟩
      obtain ⟨T1, hT1⟩ : ∃ T1, T1 = zT T0 S := ⟨_, rfl⟩
      have HSe : Hid (S = dS ((i : Int) + 1) D.l D.l.length ∧ LL = dLs ((i : Int) + 1) D.l D.l.length ∧ T1 = zT T0 S) := ⟨hS, hLL, hT1⟩
      rw [← hS] at HVV
      rw [← hLL] at HVV
      rw [← hT1] at HVV
      have tl1 : Hid (T1.length = n) := by show _ = _; rw [hT1, zT_len]; exact tl0.out
      have HQ1 : Hid (∃ bl, Q2 w wr r ⟨dT2 ((i : Int) + 1) T1 0, LL, D.g⟩ F0 FF w.heap.size bl ⟨none, 0⟩ (dO ((i : Int) + 1) S T1 0) ∧ bl.length = n + 1 ∧ ∀ m, 0 < m → bl[m]? = (dBl S (n + 1))[m]?) := ⟨_, ⟨by rw [dT2_zero]; exact HVV.out, .inl ⟨rfl, rfl⟩, fun g hg => by cases hg⟩, by simp [dBl], fun _ _ => rfl⟩
      clear hS hLL hT1 HVV c1' lb' k1 HQ0
      obtain ⟨wA, hwA⟩ : ∃ wA, wA = wr := ⟨_, rfl⟩
      rw [← hwA] at HQ1 ⊢
      clear hwA
      go_loopw [15, 16] (fun o v wr => ∃ (k : Nat) (s : Sl), v = .int .i64 ((k : Int) + 1) ∧ o = .slice s.ra (dO ((i : Int) + 1) S T1 k).length s.cap ∧ k ≤ n ∧ ∃ bl, Hid (Q2 w wr r ⟨dT2 ((i : Int) + 1) T1 k, LL, D.g⟩ F0 FF w.heap.size bl s (dO ((i : Int) + 1) S T1 k) ∧ bl.length = n + 1 ∧ ∀ m, k < m → bl[m]? = (dBl S (n + 1))[m]?)) (fun _ v _ => n + 1 - (intOf v).toNat)
      case atStart =>
        obtain ⟨bl, hq⟩ := HQ1.out
        exact ⟨0, ⟨none, 0⟩, rfl, rfl, Nat.zero_le _, bl, hq⟩
      case round =>
        obtain ⟨k, s, rfl, rfl, hk, bl, HR⟩ := hrel
        obtain ⟨ra2, ca2⟩ := s
        obtain ⟨pt', pl', pg', L', hX', hL', hF'⟩ := HR.out.1.q.d
        have c0' := hX'.c0
        dsimp only at c0'
        rw [dT2_len, tl1.out] at c0'
        have lb' := heap_lt hX'.obj
        have hol := dO_len ((i : Int) + 1) S T1 k
        generalize hOl : (dO ((i : Int) + 1) S T1 k).length = ol at hol ⊢
        by_cases hkn : k < n
        · have k1 : (k : Int) + 1 ≤ (n : Int) := by omega
          have k0 : (0 : Int) ≤ (k : Int) := by omega
          have k2 : (k : Int) < (n : Int) := by omega
          have k3 : (0 : Int) ≤ (k : Int) + 1 := by omega
          have k4 : (k : Int) + 1 < (n : Int) + 1 := by omega
          have hw2 : IntKind.i64.wrap ((k : Int) + 1 - 1) = (k : Int) := by
            rw [show (k : Int) + 1 - 1 = k by omega]
            exact IntWalk.i64_in _ (by omega)
          obtain ⟨x1, hx1⟩ : ∃ x1, T1[k]? = some x1 := ⟨_, List.getElem?_eq_getElem (by rw [tl1.out]; exact hkn)⟩
          have HTk : Hid (T1[k]? = some x1) := hx1
          have hdt : (dT2 ((i : Int) + 1) T1 k)[k]? = some x1 := by rw [dT2_at hx1]; simp
          obtain ⟨g2, hp2, -, lg2, cs, hcs, hc0, hc1, -⟩ := hX'.tf hdt
          have d0 := heap_cell hcs hc0
          have d1 := heap_cell hcs hc1
          have fz : ∀ m, wr.frozen? ⟨g2, m, none⟩ = false := fun m => by simp [World.frozen?, hcs]
          rw [hp2] at c0'
          have hbk : bl[k + 1]? = some (S.contains ((k : Int) + 1)) := by
            rw [HR.out.2.2 (k + 1) (by omega)]
            simp [dBl, hkn]
          have cb : wr.cell? ⟨w.heap.size, k + 1, none⟩ = some (.bool (S.contains ((k : Int) + 1))) := heap_cell HR.out.1.q.b (by simp [hbk])
          have gb := heap_lt HR.out.1.q.b
          have fb : ∀ m, wr.frozen? ⟨w.heap.size, m, none⟩ = false := fun m => by simp [World.frozen?, HR.out.1.q.b]
          have hZ := HR.out.1.zero hX' hL' hF' hdt hp2
          obtain ⟨xw, xf, xe, xd, xr⟩ := x1
          dsimp only at d0 d1
          clear hcs hc0 hc1 hX' hL' hF' hp2 hdt hx1
          by_cases hj : jn ((i : Int) + 1) ⟨xw, xf, xe, xd, xr⟩ = true
          · have hj' := hj
            simp [jn] at hj'
            obtain ⟨rfl, rfl⟩ := hj'
            have hM := hZ.mark (k + 1)
            obtain ⟨W3, hW3⟩ : ∃ W3, W3 = (wr.setCell ⟨g2, k * 5, none⟩ (.int .i64 0)).setCell ⟨w.heap.size, k + 1, none⟩ (.bool true) := ⟨_, rfl⟩
            rw [← hW3] at hM
            have HWE : Hid (W3 = (wr.setCell ⟨g2, k * 5, none⟩ (.int .i64 0)).setCell ⟨w.heap.size, k + 1, none⟩ (.bool true)) := hW3
            have hle : k + 1 < bl.length := by rw [HR.out.2.1]; omega
            have c3 : W3.cell? ⟨w.heap.size, k + 1, none⟩ = some (.bool true) := heap_cell hM.q.b (by simp [hle])
            have gb3 := heap_lt hM.q.b
            obtain ⟨bl3, hbl3⟩ : ∃ bl3, bl3 = bl.set (k + 1) true := ⟨_, rfl⟩
            have HQ3 : Hid (Q2 w W3 r ⟨dT2 ((i : Int) + 1) T1 (k + 1), LL, D.g⟩ F0 FF w.heap.size bl3 ⟨ra2, ca2⟩ (dO ((i : Int) + 1) S T1 k) ∧ bl3.length = n + 1 ∧ ∀ m, k + 1 < m → bl3[m]? = (dBl S (n + 1))[m]?) := by
              subst hbl3
              rw [dT2_succ HTk.out, if_pos hj]
              refine ⟨hM, by rw [List.length_set]; exact HR.out.2.1, fun m hm => ?_⟩
              rw [List.getElem?_set_ne (by omega)]
              exact HR.out.2.2 m (by omega)
            clear hM hZ hbl3 HR hW3
            obtain ⟨s3, w3, hap, h1, h2, h3, h4⟩ := (HQ3.out.1.r.kept (w' := W3.alloc (.cells #[.int .i64 ((k : Int) + 1)] 3)) (fun g hg => Below.heap_alloc _ _ _ (HQ3.out.1.r.lt hg))).snoc (by omega) ((k : Int) + 1) W3.heap.size (heap_alloc_new W3 _)
            have HO : Hid (dO ((i : Int) + 1) S T1 (k + 1) = dO ((i : Int) + 1) S T1 k ++ [(k : Int) + 1]) := by show _ = _; rw [dO_succ HTk.out, if_pos (by rw [hj]; simp)]
            have HQ4 : Hid (Q2 w w3 r ⟨dT2 ((i : Int) + 1) T1 (k + 1), LL, D.g⟩ F0 FF w.heap.size bl3 s3 (dO ((i : Int) + 1) S T1 (k + 1)) ∧ bl3.length = n + 1 ∧ ∀ m, k + 1 < m → bl3[m]? = (dBl S (n + 1))[m]?) := ⟨by rw [HO.out]; exact HQ3.out.1.app h1 h2 h3 h4, HQ3.out.2⟩
            have HLn : Hid ((dO ((i : Int) + 1) S T1 (k + 1)).length = (dO ((i : Int) + 1) S T1 k).length + 1) := by show _ = _; rw [HO.out, List.length_append]; rfl
            obtain ⟨ra3, ca3⟩ := s3
            dsimp only at hap
            rw [hOl] at hap HLn
            clear h1 h2 h3 h4 HQ3 hj
            go_upto_region 25 with fail
            rw [← HWE.out]
            go_wp2_with (at_builtin; refine stop_of ?_)
            unfold Hid
            refine wpList_append_known _ rfl _ _ 62 62 rfl _ _ rfl rfl (hap _) ?_
            clear hap
            go_wp2
            go_roundw
            case rel => exact ⟨k + 1, ⟨ra3, ca3⟩, by go_num, by rw [HLn.out], by omega, bl3, HQ4⟩
            case measure => simp [intOf]; omega
          · have HT2 : Hid (dT2 ((i : Int) + 1) T1 (k + 1) = dT2 ((i : Int) + 1) T1 k) := by show _ = _; rw [dT2_succ HTk.out, if_neg hj]
            have hjf : jn ((i : Int) + 1) ⟨xw, xf, xe, xd, xr⟩ = false := by simpa using hj
            have HQ3 : Hid (Q2 w wr r ⟨dT2 ((i : Int) + 1) T1 (k + 1), LL, D.g⟩ F0 FF w.heap.size bl ⟨ra2, ca2⟩ (dO ((i : Int) + 1) S T1 k) ∧ bl.length = n + 1 ∧ ∀ m, k + 1 < m → bl[m]? = (dBl S (n + 1))[m]?) := ⟨by rw [HT2.out]; exact HR.out.1, HR.out.2.1, fun m hm => HR.out.2.2 m (by omega)⟩
            clear HR hZ
            cases hcn : S.contains ((k : Int) + 1)
            · rw [hcn] at cb
              have HQ4 : Hid (Q2 w wr r ⟨dT2 ((i : Int) + 1) T1 (k + 1), LL, D.g⟩ F0 FF w.heap.size bl ⟨ra2, ca2⟩ (dO ((i : Int) + 1) S T1 (k + 1)) ∧ bl.length = n + 1 ∧ ∀ m, k + 1 < m → bl[m]? = (dBl S (n + 1))[m]?) := by
                rw [dO_succ HTk.out, hcn, hjf]
                exact HQ3.out
              have HO : Hid (dO ((i : Int) + 1) S T1 (k + 1) = dO ((i : Int) + 1) S T1 k) := by show _ = _; rw [dO_succ HTk.out, hcn, hjf]; rfl
              clear HQ3 hcn hjf
              by_cases hx1 : xw = 1
              · subst hx1
                have hxf : (xf == ((i : Int) + 1)) = false := by
                  cases hxx : (xf == ((i : Int) + 1))
                  · rfl
                  · exact absurd (by simp [jn, hxx]) hj
                clear hj
                go_wp2
                go_roundw
                case rel => exact ⟨k + 1, ⟨ra2, ca2⟩, by go_num, by rw [HO.out, hOl], by omega, bl, HQ4⟩
                case measure => simp [intOf]; omega
              · have hxw : (xw == 1) = false := by simpa using hx1
                clear hj hx1
                go_wp2
                go_roundw
                case rel => exact ⟨k + 1, ⟨ra2, ca2⟩, by go_num, by rw [HO.out, hOl], by omega, bl, HQ4⟩
                case measure => simp [intOf]; omega
            · rw [hcn] at cb
              obtain ⟨W3, hW3⟩ : ∃ W3, W3 = wr := ⟨_, rfl⟩
              have HWE : Hid (W3 = wr) := hW3
              obtain ⟨bl3, hbl3⟩ : ∃ bl3, bl3 = bl := ⟨_, rfl⟩
              rw [← hW3, ← hbl3] at HQ3
              obtain ⟨s3, w3, hap, h1, h2, h3, h4⟩ := (HQ3.out.1.r.kept (w' := W3.alloc (.cells #[.int .i64 ((k : Int) + 1)] 3)) (fun g hg => Below.heap_alloc _ _ _ (HQ3.out.1.r.lt hg))).snoc (by omega) ((k : Int) + 1) W3.heap.size (heap_alloc_new W3 _)
              have HO : Hid (dO ((i : Int) + 1) S T1 (k + 1) = dO ((i : Int) + 1) S T1 k ++ [(k : Int) + 1]) := by show _ = _; rw [dO_succ HTk.out, if_pos (by rw [hcn]; simp)]
              have HQ4 : Hid (Q2 w w3 r ⟨dT2 ((i : Int) + 1) T1 (k + 1), LL, D.g⟩ F0 FF w.heap.size bl3 s3 (dO ((i : Int) + 1) S T1 (k + 1)) ∧ bl3.length = n + 1 ∧ ∀ m, k + 1 < m → bl3[m]? = (dBl S (n + 1))[m]?) := ⟨by rw [HO.out]; exact HQ3.out.1.app h1 h2 h3 h4, HQ3.out.2⟩
              have HLn : Hid ((dO ((i : Int) + 1) S T1 (k + 1)).length = (dO ((i : Int) + 1) S T1 k).length + 1) := by show _ = _; rw [HO.out, List.length_append]; rfl
              obtain ⟨ra3, ca3⟩ := s3
              dsimp only at hap
              rw [hOl] at hap HLn
              rw [hW3] at hap
              clear h1 h2 h3 h4 HQ3 hcn hjf hW3
              by_cases hx1 : xw = 1
              · subst hx1
                have hxf : (xf == ((i : Int) + 1)) = false := by
                  cases hxx : (xf == ((i : Int) + 1))
                  · rfl
                  · exact absurd (by simp [jn, hxx]) hj
                clear hj
                go_wp2_with (at_builtin; refine stop_of ?_)
                unfold Hid
                refine wpList_append_known _ rfl _ _ 62 62 rfl _ _ rfl rfl (hap _) ?_
                clear hap
                go_wp2
                go_roundw
                case rel => exact ⟨k + 1, ⟨ra3, ca3⟩, by go_num, by rw [HLn.out], by omega, bl3, HQ4⟩
                case measure => simp [intOf]; omega
              · have hxw : (xw == 1) = false := by simpa using hx1
                clear hj hx1
                go_wp2_with (at_builtin; refine stop_of ?_)
                unfold Hid
                refine wpList_append_known _ rfl _ _ 62 62 rfl _ _ rfl rfl (hap _) ?_
                clear hap
                go_wp2
                go_roundw
                case rel => exact ⟨k + 1, ⟨ra3, ca3⟩, by go_num, by rw [HLn.out], by omega, bl3, HQ4⟩
                case measure => simp [intOf]; omega
        · have k1 : ¬ (k : Int) + 1 ≤ (n : Int) := by omega
          have hkk : k = n := by omega
          subst hkk
          clear hX' hL' hF' hkn hk
          go_wp2
          refine bodyPost_ret (results_tmp2 rfl _ _ _) rfl ?_
          obtain ⟨e1, e2, e3⟩ := HSe.out
          rw [← e1, ← e2, ← e3]
          exact ⟨⟨ra2, ca2⟩, FF, by rw [hOl]; rfl, HR.out.1.r, HR.out.1.f, HR.out.1.q.d, HR.out.1.q.c⟩
end Go.Proofs.YtdlnkdcgipaoeaaDoor
