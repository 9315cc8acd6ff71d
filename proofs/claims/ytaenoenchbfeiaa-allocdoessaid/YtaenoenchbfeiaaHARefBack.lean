/- The document's Back. -/
import Derived.Test.YtaenoenchbfeiaaHARef
import Derived.Deep.RegionHeld3
namespace Go.Proofs.Ytaenoenchbfeiaa
open Go.RowKit

theorem RR.trans {r gr : Nat} {vw : Value} {A A' : Al} {w w' w'' : World} (h : RR r gr vw A w w') (k : ∀ vw', RL w' r gr vw' A → RR r gr vw' A' w' w'') : RR r gr vw A' w w'' := by
  obtain ⟨vw', h1, h2, h3, h4⟩ := h
  obtain ⟨vw'', k1, k2, k3, k4⟩ := k vw' h1
  refine ⟨vw'', k1, fun g hg hn => (k2 g (Nat.lt_of_lt_of_le hg h3.size) (fun hr => ?_)).trans (h2 g hg hn), h3.trans k3, fun g hg => ?_⟩
  · rcases hr with hr | hr
    · exact hn (.inl hr)
    · rcases h4 g hr with h' | h'
      · exact hn (.inr h')
      · omega
  · rcases k4 g hg with h' | h'
    · exact h4 g h'
    · exact .inr (Nat.le_trans h3.size h')
theorem rr_drew {r gr : Nat} {vw : Value} {A : Al} {w W : World} {o : Nat} {v : Value} (h : RR r gr vw A w (W.setCell ⟨r, o, none⟩ v)) : RR r gr vw A w (W.drew.setCell ⟨r, o, none⟩ v) := by
  obtain ⟨vw', h1, h2, h3, h4⟩ := h
  have e : (W.drew.setCell ⟨r, o, none⟩ v).heap = (W.setCell ⟨r, o, none⟩ v).heap := by rfl
  exact ⟨vw', h1.kept (fun g _ => by rw [e]), fun g hg hn => by rw [e]; exact h2 g hg hn, ⟨h3.os, h3.tape, h3.output, by rw [e]; exact h3.size, fun g hg => by omega⟩, h4⟩
set_option maxRecDepth 100000 in
set_option maxHeartbeats 8000000 in
theorem refBack_any (r gr : Nat) (vw : Value) (A : Al) (c : Int) (w : World) (h : RL w r gr vw A) (_ : A.who.length ≤ 4096) (hI : Inv A) :
    Calls Try.prog 23 #[.pointer (some ⟨r, 0, none⟩), .int .i64 c] w fun e w' => e = backE (backM A c).1 ∧ RR r gr vw (backM A c).2 w w' := by
  have HR : Hid (RL w r gr vw A) := h
  have hrl := row_le hI
  have c0 := h.c0
  have c1 := h.c1
  have lr := h.lt r (.inl (.inl rfl))
  have lg := h.lt gr (.inl (.inr rfl))
  have hBad : A.who[c.toNat]? ≠ some (-1) ∨ c < 0 → backM A c = ((0, 120), A) := fun hn => by
    unfold backM
    rw [if_neg (fun hh => by rcases hn with h | h; exact h hh.1; omega)]
  by_cases h0 : c < 0
  · have HE : Hid (backM A c = ((0, 120), A)) := hBad (.inr h0)
    rw [HE.out]
    clear h hBad
    go_enter Try.func23, Try.ntmps23
    go_wp2
    all_goals
      go_ret2
      exact ⟨rfl, HR.out.same⟩
  · obtain ⟨k, rfl⟩ : ∃ k : Nat, c = (k : Int) := ⟨c.toNat, by omega⟩
    simp only [Int.toNat_natCast] at hBad
    by_cases hk : k < A.who.length
    · have k1 : (k : Int) < (A.who.length : Int) := by omega
      have k2 : ¬ (k : Int) ≥ (A.who.length : Int) := by omega
      obtain ⟨x, hx⟩ : ∃ x, A.who[k]? = some x := ⟨_, List.getElem?_eq_getElem hk⟩
      have cx := h.who hx
      by_cases hx1 : x = -1
      · subst hx1
        have fz := h.wh.fz k
        obtain ⟨ra, ca, hvw⟩ := h.wt.sl
        subst hvw
        obtain ⟨vw1, h1, hh2, hh3, hh4⟩ := h.put hk 0
        cases hr : A.row with
        | nil =>
          have HE : Hid (backM A (k : Int) = ((0, 0), ⟨A.who.set k 0, []⟩)) := by
            show _ = _
            unfold backM
            rw [if_pos ⟨by simpa using hx, by omega⟩, hr]
            rfl
          have HF : Hid (RR r gr (.slice ra A.row.length ca) ⟨A.who.set k 0, A.row⟩ w (w.setCell ⟨gr, k, none⟩ (.int .i64 0))) := h.put hk 0
          have d0 : (w.setCell ⟨gr, k, none⟩ (.int .i64 0)).cell? ⟨r, 0, none⟩ = some (.slice (some ⟨gr, 0, none⟩) A.who.length A.who.length) := (cell_heap (Below.heap_setCell w ⟨gr, k, none⟩ (.int .i64 0) r h.ne.1)).trans c0
          have d1 : (w.setCell ⟨gr, k, none⟩ (.int .i64 0)).cell? ⟨r, 1, none⟩ = some (.slice ra 0 ca) := by
            have := (cell_heap (o := 1) (Below.heap_setCell w ⟨gr, k, none⟩ (.int .i64 0) r h.ne.1)).trans c1
            rw [hr] at this
            exact this
          have dk : (w.setCell ⟨gr, k, none⟩ (.int .i64 0)).cell? ⟨gr, k, none⟩ = some (.int .i64 0) := by
            obtain ⟨cs, q1, q2, _⟩ := h.wh
            refine heap_cell (set_atC q1 _) ?_
            rw [Array.getElem?_setIfInBounds, if_pos rfl, if_pos (by omega)]
          rw [hr] at HF c1
          rw [HE.out]
          clear h hBad hx h1 hh2 hh3 hh4 HR hI
          generalize hW : w.setCell ⟨gr, k, none⟩ (.int .i64 0) = W1 at *
          have lr1 : r < W1.heap.size := by rw [← hW, World.size_setCell]; exact lr
          have lg1 : gr < W1.heap.size := by rw [← hW, World.size_setCell]; exact lg
          go_enter Try.func23, Try.ntmps23
          go_upto_region 4 with fail
          clear hW c0 c1 cx
          go_wp2
          go_ret2
          exact ⟨rfl, HF.out⟩
        | cons p l =>
          have hth := hI.thr p (by rw [hr]; exact List.mem_cons_self)
          have HE : Hid (backM A (k : Int) = ((p.1, 0), ⟨A.who.set k p.1, l⟩)) := by
            show _ = _
            unfold backM
            rw [if_pos ⟨by simpa using hx, by omega⟩, hr]
            rfl
          have hwt := h.wt
          rw [hr, List.length_cons] at hwt
          obtain ⟨g, off, hra, hca, lgg, cp, T1, T2⟩ := RWt.tail hwt
          subst hra
          have hgn := h.ne.2 g rfl
          have n1 := h.ne.1
          have HP : Hid (∀ c2 o2 L2, RWt w (.slice (some ⟨g, o2, none⟩) L2 c2) l → RR r gr (.slice (some ⟨g, off, none⟩) A.row.length ca) ⟨A.who.set k p.1, l⟩ w (((w.setCell ⟨gr, k, none⟩ (.int .i64 0)).setCell ⟨gr, k, none⟩ (.int .i64 p.1)).setCell ⟨r, 1, none⟩ (.slice (some ⟨g, o2, none⟩) L2 c2))) := fun c2 o2 L2 hw2 => by
            have e1 : RR r gr (.slice (some ⟨g, off, none⟩) A.row.length ca) ⟨(A.who.set k 0).set k p.1, A.row⟩ w ((w.setCell ⟨gr, k, none⟩ (.int .i64 0)).setCell ⟨gr, k, none⟩ (.int .i64 p.1)) := (h.put hk 0).trans (fun vw' hh => hh.put (A := ⟨A.who.set k 0, A.row⟩) (by simpa using hk) p.1)
            rw [List.set_set] at e1
            have kk : ∀ g', g' ≠ gr → ((w.setCell ⟨gr, k, none⟩ (.int .i64 0)).setCell ⟨gr, k, none⟩ (.int .i64 p.1)).heap[g']? = w.heap[g']? := fun g' hg' => (Below.heap_setCell _ _ _ _ hg').trans (Below.heap_setCell _ _ _ _ hg')
            refine e1.trans (fun vw' hh => ?_)
            have hv : vw' = .slice (some ⟨g, off, none⟩) A.row.length ca := by
              have q := hh.c1
              rw [cell_heap (kk r n1), c1] at q
              exact (Option.some.inj q).symm
            subst hv
            exact RL.wait hh (fun _ _ _ => rfl) (Below.refl _ _) (hw2.kept (fun g' hg' => kk g' (by
              have : g' = g := (Option.some.inj hg').symm
              rw [this]; exact hgn.2))) (fun g' hg' => .inl hg')
          rw [HE.out]
          have c1' := c1
          rw [hr, List.length_cons] at c1'
          have hll : l.length ≤ 8 := by rw [hr, List.length_cons] at hrl; omega
          obtain ⟨cs, q1, q2, _⟩ := h.wh
          have dk : ((w.setCell ⟨gr, k, none⟩ (.int .i64 0)).setCell ⟨gr, k, none⟩ (.int .i64 p.1)).cell? ⟨gr, k, none⟩ = some (.int .i64 p.1) := by
            refine heap_cell (set_atC (set_atC q1 _) _) ?_
            rw [Array.getElem?_setIfInBounds, if_pos rfl, if_pos (by simp; omega)]
          have ek0 : (w.setCell ⟨gr, k, none⟩ (.int .i64 0)).cell? ⟨gr, k, none⟩ = some (.int .i64 0) := by
            refine heap_cell (set_atC q1 _) ?_
            rw [Array.getElem?_setIfInBounds, if_pos rfl, if_pos (by omega)]
          have f0 : (w.setCell ⟨gr, k, none⟩ (.int .i64 0)).frozen? ⟨gr, k, none⟩ = false := by simp [World.frozen?, set_atC q1]
          have fr : ((w.setCell ⟨gr, k, none⟩ (.int .i64 0)).setCell ⟨gr, k, none⟩ (.int .i64 p.1)).frozen? ⟨r, 1, none⟩ = false := by
            have := (Below.heap_setCell (w.setCell ⟨gr, k, none⟩ (.int .i64 0)) ⟨gr, k, none⟩ (.int .i64 p.1) r n1).trans ((Below.heap_setCell w ⟨gr, k, none⟩ (.int .i64 0) r n1).trans h.obj)
            simp [World.frozen?, this]
          have n1' : ¬ gr = r := fun e => n1 e.symm
          have n2 : ¬ gr = g := fun e => hgn.2 e.symm
          have n3 : ¬ g = gr := hgn.2
          have n4 : ¬ r = gr := n1
          clear h hBad hx h1 hh2 hh3 hh4 HR hI q1 q2 hwt c1
          go_enter Try.func23, Try.ntmps23
          go_upto_region 4 with fail
          have d0 : (w.setCell ⟨gr, k, none⟩ (.int .i64 0)).cell? ⟨r, 0, none⟩ = some (.slice (some ⟨gr, 0, none⟩) A.who.length A.who.length) := (cell_heap (Below.heap_setCell w ⟨gr, k, none⟩ (.int .i64 0) r n1)).trans c0
          have d1 : (w.setCell ⟨gr, k, none⟩ (.int .i64 0)).cell? ⟨r, 1, none⟩ = some (.slice (some ⟨g, off, none⟩) (l.length + 1) ca) := (cell_heap (Below.heap_setCell w ⟨gr, k, none⟩ (.int .i64 0) r n1)).trans c1'
          have dp : (w.setCell ⟨gr, k, none⟩ (.int .i64 0)).cell? ⟨g, off, none⟩ = some (.int .i64 p.1) := (cell_heap (Below.heap_setCell w ⟨gr, k, none⟩ (.int .i64 0) g n3)).trans cp
          have ek : (w.setCell ⟨gr, k, none⟩ (.int .i64 0)).cell? ⟨gr, k, none⟩ = some (.int .i64 0) := ek0
          have lr1 : r < (w.setCell ⟨gr, k, none⟩ (.int .i64 0)).heap.size := by rw [World.size_setCell]; exact lr
          have lg1 : gr < (w.setCell ⟨gr, k, none⟩ (.int .i64 0)).heap.size := by rw [World.size_setCell]; exact lg
          have lgg1 : g < (w.setCell ⟨gr, k, none⟩ (.int .i64 0)).heap.size := by rw [World.size_setCell]; exact lgg
          have HP2 : Hid _ := HP.out
          have HT1 : Hid _ := T1
          have HT2 : Hid _ := T2
          clear HP T1 T2
          generalize w.setCell ⟨gr, k, none⟩ (.int .i64 0) = W1 at *
          clear c0 c1' cp cx lr lg lgg ek0
          have hmx : Try.prog.follows .mixedOrders = true := by kernel_rfl
          have z1 : (l.length : Int) + 1 > 0 := by omega
          go_upto_region 5 with fail
          go_region
          have e0 : (W1.setCell ⟨gr, k, none⟩ (.int .i64 p.1)).cell? ⟨r, 0, none⟩ = some (.slice (some ⟨gr, 0, none⟩) A.who.length A.who.length) := (cell_heap (Below.heap_setCell W1 ⟨gr, k, none⟩ (.int .i64 p.1) r n1)).trans d0
          have e1 : (W1.setCell ⟨gr, k, none⟩ (.int .i64 p.1)).cell? ⟨r, 1, none⟩ = some (.slice (some ⟨g, off, none⟩) (l.length + 1) ca) := (cell_heap (Below.heap_setCell W1 ⟨gr, k, none⟩ (.int .i64 p.1) r n1)).trans d1
          have lr2 : r < (W1.setCell ⟨gr, k, none⟩ (.int .i64 p.1)).heap.size := by rw [World.size_setCell]; exact lr1
          have lg2 : gr < (W1.setCell ⟨gr, k, none⟩ (.int .i64 p.1)).heap.size := by rw [World.size_setCell]; exact lg1
          generalize W1.setCell ⟨gr, k, none⟩ (.int .i64 p.1) = W2 at *
          clear d0 d1 dp ek f0 lr1 lg1 lgg1
          have kc : (l.length : Int) + 1 ≤ (ca : Int) := by omega
          have k0 : (0 : Int) ≤ (l.length : Int) := by omega
          by_cases hc1 : ca = 1
          · subst hc1
            have hl0 : l = [] := List.eq_nil_of_length_eq_zero (by omega)
            subst hl0
            have HF : Hid _ := HP2.out 0 off 0 (HT2.out rfl)
            clear HP2 HT1 HT2
            go_wp2
            go_ret2
            exact ⟨rfl, rr_drew HF.out⟩
          · have HF : Hid _ := HP2.out (ca - 1) (off + 2) l.length (HT1.out hc1)
            clear HP2 HT1 HT2
            go_wp2
            go_ret2
            exact ⟨rfl, rr_drew HF.out⟩
      · have HE : Hid (backM A (k : Int) = ((0, 120), A)) := hBad (.inl (by rw [hx]; simpa using hx1))
        have z : (x == -1) = false := by simpa using hx1
        rw [HE.out]
        clear h hBad hx
        go_enter Try.func23, Try.ntmps23
        go_wp2
        all_goals
          go_ret2
          exact ⟨rfl, HR.out.same⟩
    · have k2 : (k : Int) ≥ (A.who.length : Int) := by omega
      have HE : Hid (backM A (k : Int) = ((0, 120), A)) := hBad (.inl (by rw [List.getElem?_eq_none (by omega)]; simp))
      rw [HE.out]
      clear h hBad
      go_enter Try.func23, Try.ntmps23
      go_wp2
      all_goals
        go_ret2
        exact ⟨rfl, HR.out.same⟩
end Go.Proofs.Ytaenoenchbfeiaa
