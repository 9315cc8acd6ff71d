/- CycleEnds: born. -/
import Derived.Test.YtnohcmfhhoiihaaHECalls2
import Derived.Deep.RegionLaw
namespace Go.Proofs.Ytnohcmfhhoiihaa
open Go.RowKit

theorem infoB : (Try.prog.info? 4).map (fun i => (i.zero, i.size, i.bytes)) = some (some (.bool false), 1, 1) := by kernel_rfl
theorem infoLf : (Try.prog.info? 47).map (fun i => (i.zero, i.size, i.bytes)) = some (some (.agg #[.bool false, .int .i64 0, .bool false, .int .i64 0]), 4, 32) := by kernel_rfl
/-- A cell of another block behind a row's growth. -/
theorem grow_fact {W W7 : World} {o : Obj} {b j : Nat} {u v : Value} (hg : (W.alloc o).grownBy W7 v.ownBlock) (hn : v.ownBlock ≠ some b) (hc : W.cell? ⟨b, j, none⟩ = some u ∧ W.frozen? ⟨b, j, none⟩ = false ∧ b < W.heap.size) : W7.cell? ⟨b, j, none⟩ = some u ∧ W7.frozen? ⟨b, j, none⟩ = false ∧ b < W7.heap.size := by
  have hb : W7.heap[b]? = W.heap[b]? := (hg.block b (by rw [World.size_alloc]; omega) (fun e => hn e.symm)).trans (Below.heap_alloc _ _ _ hc.2.2)
  exact ⟨(World.cell?_of_block (a := ⟨b, j, none⟩) hb).trans hc.1, (World.frozen?_of_block (a := ⟨b, j, none⟩) hb).trans hc.2.1, by have := hg.size; rw [World.size_alloc] at this; omega⟩
theorem WX.cellF {w0 w1 W : World} {b : Nat} {v : Vs} {x : Xs} {gr lf : Int} (h : WX w0 w1 W b v x gr lf) (j : Nat) (u : Value) (hu : (#[v.l, v.s, v.t, v.a, .int .i64 gr, .int .i64 lf] : Array Value)[j]? = some u) : W.cell? ⟨b, j, none⟩ = some u ∧ W.frozen? ⟨b, j, none⟩ = false ∧ b < W.heap.size := ⟨heap_cell h.bl hu, fz_of h.bl j, h.lt⟩
theorem own_or {g n c : Nat} {u : Value} {H : Nat} (hat : u.ownBlock = some g ∨ g = H) : ∀ k, (Value.slice (some ⟨g, 0, none⟩) n c).ownBlock = some k → u.ownBlock = some k ∨ H ≤ k := fun k hk => by
  have e : g = k := Option.some.inj hk
  subst e
  rcases hat with h | h
  · exact .inl h
  · exact .inr (by omega)
set_option maxRecDepth 100000 in
set_option maxHeartbeats 16000000 in
theorem born_any (w0 w1 w : World) (b k gr lf : Nat) (T : List Th) (t : Th) (h : TX w0 w1 w b T gr lf) (hT : T.length ≤ 8) (ht : T[k]? = some t) :
    Calls Try.prog 20 #[.pointer (some ⟨b, 0, none⟩), .int .i64 k] w fun e w' => e = .returned (.tuple #[]) ∧ TX w0 w1 w' b (bornT T k t) gr lf := by
  obtain ⟨v, hx⟩ := h
  have hk := (List.getElem?_eq_some_iff.1 ht).1
  obtain ⟨gs, cs, hvs, _, ls⟩ := own_form hx.s (show 0 < (rows T).ns from by show 0 < T.length; omega)
  obtain ⟨gt, ct, hvt, _, lt⟩ := own_form hx.t (show 0 < (rows T).nt from by show 0 < T.length; omega)
  obtain ⟨gl, cl, hvl, _, ll⟩ := own_form hx.l (show 0 < (rows T).nl from by show 0 < T.length; omega)
  obtain ⟨ga, ca, hva, _, la⟩ := own_form hx.a (show 0 < (rows T).na from by show 0 < T.length; omega)
  have f0 : w.cell? ⟨b, 0, none⟩ = some (.slice (some ⟨gl, 0, none⟩) T.length cl) := (heap_cell (j := 0) hx.bl rfl).trans (congrArg some hvl)
  have f1 : w.cell? ⟨b, 1, none⟩ = some (.slice (some ⟨gs, 0, none⟩) T.length cs) := (heap_cell (j := 1) hx.bl rfl).trans (congrArg some hvs)
  have f2 : w.cell? ⟨b, 2, none⟩ = some (.slice (some ⟨gt, 0, none⟩) T.length ct) := (heap_cell (j := 2) hx.bl rfl).trans (congrArg some hvt)
  have f3 : w.cell? ⟨b, 3, none⟩ = some (.slice (some ⟨ga, 0, none⟩) T.length ca) := (heap_cell (j := 3) hx.bl rfl).trans (congrArg some hva)
  have os := hx.s
  have ot := hx.t
  have ol := hx.l
  have oa := hx.a
  rw [hvs] at os
  rw [hvt] at ot
  rw [hvl] at ol
  rw [hva] at oa
  have r1 : w.cell? ⟨gs, k, none⟩ = some (.bool t.sc) := own_cell os (by show (T.map _)[k]? = _; rw [List.getElem?_map, ht]; rfl)
  have r2 : w.cell? ⟨gt, k, none⟩ = some (.bool t.tl) := own_cell ot (by show (T.map _)[k]? = _; rw [List.getElem?_map, ht]; rfl)
  have r3 : w.cell? ⟨ga, k, none⟩ = some (.int .i64 (t.la : Int)) := own_cell oa (by show (T.map _)[k]? = _; rw [List.getElem?_map, ht]; rfl)
  obtain ⟨q0, q1, q2, q3⟩ := lf4_at T k t ht
  have r0 : w.cell? ⟨gl, k * 4, none⟩ = some (.bool t.st) := own_cell ol q0
  have r0b : w.cell? ⟨gl, k * 4 + 2, none⟩ = some (.bool t.bo) := own_cell ol q2
  have r0s : w.cell? ⟨gl, k * 4 + 3, none⟩ = some (.int .i64 t.sh) := own_cell ol q3
  have zs : w.frozen? ⟨gs, k, none⟩ = false := own_fz os k
  have zt : w.frozen? ⟨gt, k, none⟩ = false := own_fz ot k
  have za : w.frozen? ⟨ga, k, none⟩ = false := own_fz oa k
  have zl : w.frozen? ⟨gl, k * 4 + 2, none⟩ = false := own_fz ol _
  have lb := hx.lt
  have k1 : (k : Int) < (T.length : Int) := by omega
  have k0 : (0 : Int) ≤ (k : Int) := by omega
  cases hbo : t.bo
  · rw [hbo] at r0b
    have HF : Hid (TX w0 w1 w b (bornT T k t) gr lf) := by
      have e : bornT T k t = T := if_neg (by rw [hbo]; simp)
      rw [e]
      exact ⟨v, hx⟩
    clear q0 q1 q2 q3 os ot ol oa hx hvs hvt hvl hva
    go_enter Try.func20, Try.ntmps20
    go_wp2
    exact bodyPost_end (results_none rfl _ _ _) rfl ⟨rfl, HF.out⟩
  · rw [hbo] at r0b
    by_cases h8 : T.length < 8
    · have HE : Hid (bornT T k t = T.set k { t with bo := false } ++ [newT t.sh]) := if_pos ⟨hbo, h8⟩
      obtain ⟨T1, hT1⟩ : ∃ T1, T1 = T.set k { t with bo := false } := ⟨_, rfl⟩
      rw [← hT1] at HE
      have n1 : T1.length = T.length := by rw [hT1, List.length_set]
      obtain ⟨vl, vs, vt, va⟩ := v
      dsimp only [rows] at hvs hvt hvl hva
      subst hvs hvt hvl hva
      have hx1 : WX w0 w1 (w.setCell ⟨gl, k * 4 + 2, none⟩ (.bool false)) b ⟨(.slice (some ⟨gl, 0, none⟩) T.length cl), (.slice (some ⟨gs, 0, none⟩) T.length cs), (.slice (some ⟨gt, 0, none⟩) T.length ct), (.slice (some ⟨ga, 0, none⟩) T.length ca)⟩ (rows T1) gr lf := by
        rw [hT1, rows_bo ht]
        exact hx.putL rfl (k := k * 4 + 2) (by show _ < (lf4 T).length; rw [lf4_len]; omega) (.bool false)
      have HX1 : Hid (WX w0 w1 (w.setCell ⟨gl, k * 4 + 2, none⟩ (.bool false)) b ⟨(.slice (some ⟨gl, 0, none⟩) T.length cl), (.slice (some ⟨gs, 0, none⟩) T.length cs), (.slice (some ⟨gt, 0, none⟩) T.length ct), (.slice (some ⟨ga, 0, none⟩) T.length ca)⟩ ⟨T.length, lf4 T1, T.length, T1.map (fun t => Value.bool t.sc), T.length, T1.map (fun t => Value.bool t.tl), T.length, T1.map (fun t => Value.int .i64 (t.la : Int))⟩ gr lf) := by
        unfold rows at hx1
        rw [n1] at hx1
        exact hx1
      have k8 : (T.length : Int) < 8 := by omega
      have nb : b ≠ gl := fun e => own_ty hx.l hx.bl (by decide) (by rw [e]; rfl)
      have ht1 : T1[k]? = some { t with bo := false } := by rw [hT1, List.getElem?_set_self hk]
      have HSh : Hid ((w.setCell ⟨gl, k * 4 + 2, none⟩ (.bool false)).cell? ⟨gl, k * 4 + 3, none⟩ = some (.int .i64 t.sh)) := own_cell HX1.out.l (lf4_at T1 k _ ht1).2.2.2
      obtain ⟨i0, hi0, hz0, hz1, hz2⟩ := info_parts infoLf
      obtain ⟨i1, hi1, hy0, hy1, hy2⟩ := info_parts infoB
      obtain ⟨i2, hi2, hx0, hx1', hx2⟩ := info_parts infoI
      have hmx : Try.prog.follows .mixedOrders = true := by kernel_rfl
      clear q0 q1 q2 q3 os ot ol oa hx hx1 ht1 hT1
      go_enter Try.func20, Try.ntmps20
      go_upto_region 2 with fail
      generalize (w.setCell ⟨gl, k * 4 + 2, none⟩ (.bool false)) = W1 at HX1 HSh ⊢
      clear f0 f1 f2 f3 r0 r1 r2 r3 r0b r0s zs zt za zl lb ls lt ll la
      have s1 := HSh.out
      obtain ⟨s2, s3, lb⟩ := HX1.out.cellF 0 _ rfl
      have ll : gl < W1.heap.size := (HX1.out.l.lt gl rfl).2
      have hnb : (Value.slice (some ⟨gl, 0, none⟩) T.length cl).ownBlock ≠ some b := fun e => nb (Option.some.inj e).symm
      have hbs : w0.heap.size ≤ W1.heap.size := HX1.out.bel.size
      go_region_law (refine step_append_lies _ rfl _ _ 39 rfl w0.heap.size 47 i0 (.agg #[.bool false, .int .i64 0, .bool false, .int .i64 0]) 4 32 Try.underlying39 hi0 hz0 hz1 hz2 rfl (by decide) (.slice (some ⟨gl, 0, none⟩) T.length cl) T.length (lf4 T1) rfl (World.ownsRow.alloc (w := W1.drew) HX1.out.drew.l _) ⟨_, 0, none⟩ 1 1 [.bool false, .int .i64 0, .bool false, .int .i64 t.sh] rfl rfl (World.news_of_block (cs := #[.bool false, .int .i64 0, .bool false, .int .i64 t.sh]) (heap_alloc_new W1.drew _)) (by intro u hu; simp at hu; rcases hu with rfl | rfl | rfl | rfl <;> rfl) (by omega) (by unfold maxLen; omega) (by omega) (by show w0.heap.size ≤ (W1.alloc _).heap.size; rw [World.size_alloc]; omega) _ rfl ?_; intro g7 k7 w7 hown7 hgr7 hat7 hlt7; obtain ⟨c7, z7, l7⟩ := grow_fact (W := W1.drew) hgr7 hnb ⟨s2, s3, lb⟩)
      all_goals
        have HX7 : Hid (WX w0 w1 (w7.setCell ⟨b, 0, none⟩ (.slice (some ⟨g7, 0, none⟩) (T.length + 1) k7)) b ⟨(.slice (some ⟨g7, 0, none⟩) (T.length + 1) k7), (.slice (some ⟨gs, 0, none⟩) T.length cs), (.slice (some ⟨gt, 0, none⟩) T.length ct), (.slice (some ⟨ga, 0, none⟩) T.length ca)⟩ ⟨(T.length + 1), lf4 T1 ++ [.bool false, .int .i64 0, .bool false, .int .i64 t.sh], T.length, T1.map (fun t => Value.bool t.sc), T.length, T1.map (fun t => Value.bool t.tl), T.length, T1.map (fun t => Value.int .i64 (t.la : Int))⟩ gr lf) := (HX1.out.drew.alloc _).growL hgr7 hown7
        clear hown7 hgr7 hat7 hlt7 HX1 HSh s1 s2 s3 hnb lb ll hbs
        go_upto_region 3 with fail
        generalize w7.setCell ⟨b, 0, none⟩ (.slice (some ⟨g7, 0, none⟩) (T.length + 1) k7) = W7 at HX7 ⊢
        clear c7 z7 l7
        obtain ⟨s2, s3, lb⟩ := HX7.out.cellF 1 _ rfl
        have hnb : (Value.ownBlock (.slice (some ⟨gs, 0, none⟩) T.length cs)) ≠ some b := fun e => own_ty HX7.out.s HX7.out.bl (by decide) e
        have hbs : w0.heap.size ≤ W7.heap.size := HX7.out.bel.size
        have hll : ∀ g, (Value.ownBlock (.slice (some ⟨gs, 0, none⟩) T.length cs)) = some g → g < W7.heap.size := fun g hg => (HX7.out.s.lt g hg).2
        go_wp2_with (at_builtin; refine stop_of ?_)
        unfold Hid
        refine wpList_append_lies _ rfl _ _ 40 rfl w0.heap.size 4 i1 (.bool false) 1 1 Try.underlying40 hi1 hy0 hy1 hy2 rfl (by decide) (.slice (some ⟨gs, 0, none⟩) T.length cs) T.length (T1.map (fun t => Value.bool t.sc)) rfl (HX7.out.s.alloc _) ⟨W7.heap.size, 0, none⟩ 1 1 [.bool false] rfl rfl (World.news_of_block (cs := #[.bool false]) (heap_alloc_new W7 _)) (by intro u hu; simp at hu; subst hu; rfl) (by omega) (by unfold maxLen; omega) (by omega) (by rw [World.size_alloc]; omega) _ rfl ?_
        intro g8 k8 w8 hown hgr hat _
        obtain ⟨c7, z7, l7⟩ := grow_fact hgr hnb ⟨s2, s3, lb⟩
        have HX8 : Hid (WX w0 w1 (w8.setCell ⟨b, 1, none⟩ (.slice (some ⟨g8, 0, none⟩) (T.length + 1) k8)) b ⟨(.slice (some ⟨g7, 0, none⟩) (T.length + 1) k7), (.slice (some ⟨g8, 0, none⟩) (T.length + 1) k8), (.slice (some ⟨gt, 0, none⟩) T.length ct), (.slice (some ⟨ga, 0, none⟩) T.length ca)⟩ ⟨(T.length + 1), lf4 T1 ++ [.bool false, .int .i64 0, .bool false, .int .i64 t.sh], (T.length + 1), T1.map (fun t => Value.bool t.sc) ++ [.bool false], T.length, T1.map (fun t => Value.bool t.tl), T.length, T1.map (fun t => Value.int .i64 (t.la : Int))⟩ gr lf) := (HX7.out.alloc _).growS hgr hown (own_or hat)
        clear hown hgr hat HX7 s2 s3 lb hnb hbs hll
        go_upto_region 4 with fail
        generalize w8.setCell ⟨b, 1, none⟩ (.slice (some ⟨g8, 0, none⟩) (T.length + 1) k8) = W8 at HX8 ⊢
        clear c7 z7 l7
        obtain ⟨s2, s3, lb⟩ := HX8.out.cellF 2 _ rfl
        have hnb : (Value.ownBlock (.slice (some ⟨gt, 0, none⟩) T.length ct)) ≠ some b := fun e => own_ty HX8.out.t HX8.out.bl (by decide) e
        have hbs : w0.heap.size ≤ W8.heap.size := HX8.out.bel.size
        have hll : ∀ g, (Value.ownBlock (.slice (some ⟨gt, 0, none⟩) T.length ct)) = some g → g < W8.heap.size := fun g hg => (HX8.out.t.lt g hg).2
        go_wp2_with (at_builtin; refine stop_of ?_)
        unfold Hid
        refine wpList_append_lies _ rfl _ _ 40 rfl w0.heap.size 4 i1 (.bool false) 1 1 Try.underlying40 hi1 hy0 hy1 hy2 rfl (by decide) (.slice (some ⟨gt, 0, none⟩) T.length ct) T.length (T1.map (fun t => Value.bool t.tl)) rfl (HX8.out.t.alloc _) ⟨W8.heap.size, 0, none⟩ 1 1 [.bool false] rfl rfl (World.news_of_block (cs := #[.bool false]) (heap_alloc_new W8 _)) (by intro u hu; simp at hu; subst hu; rfl) (by omega) (by unfold maxLen; omega) (by omega) (by rw [World.size_alloc]; omega) _ rfl ?_
        intro g9 k9 w9 hown hgr hat _
        obtain ⟨c7, z7, l7⟩ := grow_fact hgr hnb ⟨s2, s3, lb⟩
        have HX9 : Hid (WX w0 w1 (w9.setCell ⟨b, 2, none⟩ (.slice (some ⟨g9, 0, none⟩) (T.length + 1) k9)) b ⟨(.slice (some ⟨g7, 0, none⟩) (T.length + 1) k7), (.slice (some ⟨g8, 0, none⟩) (T.length + 1) k8), (.slice (some ⟨g9, 0, none⟩) (T.length + 1) k9), (.slice (some ⟨ga, 0, none⟩) T.length ca)⟩ ⟨(T.length + 1), lf4 T1 ++ [.bool false, .int .i64 0, .bool false, .int .i64 t.sh], (T.length + 1), T1.map (fun t => Value.bool t.sc) ++ [.bool false], (T.length + 1), T1.map (fun t => Value.bool t.tl) ++ [.bool false], T.length, T1.map (fun t => Value.int .i64 (t.la : Int))⟩ gr lf) := (HX8.out.alloc _).growT hgr hown (own_or hat)
        clear hown hgr hat HX8 s2 s3 lb hnb hbs hll
        go_upto_region 5 with fail
        generalize w9.setCell ⟨b, 2, none⟩ (.slice (some ⟨g9, 0, none⟩) (T.length + 1) k9) = W9 at HX9 ⊢
        clear c7 z7 l7
        obtain ⟨s2, s3, lb⟩ := HX9.out.cellF 3 _ rfl
        have hnb : (Value.ownBlock (.slice (some ⟨ga, 0, none⟩) T.length ca)) ≠ some b := fun e => own_ty HX9.out.a HX9.out.bl (by decide) e
        have hbs : w0.heap.size ≤ W9.heap.size := HX9.out.bel.size
        have hll : ∀ g, (Value.ownBlock (.slice (some ⟨ga, 0, none⟩) T.length ca)) = some g → g < W9.heap.size := fun g hg => (HX9.out.a.lt g hg).2
        go_wp2_with (at_builtin; refine stop_of ?_)
        unfold Hid
        refine wpList_append_lies _ rfl _ _ 43 rfl w0.heap.size 3 i2 (.int .i64 0) 1 8 Try.underlying43 hi2 hx0 hx1' hx2 rfl (by decide) (.slice (some ⟨ga, 0, none⟩) T.length ca) T.length (T1.map (fun t => Value.int .i64 (t.la : Int))) rfl (HX9.out.a.alloc _) ⟨W9.heap.size, 0, none⟩ 1 1 [.int .i64 0] rfl rfl (World.news_of_block (cs := #[.int .i64 0]) (heap_alloc_new W9 _)) (by intro u hu; simp at hu; subst hu; rfl) (by omega) (by unfold maxLen; omega) (by omega) (by rw [World.size_alloc]; omega) _ rfl ?_
        intro g10 k10 w10 hown hgr hat _
        obtain ⟨c7, z7, l7⟩ := grow_fact hgr hnb ⟨s2, s3, lb⟩
        have HX10 : Hid (WX w0 w1 (w10.setCell ⟨b, 3, none⟩ (.slice (some ⟨g10, 0, none⟩) (T.length + 1) k10)) b ⟨(.slice (some ⟨g7, 0, none⟩) (T.length + 1) k7), (.slice (some ⟨g8, 0, none⟩) (T.length + 1) k8), (.slice (some ⟨g9, 0, none⟩) (T.length + 1) k9), (.slice (some ⟨g10, 0, none⟩) (T.length + 1) k10)⟩ ⟨(T.length + 1), lf4 T1 ++ [.bool false, .int .i64 0, .bool false, .int .i64 t.sh], (T.length + 1), T1.map (fun t => Value.bool t.sc) ++ [.bool false], (T.length + 1), T1.map (fun t => Value.bool t.tl) ++ [.bool false], (T.length + 1), T1.map (fun t => Value.int .i64 (t.la : Int)) ++ [.int .i64 0]⟩ gr lf) := (HX9.out.alloc _).growA hgr hown
        clear hown hgr hat HX9 s2 s3 lb hnb hbs hll
        go_wp2
        refine bodyPost_end (results_none rfl _ _ _) rfl ⟨rfl, ?_⟩
        rw [HE.out]
        refine ⟨⟨(.slice (some ⟨g7, 0, none⟩) (T.length + 1) k7), (.slice (some ⟨g8, 0, none⟩) (T.length + 1) k8), (.slice (some ⟨g9, 0, none⟩) (T.length + 1) k9), (.slice (some ⟨g10, 0, none⟩) (T.length + 1) k10)⟩, ?_⟩
        rw [rows_app, n1]
        exact HX10.out
    · have HF : Hid (TX w0 w1 w b (bornT T k t) gr lf) := by
        have e : bornT T k t = T := if_neg (by omega)
        rw [e]
        exact ⟨v, hx⟩
      have k8 : ¬ (T.length : Int) < 8 := by omega
      clear q0 q1 q2 q3 os ot ol oa hx hvs hvt hvl hva
      go_enter Try.func20, Try.ntmps20
      go_wp2
      exact bodyPost_end (results_none rfl _ _ _) rfl ⟨rfl, HF.out⟩
end Go.Proofs.Ytnohcmfhhoiihaa
