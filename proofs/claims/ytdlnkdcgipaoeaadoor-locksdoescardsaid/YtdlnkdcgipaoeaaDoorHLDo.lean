/- What a book does: Start, SetGlobal, Join, Lock, Unlock. -/
import Derived.Test.YtdlnkdcgipaoeaaDoorGA
namespace Go.Proofs.YtdlnkdcgipaoeaaDoor
open Go.RowKit

theorem BB.br {w w' : World} {b : Nat} {B : Bk} {F : Nat → Prop} (h : BB w b B F) (hb : Below w.heap.size w w') : BR b B F w w' := ⟨F, h.below hb, Chg.quiet F hb⟩
theorem br_of {w w' : World} {b : Nat} {pt pl pg pt' pl' pg' : Sl} {T T' : List (Sl × Th)} {L L' : List (Sl × Lk)} {G' : List Int} (h : BX w' b pt' pl' pg' T' L' G' ∧ Chg (Ft b pt pl pg T L) (Ft b pt' pl' pg' T' L') w w') : BR b ⟨T'.map (·.2), L'.map (·.2), G'⟩ (Ft b pt pl pg T L) w w' := ⟨_, ⟨pt', pl', pg', T', L', h.1, rfl, rfl, rfl⟩, h.2⟩
theorem BR.quiet {w w' w'' : World} {b : Nat} {B : Bk} {F : Nat → Prop} (h : BR b B F w w') (hb : Below w'.heap.size w' w'') : BR b B F w w'' := by
  obtain ⟨F', h1, h2⟩ := h
  exact ⟨F', h1.below hb, h2.trans (Chg.quiet F' hb)⟩
theorem below_drewM {n : Nat} {w0 w : World} (h : Below n w0 w) (k : Nat) : Below n w0 (w.drewN k) := by
  induction k generalizing w with
  | zero => exact h
  | succ k ih => exact (ih h).drew
theorem drew_all (w : World) : Below w.heap.size w w.drew := (Below.refl _ _).drew
set_option maxRecDepth 100000 in
set_option maxHeartbeats 4000000 in
theorem start_any {w : World} {b : Nat} {B : Bk} {F : Nat → Prop} (h : BB w b B F) :
    Calls Tryd.prog 13 #[.pointer (some ⟨b, 0, none⟩)] w fun e w' => e = .returned (.tuple #[.int .i64 (startM B).1.1, .int .i64 (startM B).1.2]) ∧ BR b (startM B).2 F w w' := by
  have HB : Hid (BB w b B F) := h
  obtain ⟨pt, pl, pg, T, L, hX, hT, hL, rfl⟩ := h
  obtain ⟨Bt, Bl, Bg⟩ := B
  dsimp only at hT hL hX
  subst hT hL
  have c0 := hX.c0
  have lb := heap_lt hX.obj
  have tn := hX.tn
  by_cases h8 : T.length = 8
  · have HE : startM ⟨T.map (·.2), L.map (·.2), Bg⟩ = ((0, 194), ⟨T.map (·.2), L.map (·.2), Bg⟩) := by unfold startM; rw [if_pos (by simpa using h8)]
    rw [HE]
    dsimp only
    have HF : Hid _ := HB.out.br (Below.refl w.heap.size w)
    rw [h8] at c0
    clear HB hX HE h8 tn
    go_enter Tryd.func13, Tryd.ntmps13
    go_wp2
    exact bodyPost_ret (results_tmp2 rfl _ _ _) rfl ⟨rfl, HF.out⟩
  · have HE : startM ⟨T.map (·.2), L.map (·.2), Bg⟩ = (((T.length : Int) + 1, 0), ⟨(T ++ [((⟨none, 0⟩ : Sl), (⟨[], false, 0, 0⟩ : Th))]).map (fun p : Sl × Th => p.2), L.map (·.2), Bg⟩) := by
      unfold startM
      rw [if_neg (by simpa using h8)]
      simp
    rw [HE]
    dsimp only
    obtain ⟨i0, hi0, hz0, hz1, hz2⟩ := info_parts infoT
    have k8 : ¬ (T.length : Int) = 8 := by omega
    have HX : Hid (BX w b pt pl pg T L Bg) := hX
    have HO : Hid (w.ownsRow 0 124 4 (.slice pt.ra T.length pt.cap) T.length (T.flatMap tc)) := hX.t
    have hlt : T.length < 8 := by omega
    obtain ⟨ra, ca⟩ := pt
    clear HB hX HE
    go_enter Tryd.func13, Tryd.ntmps13
    go_wp2_with (at_builtin; refine stop_of ?_)
    unfold Hid
    refine wpList_append_lies _ rfl _ _ 94 rfl 0 124 i0 _ 4 48 Tryd.underlying94 hi0 hz0 hz1 hz2 rfl (by decide) (.slice ra T.length ca) T.length (T.flatMap tc) rfl (HO.out.alloc _) ⟨w.heap.size, 0, none⟩ 1 1 [.slice none 0 0, .bool false, .int .u64 0, .int .i64 0] rfl rfl (fun j u hu => ?_) (fun u hu => ?_) (by omega) (by unfold maxLen; omega) (by omega) (Nat.zero_le _) _ rfl ?_
    · rw [ad_add, Nat.zero_add]
      exact new_cell w _ _ j u (by simpa using hu)
    · simp at hu
      rcases hu with rfl | rfl | rfl | rfl <;> rfl
    · intro g cap w1 hown hgr hgb hgl
      have hA := HX.out.addT hlt (by rw [← ob_eq]; exact hgr) hown (by rw [← ob_eq (n := T.length)]; exact hgb)
      have HR : Hid (BR b ⟨(T ++ [((⟨none, 0⟩ : Sl), (⟨[], false, 0, 0⟩ : Th))]).map (fun p : Sl × Th => p.2), L.map (·.2), Bg⟩ (Ft b ⟨ra, ca⟩ pl pg T L) w (w1.setCell ⟨b, 0, none⟩ (.slice (some ⟨g, 0, none⟩) (T.length + 1) cap))) := br_of hA
      have hob : w1.heap[b]? = some _ := (hgr.block b (by rw [World.size_alloc]; omega) (fun e => by
        obtain ⟨c2, h2⟩ := own_blk HO.out e.symm
        have := HX.out.obj
        rw [h2] at this
        cases this)).trans ((Below.heap_alloc _ _ _ lb).trans HX.out.obj)
      have f0 : w1.frozen? ⟨b, 0, none⟩ = false := by simp [World.frozen?, hob]
      have c1 : w1.cell? ⟨b, 0, none⟩ = some (.slice ra T.length ca) := heap_cell hob rfl
      have l1 := heap_lt hob
      clear hA hob hown hgr hgb HX HO c0 hgl
      go_wp2
      exact bodyPost_ret (results_tmp2 rfl _ _ _) rfl ⟨rfl, HR.out⟩
set_option maxRecDepth 100000 in
set_option maxHeartbeats 4000000 in
theorem setGlobal_any {w : World} {b : Nat} {B : Bk} {F : Nat → Prop} (h : BB w b B F) (i y : Int) :
    Calls Tryd.prog 39 #[.pointer (some ⟨b, 0, none⟩), .int .i64 i, .int .u64 y] w fun e w' => e = .returned (.tuple #[.int .u64 (setM B i y).1.1, .int .i64 (setM B i y).1.2]) ∧ BR b (setM B i y).2 F w w' := by
  have HB : Hid (BB w b B F) := h
  obtain ⟨pt, pl, pg, T, L, hX, hT, hL, rfl⟩ := h
  obtain ⟨Bt, Bl, Bg⟩ := B
  dsimp only at hT hL hX
  subst hT hL
  have HG : Hid _ := global_any hX i
  have c2 := hX.c2
  have lb := heap_lt hX.obj
  cases hB : isL Bg.length i
  · have HE : setM ⟨T.map (·.2), L.map (·.2), Bg⟩ i y = ((0, 1), ⟨T.map (·.2), L.map (·.2), Bg⟩) := by unfold setM; dsimp only; rw [hB]; rfl
    have HE2 : glX Bg i = (0, 1) := by unfold glX; rw [hB]; rfl
    rw [HE]
    rw [HE2] at HG
    dsimp only at HG ⊢
    have HF : Hid _ := HB.out.br (Below.refl w.heap.size w)
    clear HB hX HE HE2 hB
    go_enter Tryd.func39, Tryd.ntmps39
    go_wp2_with fail
    refine Calls.mono HG.out ?_
    rintro e w2 ⟨rfl, hw2⟩
    rw [hw2]
    clear hw2
    go_wp2
    exact bodyPost_ret (results_tmp2 rfl _ _ _) rfl ⟨rfl, HF.out⟩
  · obtain ⟨j, rfl, hj⟩ := isL_at hB
    obtain ⟨x, hx⟩ : ∃ x, Bg[j]? = some x := ⟨_, List.getElem?_eq_getElem hj⟩
    obtain ⟨gg, hp, -, lg, cs, hcs, hc⟩ := hX.gf hx
    have HE : setM ⟨T.map (·.2), L.map (·.2), Bg⟩ (j : Int) y = ((x, 0), ⟨T.map (·.2), L.map (·.2), Bg.set j y⟩) := by unfold setM; dsimp only; rw [hB, if_pos rfl, Int.toNat_natCast, hx]; rfl
    have HE2 : glX Bg (j : Int) = (x, 0) := by unfold glX; rw [hB, if_pos rfl, Int.toNat_natCast, hx]; rfl
    rw [HE]
    rw [HE2] at HG
    dsimp only at HG ⊢
    have HR : Hid (BR b ⟨T.map (·.2), L.map (·.2), Bg.set j y⟩ (Ft b pt pl pg T L) w (w.setCell ⟨gg, j, none⟩ (.int .u64 y))) := br_of (hX.glG (i := j) y hp)
    have d1 := heap_cell hcs hc
    have f1 : w.frozen? ⟨gg, j, none⟩ = false := by simp [World.frozen?, hcs]
    have k1 : (0 : Int) ≤ (j : Int) := by omega
    have k2 : (j : Int) < (Bg.length : Int) := by omega
    rw [hp] at c2
    clear HB hX HE HE2 hB hcs hc hp
    go_enter Tryd.func39, Tryd.ntmps39
    go_wp2_with fail
    refine Calls.mono HG.out ?_
    rintro e w2 ⟨rfl, hw2⟩
    rw [hw2]
    clear hw2
    go_wp2
    exact bodyPost_ret (results_tmp2 rfl _ _ _) rfl ⟨rfl, HR.out⟩
set_option maxRecDepth 100000 in
set_option maxHeartbeats 4000000 in
theorem lock_any {w : World} {b : Nat} {B : Bk} {F : Nat → Prop} (h : BB w b B F) (hS : Sh B) (t k : Int) :
    Calls Tryd.prog 17 #[.pointer (some ⟨b, 0, none⟩), .int .i64 t, .int .i64 k] w fun e w' => e = .returned (.tuple #[.bool (lockM B t k).1.1, .int .i64 (lockM B t k).1.2]) ∧ BR b (lockM B t k).2 F w w' := by
  have HB : Hid (BB w b B F) := h
  obtain ⟨pt, pl, pg, T, L, hX, hT, hL, rfl⟩ := h
  obtain ⟨Bt, Bl, Bg⟩ := B
  dsimp only at hT hL hX
  subst hT hL
  have HI : Hid _ := isLock_any hX k
  have HG : Hid _ := going_any hX (shT_of hS) t
  rw [← goB_is T L Bg] at HG
  have c1 := hX.c1
  have lb := heap_lt hX.obj
  have HS : Hid (ShT T L) := shT_of hS
  have HQ : Hid _ := HB.out.br (Below.refl w.heap.size w)
  clear hS HB
  cases hB : isL L.length k
  · have HE : lockM ⟨T.map (·.2), L.map (·.2), Bg⟩ t k = ((false, 190), ⟨T.map (·.2), L.map (·.2), Bg⟩) := by unfold lockM; dsimp only; rw [List.length_map, hB]; rfl
    rw [HE]
    rw [hB] at HI
    dsimp only
    clear hX HE hB HG
    go_enter Tryd.func17, Tryd.ntmps17
    go_wp2_with fail
    refine Calls.mono HI.out ?_
    rintro e w2 ⟨rfl, hw2⟩
    rw [hw2]
    clear hw2
    go_wp2
    exact bodyPost_ret (results_tmp2 rfl _ _ _) rfl ⟨rfl, HQ.out⟩
  · obtain ⟨j, rfl, hj⟩ := isL_at hB
    obtain ⟨x, hx⟩ : ∃ x, L[j]? = some x := ⟨_, List.getElem?_eq_getElem hj⟩
    have HE : lockM ⟨T.map (·.2), L.map (·.2), Bg⟩ t (j : Int) = if goB ⟨T.map (·.2), L.map (·.2), Bg⟩ t ≠ 0 then ((false, goB ⟨T.map (·.2), L.map (·.2), Bg⟩ t), ⟨T.map (·.2), L.map (·.2), Bg⟩) else if x.2.ho = t then ((false, 191), ⟨T.map (·.2), L.map (·.2), Bg⟩) else if x.2.ho = 0 then ((true, 0), ⟨T.map (·.2), (L.set j (x.1, { x.2 with ho := t })).map (·.2), Bg⟩) else ((false, 0), ⟨T.map (·.2), (L.set j (x.1, { x.2 with row := x.2.row ++ [t] })).map (·.2), Bg⟩) := by
      unfold lockM
      dsimp only
      rw [List.length_map, hB, if_neg (by simp), List.getElem?_map, Int.toNat_natCast, hx]
      simp [List.map_set]
    rw [HE]
    rw [hB] at HI
    clear HE hB
    generalize goB ⟨T.map (·.2), L.map (·.2), Bg⟩ t = ge at HG ⊢
    by_cases hge : ge = 0
    · subst hge
      rw [if_neg (by simp)]
      obtain ⟨gl, hp, -, lg, cs, hcs, hc0, hc1⟩ := hX.lf hx
      have d1 := heap_cell hcs hc1
      have f1 : w.frozen? ⟨gl, j * 2 + 1, none⟩ = false := by simp [World.frozen?, hcs]
      have k1 : (0 : Int) ≤ (j : Int) := by omega
      have k2 : (j : Int) < (L.length : Int) := by omega
      rw [hp] at c1
      by_cases h1 : x.2.ho = t
      · rw [if_pos h1]
        rw [h1] at d1
        dsimp only
        clear hX hcs hc0 hc1 hp h1
        go_enter Tryd.func17, Tryd.ntmps17
        go_wp2_with fail
        refine Calls.mono HI.out ?_
        rintro e w2 ⟨rfl, hw2⟩
        rw [hw2]
        clear hw2
        go_wp2_with fail
        refine Calls.mono HG.out ?_
        rintro e w2 ⟨rfl, hw2⟩
        rw [hw2]
        clear hw2
        go_wp2
        exact bodyPost_ret (results_tmp2 rfl _ _ _) rfl ⟨rfl, HQ.out⟩
      · rw [if_neg h1]
        by_cases h2 : x.2.ho = 0
        · rw [if_pos h2]
          have HR : Hid (BR b ⟨T.map (·.2), (L.set j (x.1, { x.2 with ho := t })).map (·.2), Bg⟩ (Ft b pt pl pg T L) w (w.setCell ⟨gl, j * 2 + 1, none⟩ (.int .i64 t))) := br_of (hX.hoL t hx hp)
          rw [h2] at d1 h1
          dsimp only
          clear hX hcs hc0 hc1 hp HQ
          go_enter Tryd.func17, Tryd.ntmps17
          go_wp2_with fail
          refine Calls.mono HI.out ?_
          rintro e w2 ⟨rfl, hw2⟩
          rw [hw2]
          clear hw2
          go_wp2_with fail
          refine Calls.mono HG.out ?_
          rintro e w2 ⟨rfl, hw2⟩
          rw [hw2]
          clear hw2
          go_wp2
          exact bodyPost_ret (results_tmp2 rfl _ _ _) rfl ⟨rfl, HR.out⟩
        · rw [if_neg h2]
          have HT : Hid _ := stand_any gl (j * 2) x.1 x.2.row t w hcs (by decide) hc0 (hX.r.r _ _ (rws_l T hx)) (HS.out _ (List.mem_of_getElem? (rws_l T hx)))
          have HX : Hid (BX w b pt pl pg T L Bg) := hX
          have HX1 : Hid (L[j]? = some x ∧ pl.ra = some ⟨gl, 0, none⟩) := ⟨hx, hp⟩
          dsimp only
          clear hX hcs hc0 hc1 hp HQ hx
          go_enter Tryd.func17, Tryd.ntmps17
          go_wp2_with fail
          refine Calls.mono HI.out ?_
          rintro e w2 ⟨rfl, hw2⟩
          rw [hw2]
          clear hw2
          go_wp2_with fail
          refine Calls.mono HG.out ?_
          rintro e w2 ⟨rfl, hw2⟩
          rw [hw2]
          clear hw2
          go_wp2_with fail
          refine Calls.mono HT.out ?_
          rintro e w2 ⟨rfl, s', w1, hw2, hR1, hk1, hb1, hq1⟩
          have HR : Hid (BR b ⟨T.map (·.2), (L.set j (x.1, { x.2 with row := x.2.row ++ [t] })).map (·.2), Bg⟩ (Ft b pt pl pg T L) w w2) := by
            show BR _ _ _ _ _
            rw [hw2]
            have := br_of (HX.out.rowL HX1.out.1 hR1 hk1 hb1 hq1 HX1.out.2)
            rw [List.length_append] at this
            simpa [List.map_set] using this
          clear hw2 hR1 hk1 hb1 hq1 HX HX1 HT
          go_wp2
          exact bodyPost_ret (results_tmp2 rfl _ _ _) rfl ⟨rfl, HR.out⟩
    · rw [if_pos hge]
      dsimp only
      clear hX
      go_enter Tryd.func17, Tryd.ntmps17
      go_wp2_with fail
      refine Calls.mono HI.out ?_
      rintro e w2 ⟨rfl, hw2⟩
      rw [hw2]
      clear hw2
      go_wp2_with fail
      refine Calls.mono HG.out ?_
      rintro e w2 ⟨rfl, hw2⟩
      rw [hw2]
      clear hw2
      go_wp2
      exact bodyPost_ret (results_tmp2 rfl _ _ _) rfl ⟨rfl, HQ.out⟩
end Go.Proofs.YtdlnkdcgipaoeaaDoor
