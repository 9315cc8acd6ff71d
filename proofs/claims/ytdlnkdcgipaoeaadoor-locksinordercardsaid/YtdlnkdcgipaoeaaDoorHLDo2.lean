/- What a book does: Unlock, Join. -/
import Derived.Test.YtdlnkdcgipaoeaaDoorHLSort
namespace Go.Proofs.YtdlnkdcgipaoeaaDoor
open Go.RowKit

section
variable {w : World} {b : Nat} {pt pl pg : Sl} {T : List (Sl × Th)} {L : List (Sl × Lk)} {G : List Int}
/-- A lock that is handed on. -/
def hnd (x : Lk) : Lk := ⟨x.row.tail, x.row.headD 0⟩
theorem handOn_bx (h : BX w b pt pl pg T L G) (hS : ShT T L) {j gl : Nat} {x : Sl × Lk} (hi : L[j]? = some x) (hp : pl.ra = some ⟨gl, 0, none⟩) :
    Calls Tryd.prog 70 #[.pointer (some ⟨gl, j * 2, none⟩)] w fun e w' => e = .returned (.int .i64 (x.2.row.headD 0)) ∧ ∃ s', BX w' b pt pl pg T (L.set j (s', hnd x.2)) G ∧ Chg (Ft b pt pl pg T L) (Ft b pt pl pg T (L.set j (s', hnd x.2))) w w' := by
  obtain ⟨g', hp', -, lg, cs, hcs, hc0, hc1⟩ := h.lf hi
  rw [hp] at hp'
  cases hp'
  have hlt := (List.getElem?_eq_some_iff.1 hi).1
  obtain ⟨s, ⟨row, ho⟩⟩ := x
  have hr := h.r.r _ _ (rws_l T hi)
  have hl := hS _ (List.mem_of_getElem? (rws_l T hi))
  cases row with
  | nil =>
    refine Calls.mono (handOn_none gl (j * 2) s ho w hcs hc0 hc1) ?_
    rintro e w' ⟨rfl, rfl⟩
    exact ⟨rfl, s, h.hoL 0 hi hp⟩
  | cons y r =>
    simp only [List.length_cons] at hl hc0
    refine Calls.mono (handOn_some gl (j * 2) s y r ho w hcs hc0 hc1 hr (by omega)) ?_
    rintro e w' ⟨rfl, rfl⟩
    obtain ⟨_, _, _, _, _, _, hn, hb⟩ := hr.cons
    have h1 := h.rowL (w1 := w) hi hn (fun _ _ _ => rfl) (Below.refl _ _) (.inl hb) hp
    have h2 := h1.1.hoL (x := (s.next r.length, ⟨r, ho⟩)) y (List.getElem?_set_self hlt) hp
    rw [List.set_set] at h2
    exact ⟨rfl, _, h2.1, h1.2.trans h2.2⟩
theorem takeFirst_bx (h : BX w b pt pl pg T L G) (hS : ShT T L) {i gt : Nat} {x : Sl × Th} (hi : T[i]? = some x) (hp : pt.ra = some ⟨gt, 0, none⟩) :
    Calls Tryd.prog 72 #[.pointer (some ⟨gt, i * 4, none⟩)] w fun e w' => e = .returned (.int .i64 (x.2.row.headD 0)) ∧ ∃ s', BX w' b pt pl pg (T.set i (s', { x.2 with row := x.2.row.tail })) L G ∧ Chg (Ft b pt pl pg T L) (Ft b pt pl pg (T.set i (s', { x.2 with row := x.2.row.tail })) L) w w' := by
  obtain ⟨g', hp', -, lg, cs, hcs, hc0, -⟩ := h.tf hi
  rw [hp] at hp'
  cases hp'
  obtain ⟨s, ⟨row, en, wd, er⟩⟩ := x
  have hr := h.r.r _ _ (rws_t L hi)
  have hl := hS _ (List.mem_of_getElem? (rws_t L hi))
  cases row with
  | nil =>
    refine Calls.mono (takeFirst_none gt (i * 4) s w lg (heap_cell hcs hc0)) ?_
    rintro e w' ⟨rfl, rfl⟩
    refine ⟨rfl, s, ?_⟩
    have e : T.set i (s, { ({ row := [], en := en, wd := wd, er := er } : Th) with row := List.tail [] }) = T := by
      have hlt := (List.getElem?_eq_some_iff.1 hi).1
      have hx : T[i] = (s, ⟨[], en, wd, er⟩) := (List.getElem?_eq_some_iff.1 hi).2
      show T.set i (s, ⟨[], en, wd, er⟩) = T
      rw [← hx]
      exact List.set_getElem_self hlt
    rw [e]
    exact ⟨h, Chg.quiet _ (Below.refl _ _)⟩
  | cons y r =>
    simp only [List.length_cons] at hl hc0
    refine Calls.mono (takeFirst_some gt (i * 4) s y r w hcs hc0 hr (by omega)) ?_
    rintro e w' ⟨rfl, rfl⟩
    obtain ⟨_, _, _, _, _, _, hn, hb⟩ := hr.cons
    exact ⟨rfl, _, h.rowT (w1 := w) hi hn (fun _ _ _ => rfl) (Below.refl _ _) (.inl hb) hp⟩
end
set_option maxRecDepth 100000 in
set_option maxHeartbeats 4000000 in
theorem unlock_any {w : World} {b : Nat} {B : Bk} {F : Nat → Prop} (h : BB w b B F) (hS : Sh B) (t k : Int) :
    Calls Tryd.prog 25 #[.pointer (some ⟨b, 0, none⟩), .int .i64 t, .int .i64 k] w fun e w' => e = .returned (.tuple #[.int .i64 (unlockM B t k).1.1, .int .i64 (unlockM B t k).1.2]) ∧ BR b (unlockM B t k).2 F w w' := by
  have HB : Hid (BB w b B F) := h
  obtain ⟨pt, pl, pg, T, L, hX, hT, hL, rfl⟩ := h
  obtain ⟨Bt, Bl, Bg⟩ := B
  dsimp only at hT hL hX
  subst hT hL
  have HI : Hid _ := isLock_any hX k
  have HG : Hid _ := going_any hX (shT_of hS) t
  rw [← goB_is T L Bg] at HG
  have c1 := hX.c1
  have lb := heap_lt hX.obj
  have HS : Hid (ShT T L) := shT_of hS
  have HQ : Hid _ := HB.out.br (Below.refl w.heap.size w)
  clear hS HB
  cases hB : isL L.length k
  · have HE : unlockM ⟨T.map (·.2), L.map (·.2), Bg⟩ t k = ((0, 190), ⟨T.map (·.2), L.map (·.2), Bg⟩) := by unfold unlockM; dsimp only; rw [List.length_map, hB]; rfl
    rw [HE]
    rw [hB] at HI
    dsimp only
    clear hX HE hB HG
    go_enter Tryd.func25, Tryd.ntmps25
    go_wp2_with fail
    refine Calls.mono HI.out ?_
    rintro e w2 ⟨rfl, hw2⟩
    rw [hw2]
    clear hw2
    go_wp2
    exact bodyPost_ret (results_tmp2 rfl _ _ _) rfl ⟨rfl, HQ.out⟩
  · obtain ⟨j, rfl, hj⟩ := isL_at hB
    obtain ⟨x, hx⟩ : ∃ x, L[j]? = some x := ⟨_, List.getElem?_eq_getElem hj⟩
    have HE : unlockM ⟨T.map (·.2), L.map (·.2), Bg⟩ t (j : Int) = if goB ⟨T.map (·.2), L.map (·.2), Bg⟩ t ≠ 0 then ((0, goB ⟨T.map (·.2), L.map (·.2), Bg⟩ t), ⟨T.map (·.2), L.map (·.2), Bg⟩) else if x.2.ho ≠ t then ((0, 192), ⟨T.map (·.2), L.map (·.2), Bg⟩) else ((x.2.row.headD 0, 0), ⟨T.map (·.2), (L.map (·.2)).set j (hnd x.2), Bg⟩) := by
      unfold unlockM
      dsimp only
      rw [List.length_map, hB, if_neg (by simp), List.getElem?_map, Int.toNat_natCast, hx]
      simp [hnd]
    rw [HE]
    rw [hB] at HI
    clear HE hB
    generalize goB ⟨T.map (·.2), L.map (·.2), Bg⟩ t = ge at HG ⊢
    by_cases hge : ge = 0
    · subst hge
      rw [if_neg (by simp)]
      obtain ⟨gl, hp, -, lg, cs, hcs, hc0, hc1⟩ := hX.lf hx
      have d1 := heap_cell hcs hc1
      have k1 : (0 : Int) ≤ (j : Int) := by omega
      have k2 : (j : Int) < (L.length : Int) := by omega
      rw [hp] at c1
      by_cases h1 : x.2.ho = t
      · rw [if_neg (by simpa using h1)]
        rw [h1] at d1
        dsimp only
        have HH : Hid _ := handOn_bx hX HS.out hx hp
        have HM : Hid (∀ s' : Sl, (L.set j (s', hnd x.2)).map (·.2) = (L.map (·.2)).set j (hnd x.2)) := fun s' => by rw [List.map_set]
        generalize x.2.row.headD 0 = hd at HH ⊢
        clear hX hcs hc0 hc1 hp h1 HQ
        go_enter Tryd.func25, Tryd.ntmps25
        go_wp2_with fail
        refine Calls.mono HI.out ?_
        rintro e w2 ⟨rfl, hw2⟩
        rw [hw2]
        clear hw2
        go_wp2_with fail
        refine Calls.mono HG.out ?_
        rintro e w2 ⟨rfl, hw2⟩
        rw [hw2]
        clear hw2
        go_wp2_with fail
        refine Calls.mono HH.out ?_
        rintro e w2 ⟨rfl, s', hX2⟩
        have HR : Hid (BR b ⟨T.map (·.2), (L.map (·.2)).set j (hnd x.2), Bg⟩ (Ft b pt pl pg T L) w w2) := by
          rw [← HM.out s']
          exact br_of hX2
        clear hX2 HH HM
        go_wp2
        exact bodyPost_ret (results_tmp2 rfl _ _ _) rfl ⟨rfl, HR.out⟩
      · rw [if_pos (by simpa using h1)]
        dsimp only
        clear hX hcs hc0 hc1 hp
        go_enter Tryd.func25, Tryd.ntmps25
        go_wp2_with fail
        refine Calls.mono HI.out ?_
        rintro e w2 ⟨rfl, hw2⟩
        rw [hw2]
        clear hw2
        go_wp2_with fail
        refine Calls.mono HG.out ?_
        rintro e w2 ⟨rfl, hw2⟩
        rw [hw2]
        clear hw2
        go_wp2
        exact bodyPost_ret (results_tmp2 rfl _ _ _) rfl ⟨rfl, HQ.out⟩
    · rw [if_pos hge]
      dsimp only
      clear hX
      go_enter Tryd.func25, Tryd.ntmps25
      go_wp2_with fail
      refine Calls.mono HI.out ?_
      rintro e w2 ⟨rfl, hw2⟩
      rw [hw2]
      clear hw2
      go_wp2_with fail
      refine Calls.mono HG.out ?_
      rintro e w2 ⟨rfl, hw2⟩
      rw [hw2]
      clear hw2
      go_wp2
      exact bodyPost_ret (results_tmp2 rfl _ _ _) rfl ⟨rfl, HQ.out⟩
set_option maxRecDepth 100000 in
set_option maxHeartbeats 4000000 in
theorem join_any {w : World} {b : Nat} {B : Bk} {F : Nat → Prop} (h : BB w b B F) (hS : Sh B) (t o : Int) :
    Calls Tryd.prog 20 #[.pointer (some ⟨b, 0, none⟩), .int .i64 t, .int .i64 o] w fun e w' => e = .returned (.tuple #[.int .u64 (joinM B t o).1.1, .bool (joinM B t o).1.2.1, .int .i64 (joinM B t o).1.2.2]) ∧ BR b (joinM B t o).2 F w w' := by
  have HB : Hid (BB w b B F) := h
  obtain ⟨pt, pl, pg, T, L, hX, hT, hL, rfl⟩ := h
  obtain ⟨Bt, Bl, Bg⟩ := B
  dsimp only at hT hL hX
  subst hT hL
  have HI : Hid _ := isThread_any hX o
  have HG : Hid _ := going_any hX (shT_of hS) t
  rw [← goB_is T L Bg] at HG
  have lb := heap_lt hX.obj
  have HS : Hid (ShT T L) := shT_of hS
  have HQ : Hid _ := HB.out.br (Below.refl w.heap.size w)
  cases hB : isB T.length o
  · have HE : joinM ⟨T.map (·.2), L.map (·.2), Bg⟩ t o = ((0, false, 190), ⟨T.map (·.2), L.map (·.2), Bg⟩) := by unfold joinM; dsimp only; rw [List.length_map, hB]; rfl
    rw [HE]
    rw [hB] at HI
    dsimp only
    clear hX HE hB HG hS HB
    go_enter Tryd.func20, Tryd.ntmps20
    go_wp2_with fail
    refine Calls.mono HI.out ?_
    rintro e w2 ⟨rfl, hw2⟩
    rw [hw2]
    clear hw2
    go_wp2
    exact bodyPost_ret (results_tmp3 rfl _ _ _) rfl ⟨rfl, HQ.out⟩
  · obtain ⟨j, rfl, hj⟩ := isB_at hB
    obtain ⟨x, hx⟩ : ∃ x, T[j]? = some x := ⟨_, List.getElem?_eq_getElem hj⟩
    have HE : joinM ⟨T.map (·.2), L.map (·.2), Bg⟩ t ((j : Int) + 1) = if goB ⟨T.map (·.2), L.map (·.2), Bg⟩ t ≠ 0 then ((0, false, goB ⟨T.map (·.2), L.map (·.2), Bg⟩ t), ⟨T.map (·.2), L.map (·.2), Bg⟩) else if t = (j : Int) + 1 then ((0, false, 193), ⟨T.map (·.2), L.map (·.2), Bg⟩) else if x.2.en then ((x.2.wd, true, x.2.er), ⟨T.map (·.2), L.map (·.2), Bg⟩) else ((0, false, 0), ⟨(T.map (·.2)).set j { x.2 with row := x.2.row ++ [t] }, L.map (·.2), Bg⟩) := by
      unfold joinM
      dsimp only
      rw [List.length_map, hB, if_neg (by simp), List.getElem?_map, show ((j : Int) + 1 - 1).toNat = j by omega, hx]
      rfl
    rw [HE]
    rw [hB] at HI
    clear HE hB hS
    generalize goB ⟨T.map (·.2), L.map (·.2), Bg⟩ t = ge at HG ⊢
    by_cases hge : ge = 0
    · subst hge
      rw [if_neg (by simp)]
      by_cases h1 : t = (j : Int) + 1
      · rw [if_pos h1]
        subst h1
        dsimp only
        clear hX HB
        go_enter Tryd.func20, Tryd.ntmps20
        go_wp2_with fail
        refine Calls.mono HI.out ?_
        rintro e w2 ⟨rfl, hw2⟩
        rw [hw2]
        clear hw2
        go_wp2_with fail
        refine Calls.mono HG.out ?_
        rintro e w2 ⟨rfl, hw2⟩
        rw [hw2]
        clear hw2
        go_wp2
        refine bodyPost_ret (results_tmp3 rfl _ _ _) rfl ⟨?_, HQ.out⟩
        rfl
      · rw [if_neg h1]
        obtain ⟨gt, hp, -, lg, cs, hcs, hc0, hc1, hc2, hc3⟩ := hX.tf hx
        have HT : Hid _ := thread_any hX hj hp lg
        have d1 := heap_cell hcs hc1
        cases hen : x.2.en
        · rw [hen] at d1
          have HD : Hid _ := stand_any gt (j * 4) x.1 x.2.row t w hcs (by decide) hc0 (hX.r.r _ _ (rws_t L hx)) (HS.out _ (List.mem_of_getElem? (rws_t L hx)))
          have HX : Hid (BX w b pt pl pg T L Bg) := hX
          have HX1 : Hid (T[j]? = some x ∧ pt.ra = some ⟨gt, 0, none⟩) := ⟨hx, hp⟩
          rw [if_neg (by simp)]
          dsimp only
          clear hX hcs hc0 hc1 hc2 hc3 hp HQ hx HB
          go_enter Tryd.func20, Tryd.ntmps20
          go_wp2_with fail
          refine Calls.mono HI.out ?_
          rintro e w2 ⟨rfl, hw2⟩
          rw [hw2]
          clear hw2
          go_wp2_with fail
          refine Calls.mono HG.out ?_
          rintro e w2 ⟨rfl, hw2⟩
          rw [hw2]
          clear hw2
          go_wp2_with fail
          refine Calls.mono HT.out ?_
          rintro e w2 ⟨rfl, hw2⟩
          rw [hw2]
          clear hw2
          go_wp2_with fail
          refine Calls.mono HD.out ?_
          rintro e w2 ⟨rfl, s', w1, hw2, hR1, hk1, hb1, hq1⟩
          have HR : Hid (BR b ⟨(T.map (·.2)).set j { x.2 with row := x.2.row ++ [t] }, L.map (·.2), Bg⟩ (Ft b pt pl pg T L) w w2) := by
            show BR _ _ _ _ _
            rw [hw2]
            have := br_of (HX.out.rowT HX1.out.1 hR1 hk1 hb1 hq1 HX1.out.2)
            rw [List.length_append] at this
            simpa [List.map_set] using this
          clear hw2 hR1 hk1 hb1 hq1 HX HX1 HD
          go_wp2
          exact bodyPost_ret (results_tmp3 rfl _ _ _) rfl ⟨rfl, HR.out⟩
        · rw [hen] at d1
          have d2 := heap_cell hcs hc2
          have d3 := heap_cell hcs hc3
          rw [if_pos rfl]
          dsimp only
          have HQ2 : Hid (∀ w', Below w.heap.size w w' → BR b ⟨T.map (·.2), L.map (·.2), Bg⟩ (Ft b pt pl pg T L) w w') := fun w' hb => HB.out.br hb
          clear hX hcs hc0 hc1 hc2 hc3 hp HQ hx HB hen
          go_enter Tryd.func20, Tryd.ntmps20
          go_wp2_with fail
          refine Calls.mono HI.out ?_
          rintro e w2 ⟨rfl, hw2⟩
          rw [hw2]
          clear hw2
          go_wp2_with fail
          refine Calls.mono HG.out ?_
          rintro e w2 ⟨rfl, hw2⟩
          rw [hw2]
          clear hw2
          go_wp2_with fail
          refine Calls.mono HT.out ?_
          rintro e w2 ⟨rfl, hw2⟩
          rw [hw2]
          clear hw2
          go_wp2_with fail
          go_quiet (fail)
          go_wp2
          exact bodyPost_ret (results_tmp3 rfl _ _ _) rfl ⟨rfl, HQ2.out _ (below_drewM (Below.refl _ _) _)⟩
    · rw [if_pos hge]
      dsimp only
      clear hX HB
      go_enter Tryd.func20, Tryd.ntmps20
      go_wp2_with fail
      refine Calls.mono HI.out ?_
      rintro e w2 ⟨rfl, hw2⟩
      rw [hw2]
      clear hw2
      go_wp2_with fail
      refine Calls.mono HG.out ?_
      rintro e w2 ⟨rfl, hw2⟩
      rw [hw2]
      clear hw2
      go_wp2
      exact bodyPost_ret (results_tmp3 rfl _ _ _) rfl ⟨rfl, HQ.out⟩
end Go.Proofs.YtdlnkdcgipaoeaaDoor
