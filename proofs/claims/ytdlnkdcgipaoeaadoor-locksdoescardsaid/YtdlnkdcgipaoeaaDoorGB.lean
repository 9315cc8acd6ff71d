/- A row is sorted.; What a book does: Unlock, Join.; A thread ends: its locks are handed on. -/
import Derived.Test.YtdlnkdcgipaoeaaDoorHLDo
/- A row is sorted. -/
namespace Go.Proofs.YtdlnkdcgipaoeaaDoor
open Go.RowKit Go.Sort

def srt (l : List Int) : List Int := l.mergeSort fun x y => decide (x ≤ y)
theorem srt_len (l : List Int) : (srt l).length = l.length := List.length_mergeSort _
theorem sort_ri {s : Sl} {l : List Int} {w : World} (h : RI w s l) (hl : l.length ≤ 1000) : Calls Tryd.prog 73 #[.slice s.ra l.length s.cap] w fun e w' => e = .returned (.tuple #[]) ∧ RI w' s (srt l) ∧ (∀ g, g < w.heap.size → s.blk ≠ some g → w'.heap[g]? = w.heap[g]?) ∧ Below 0 w w' := by
  have h0 := h
  rcases h with ⟨rfl, rfl⟩ | ⟨g, off, cs, hs, h1, h2, h3, h4⟩
  · refine Calls.mono (Tryd.slices_Sort_int_none none 0 w) ?_
    rintro e w' ⟨rfl, rfl⟩
    exact ⟨rfl, .inl ⟨List.mergeSort_nil, rfl⟩, fun _ _ _ => rfl, Below.refl _ _⟩
  · have hblk : s.blk = some g := by rw [Sl.blk, hs]; rfl
    rw [hs]
    refine Calls.mono (Tryd.slices_Sort_int g off s.cap l w (fun j hj => ?_) (heap_lt h1) (by omega)) ?_
    · have hj' : j < l.length := by simpa using hj
      refine ⟨heap_cell h1 ?_, by simp [World.frozen?, h1]⟩
      rw [h4 j l[j] (List.getElem?_eq_getElem hj')]
      simp [hj']
    · rintro e w' ⟨rfl, n, os, rfl⟩
      have hg := heap_lt h1
      have hb : (grow (putRow (Value.int .i64) (Sort.ahead w n) g off (srt l).toArray) os).heap[g]? = some (.cells (putCells (Value.int .i64) off (srt l).toArray cs) 3 (0, 0)) := by
        rw [heap_grow_old _ _ (by simpa using hg)]
        simp [putRow, mapBlock, Sort.ahead, Array.getElem?_modify, h1, onCells]
      refine ⟨rfl, .inr ⟨g, off, _, hs, hb, by rw [srt_len]; exact h2, by simpa [putCells] using h3, fun k x hx => ?_⟩, fun k hk hne => ?_, ⟨rfl, rfl, rfl, by simp, fun k hk => absurd hk (by omega)⟩⟩
      · have hk := (List.getElem?_eq_some_iff.1 hx).1
        have hk2 := hk
        rw [srt_len] at hk2
        have e := (List.getElem?_eq_some_iff.1 hx).2
        have hc : off + k < cs.size := by omega
        simp [putCells, hc, hk, e]
      · rw [heap_grow_old _ _ (by simpa using hk)]
        have : g ≠ k := fun e => hne (by rw [← e]; exact hblk)
        simp [putRow, mapBlock, Sort.ahead, Array.getElem?_modify, this]
theorem sort_ro {s : Sl} {l : List Int} {w : World} (h : RO w s l) (hl : l.length ≤ 1000) : Calls Tryd.prog 73 #[.slice s.ra l.length s.cap] w fun e w' => e = .returned (.tuple #[]) ∧ RO w' s (srt l) ∧ (∀ g, g < w.heap.size → s.blk ≠ some g → w'.heap[g]? = w.heap[g]?) ∧ Below 0 w w' := by
  have h0 := h.ex
  rcases h.ri with ⟨rfl, rfl⟩ | ⟨g, off, cs, hs, h1, h2, h3, h4⟩
  · refine Calls.mono (Tryd.slices_Sort_int_none none 0 w) ?_
    rintro e w' ⟨rfl, rfl⟩
    exact ⟨rfl, ⟨.inl ⟨List.mergeSort_nil, rfl⟩, .inl rfl⟩, fun _ _ _ => rfl, Below.refl _ _⟩
  · have hblk : s.blk = some g := by rw [Sl.blk, hs]; rfl
    rw [hs]
    refine Calls.mono (Tryd.slices_Sort_int g off s.cap l w (fun j hj => ?_) (heap_lt h1) (by omega)) ?_
    · have hj' : j < l.length := by simpa using hj
      refine ⟨heap_cell h1 ?_, by simp [World.frozen?, h1]⟩
      rw [h4 j l[j] (List.getElem?_eq_getElem hj')]
      simp [hj']
    · rintro e w' ⟨rfl, n, os, rfl⟩
      have hg := heap_lt h1
      have hb : (grow (putRow (Value.int .i64) (Sort.ahead w n) g off (srt l).toArray) os).heap[g]? = some (.cells (putCells (Value.int .i64) off (srt l).toArray cs) 3 (0, 0)) := by
        rw [heap_grow_old _ _ (by simpa using hg)]
        simp [putRow, mapBlock, Sort.ahead, Array.getElem?_modify, h1, onCells]
      have hex : ExS (grow (putRow (Value.int .i64) (Sort.ahead w n) g off (srt l).toArray) os) s := by
        rcases h0 with e | ⟨g', cs', k0, k1, k2, k3⟩
        · rw [e] at hs
          cases hs
        · rw [hs] at k0
          have e1 := Option.some.inj k0
          have e2 : g = g' := congrArg Addr.block e1
          subst e2
          rw [h1] at k1
          cases k1
          exact .inr ⟨g, _, by rw [hs, e1], hb, by simpa [putCells] using k2, k3⟩
      refine ⟨rfl, ⟨.inr ⟨g, off, _, hs, hb, by rw [srt_len]; exact h2, by simpa [putCells] using h3, fun k x hx => ?_⟩, hex⟩, fun k hk hne => ?_, ⟨rfl, rfl, rfl, by simp, fun k hk => absurd hk (by omega)⟩⟩
      · have hk := (List.getElem?_eq_some_iff.1 hx).1
        have hk2 := hk
        rw [srt_len] at hk2
        have e := (List.getElem?_eq_some_iff.1 hx).2
        have hc : off + k < cs.size := by omega
        simp [putCells, hc, hk, e]
      · rw [heap_grow_old _ _ (by simpa using hk)]
        have : g ≠ k := fun e => hne (by rw [← e]; exact hblk)
        simp [putRow, mapBlock, Sort.ahead, Array.getElem?_modify, this]
end Go.Proofs.YtdlnkdcgipaoeaaDoor

/- What a book does: Unlock, Join. -/
namespace Go.Proofs.YtdlnkdcgipaoeaaDoor
open Go.RowKit

section
variable {w : World} {b : Nat} {pt pl pg : Sl} {T : List (Sl × Th)} {L : List (Sl × Lk)} {G : List Int}
/-- A lock that is handed on. -/
def hnd (x : Lk) : Lk := ⟨x.row.tail, x.row.headD 0⟩
theorem handOn_bx (h : BX w b pt pl pg T L G) (hS : ShT T L) {j gl : Nat} {x : Sl × Lk} (hi : L[j]? = some x) (hp : pl.ra = some ⟨gl, 0, none⟩) :
    Calls Tryd.prog 70 #[.pointer (some ⟨gl, j * 2, none⟩)] w fun e w' => e = .returned (.int .i64 (x.2.row.headD 0)) ∧ ∃ s', BX w' b pt pl pg T (L.set j (s', hnd x.2)) G ∧ Chg (Ft b pt pl pg T L) (Ft b pt pl pg T (L.set j (s', hnd x.2))) w w' := by
  obtain ⟨g', hp', -, lg, cs, hcs, hc0, hc1⟩ := h.lf hi
  rw [hp] at hp'
  cases hp'
  have hlt := (List.getElem?_eq_some_iff.1 hi).1
  obtain ⟨s, ⟨row, ho⟩⟩ := x
  have hr := h.r.r _ _ (rws_l T hi)
  have hl := hS _ (List.mem_of_getElem? (rws_l T hi))
  cases row with
  | nil =>
    refine Calls.mono (handOn_none gl (j * 2) s ho w hcs hc0 hc1) ?_
    rintro e w' ⟨rfl, rfl⟩
    exact ⟨rfl, s, h.hoL 0 hi hp⟩
  | cons y r =>
    simp only [List.length_cons] at hl hc0
    refine Calls.mono (handOn_some gl (j * 2) s y r ho w hcs hc0 hc1 hr (by omega)) ?_
    rintro e w' ⟨rfl, rfl⟩
    obtain ⟨_, _, _, _, _, _, hn, hb⟩ := hr.cons
    have h1 := h.rowL (w1 := w) hi hn (fun _ _ _ => rfl) (Below.refl _ _) (.inl hb) hp
    have h2 := h1.1.hoL (x := (s.next r.length, ⟨r, ho⟩)) y (List.getElem?_set_self hlt) hp
    rw [List.set_set] at h2
    exact ⟨rfl, _, h2.1, h1.2.trans h2.2⟩
theorem takeFirst_bx (h : BX w b pt pl pg T L G) (hS : ShT T L) {i gt : Nat} {x : Sl × Th} (hi : T[i]? = some x) (hp : pt.ra = some ⟨gt, 0, none⟩) :
    Calls Tryd.prog 72 #[.pointer (some ⟨gt, i * 4, none⟩)] w fun e w' => e = .returned (.int .i64 (x.2.row.headD 0)) ∧ ∃ s', BX w' b pt pl pg (T.set i (s', { x.2 with row := x.2.row.tail })) L G ∧ Chg (Ft b pt pl pg T L) (Ft b pt pl pg (T.set i (s', { x.2 with row := x.2.row.tail })) L) w w' := by
  obtain ⟨g', hp', -, lg, cs, hcs, hc0, -⟩ := h.tf hi
  rw [hp] at hp'
  cases hp'
  obtain ⟨s, ⟨row, en, wd, er⟩⟩ := x
  have hr := h.r.r _ _ (rws_t L hi)
  have hl := hS _ (List.mem_of_getElem? (rws_t L hi))
  cases row with
  | nil =>
    refine Calls.mono (takeFirst_none gt (i * 4) s w lg (heap_cell hcs hc0)) ?_
    rintro e w' ⟨rfl, rfl⟩
    refine ⟨rfl, s, ?_⟩
    have e : T.set i (s, { ({ row := [], en := en, wd := wd, er := er } : Th) with row := List.tail [] }) = T := by
      have hlt := (List.getElem?_eq_some_iff.1 hi).1
      have hx : T[i] = (s, ⟨[], en, wd, er⟩) := (List.getElem?_eq_some_iff.1 hi).2
      show T.set i (s, ⟨[], en, wd, er⟩) = T
      rw [← hx]
      exact List.set_getElem_self hlt
    rw [e]
    exact ⟨h, Chg.quiet _ (Below.refl _ _)⟩
  | cons y r =>
    simp only [List.length_cons] at hl hc0
    refine Calls.mono (takeFirst_some gt (i * 4) s y r w hcs hc0 hr (by omega)) ?_
    rintro e w' ⟨rfl, rfl⟩
    obtain ⟨_, _, _, _, _, _, hn, hb⟩ := hr.cons
    exact ⟨rfl, _, h.rowT (w1 := w) hi hn (fun _ _ _ => rfl) (Below.refl _ _) (.inl hb) hp⟩
end
set_option maxRecDepth 100000 in
set_option maxHeartbeats 4000000 in
theorem unlock_any {w : World} {b : Nat} {B : Bk} {F : Nat → Prop} (h : BB w b B F) (hS : Sh B) (t k : Int) :
    Calls Tryd.prog 25 #[.pointer (some ⟨b, 0, none⟩), .int .i64 t, .int .i64 k] w fun e w' => e = .returned (.tuple #[.int .i64 (unlockM B t k).1.1, .int .i64 (unlockM B t k).1.2]) ∧ BR b (unlockM B t k).2 F w w' := by
  have HB : Hid (BB w b B F) := h
  obtain ⟨pt, pl, pg, T, L, hX, hT, hL, rfl⟩ := h
  obtain ⟨Bt, Bl, Bg⟩ := B
  dsimp only at hT hL hX
  subst hT hL
  have HI : Hid _ := isLock_any hX k
  have HG : Hid _ := going_any hX (shT_of hS) t
  rw [← goB_is T L Bg] at HG
  have c1 := hX.c1
  have lb := heap_lt hX.obj
  have HS : Hid (ShT T L) := shT_of hS
  have HQ : Hid _ := HB.out.br (Below.refl w.heap.size w)
  clear hS HB
  cases hB : isL L.length k
  · have HE : unlockM ⟨T.map (·.2), L.map (·.2), Bg⟩ t k = ((0, 190), ⟨T.map (·.2), L.map (·.2), Bg⟩) := by unfold unlockM; dsimp only; rw [List.length_map, hB]; rfl
    rw [HE]
    rw [hB] at HI
    dsimp only
    clear hX HE hB HG
    go_enter Tryd.func25, Tryd.ntmps25
    go_wp2_with fail
    refine Calls.mono HI.out ?_
    rintro e w2 ⟨rfl, hw2⟩
    rw [hw2]
    clear hw2
    go_wp2
    exact bodyPost_ret (results_tmp2 rfl _ _ _) rfl ⟨rfl, HQ.out⟩
  · obtain ⟨j, rfl, hj⟩ := isL_at hB
    obtain ⟨x, hx⟩ : ∃ x, L[j]? = some x := ⟨_, List.getElem?_eq_getElem hj⟩
    have HE : unlockM ⟨T.map (·.2), L.map (·.2), Bg⟩ t (j : Int) = if goB ⟨T.map (·.2), L.map (·.2), Bg⟩ t ≠ 0 then ((0, goB ⟨T.map (·.2), L.map (·.2), Bg⟩ t), ⟨T.map (·.2), L.map (·.2), Bg⟩) else if x.2.ho ≠ t then ((0, 192), ⟨T.map (·.2), L.map (·.2), Bg⟩) else ((x.2.row.headD 0, 0), ⟨T.map (·.2), (L.map (·.2)).set j (hnd x.2), Bg⟩) := by
      unfold unlockM
      dsimp only
      rw [List.length_map, hB, if_neg (by simp), List.getElem?_map, Int.toNat_natCast, hx]
      simp [hnd]
    rw [HE]
    rw [hB] at HI
    clear HE hB
    generalize goB ⟨T.map (·.2), L.map (·.2), Bg⟩ t = ge at HG ⊢
    by_cases hge : ge = 0
    · subst hge
      rw [if_neg (by simp)]
      obtain ⟨gl, hp, -, lg, cs, hcs, hc0, hc1⟩ := hX.lf hx
      have d1 := heap_cell hcs hc1
      have k1 : (0 : Int) ≤ (j : Int) := by omega
      have k2 : (j : Int) < (L.length : Int) := by omega
      rw [hp] at c1
      by_cases h1 : x.2.ho = t
      · rw [if_neg (by simpa using h1)]
        rw [h1] at d1
        dsimp only
        have HH : Hid _ := handOn_bx hX HS.out hx hp
        have HM : Hid (∀ s' : Sl, (L.set j (s', hnd x.2)).map (·.2) = (L.map (·.2)).set j (hnd x.2)) := fun s' => by rw [List.map_set]
        generalize x.2.row.headD 0 = hd at HH ⊢
        clear hX hcs hc0 hc1 hp h1 HQ
        go_enter Tryd.func25, Tryd.ntmps25
        go_wp2_with fail
        refine Calls.mono HI.out ?_
        rintro e w2 ⟨rfl, hw2⟩
        rw [hw2]
        clear hw2
        go_wp2_with fail
        refine Calls.mono HG.out ?_
        rintro e w2 ⟨rfl, hw2⟩
        rw [hw2]
        clear hw2
        go_wp2_with fail
        refine Calls.mono HH.out ?_
        rintro e w2 ⟨rfl, s', hX2⟩
        have HR : Hid (BR b ⟨T.map (·.2), (L.map (·.2)).set j (hnd x.2), Bg⟩ (Ft b pt pl pg T L) w w2) := by
          rw [← HM.out s']
          exact br_of hX2
        clear hX2 HH HM
        go_wp2
        exact bodyPost_ret (results_tmp2 rfl _ _ _) rfl ⟨rfl, HR.out⟩
      · rw [if_pos (by simpa using h1)]
        dsimp only
        clear hX hcs hc0 hc1 hp
        go_enter Tryd.func25, Tryd.ntmps25
        go_wp2_with fail
        refine Calls.mono HI.out ?_
        rintro e w2 ⟨rfl, hw2⟩
        rw [hw2]
        clear hw2
        go_wp2_with fail
        refine Calls.mono HG.out ?_
        rintro e w2 ⟨rfl, hw2⟩
        rw [hw2]
        clear hw2
        go_wp2
        exact bodyPost_ret (results_tmp2 rfl _ _ _) rfl ⟨rfl, HQ.out⟩
    · rw [if_pos hge]
      dsimp only
      clear hX
      go_enter Tryd.func25, Tryd.ntmps25
      go_wp2_with fail
      refine Calls.mono HI.out ?_
      rintro e w2 ⟨rfl, hw2⟩
      rw [hw2]
      clear hw2
      go_wp2_with fail
      refine Calls.mono HG.out ?_
      rintro e w2 ⟨rfl, hw2⟩
      rw [hw2]
      clear hw2
      go_wp2
      exact bodyPost_ret (results_tmp2 rfl _ _ _) rfl ⟨rfl, HQ.out⟩
set_option maxRecDepth 100000 in
set_option maxHeartbeats 4000000 in
theorem join_any {w : World} {b : Nat} {B : Bk} {F : Nat → Prop} (h : BB w b B F) (hS : Sh B) (t o : Int) :
    Calls Tryd.prog 20 #[.pointer (some ⟨b, 0, none⟩), .int .i64 t, .int .i64 o] w fun e w' => e = .returned (.tuple #[.int .u64 (joinM B t o).1.1, .bool (joinM B t o).1.2.1, .int .i64 (joinM B t o).1.2.2]) ∧ BR b (joinM B t o).2 F w w' := by
  have HB : Hid (BB w b B F) := h
  obtain ⟨pt, pl, pg, T, L, hX, hT, hL, rfl⟩ := h
  obtain ⟨Bt, Bl, Bg⟩ := B
  dsimp only at hT hL hX
  subst hT hL
  have HI : Hid _ := isThread_any hX o
  have HG : Hid _ := going_any hX (shT_of hS) t
  rw [← goB_is T L Bg] at HG
  have lb := heap_lt hX.obj
  have HS : Hid (ShT T L) := shT_of hS
  have HQ : Hid _ := HB.out.br (Below.refl w.heap.size w)
  cases hB : isB T.length o
  · have HE : joinM ⟨T.map (·.2), L.map (·.2), Bg⟩ t o = ((0, false, 190), ⟨T.map (·.2), L.map (·.2), Bg⟩) := by unfold joinM; dsimp only; rw [List.length_map, hB]; rfl
    rw [HE]
    rw [hB] at HI
    dsimp only
    clear hX HE hB HG hS HB
    go_enter Tryd.func20, Tryd.ntmps20
    go_wp2_with fail
    refine Calls.mono HI.out ?_
    rintro e w2 ⟨rfl, hw2⟩
    rw [hw2]
    clear hw2
    go_wp2
    exact bodyPost_ret (results_tmp3 rfl _ _ _) rfl ⟨rfl, HQ.out⟩
  · obtain ⟨j, rfl, hj⟩ := isB_at hB
    obtain ⟨x, hx⟩ : ∃ x, T[j]? = some x := ⟨_, List.getElem?_eq_getElem hj⟩
    have HE : joinM ⟨T.map (·.2), L.map (·.2), Bg⟩ t ((j : Int) + 1) = if goB ⟨T.map (·.2), L.map (·.2), Bg⟩ t ≠ 0 then ((0, false, goB ⟨T.map (·.2), L.map (·.2), Bg⟩ t), ⟨T.map (·.2), L.map (·.2), Bg⟩) else if t = (j : Int) + 1 then ((0, false, 193), ⟨T.map (·.2), L.map (·.2), Bg⟩) else if x.2.en then ((x.2.wd, true, x.2.er), ⟨T.map (·.2), L.map (·.2), Bg⟩) else ((0, false, 0), ⟨(T.map (·.2)).set j { x.2 with row := x.2.row ++ [t] }, L.map (·.2), Bg⟩) := by
      unfold joinM
      dsimp only
      rw [List.length_map, hB, if_neg (by simp), List.getElem?_map, show ((j : Int) + 1 - 1).toNat = j by omega, hx]
      rfl
    rw [HE]
    rw [hB] at HI
    clear HE hB hS
    generalize goB ⟨T.map (·.2), L.map (·.2), Bg⟩ t = ge at HG ⊢
    by_cases hge : ge = 0
    · subst hge
      rw [if_neg (by simp)]
      by_cases h1 : t = (j : Int) + 1
      · rw [if_pos h1]
        subst h1
        dsimp only
        clear hX HB
        go_enter Tryd.func20, Tryd.ntmps20
        go_wp2_with fail
        refine Calls.mono HI.out ?_
        rintro e w2 ⟨rfl, hw2⟩
        rw [hw2]
        clear hw2
        go_wp2_with fail
        refine Calls.mono HG.out ?_
        rintro e w2 ⟨rfl, hw2⟩
        rw [hw2]
        clear hw2
        go_wp2
        refine bodyPost_ret (results_tmp3 rfl _ _ _) rfl ⟨?_, HQ.out⟩
        rfl
      · rw [if_neg h1]
        obtain ⟨gt, hp, -, lg, cs, hcs, hc0, hc1, hc2, hc3⟩ := hX.tf hx
        have HT : Hid _ := thread_any hX hj hp lg
        have d1 := heap_cell hcs hc1
        cases hen : x.2.en
        · rw [hen] at d1
          have HD : Hid _ := stand_any gt (j * 4) x.1 x.2.row t w hcs (by decide) hc0 (hX.r.r _ _ (rws_t L hx)) (HS.out _ (List.mem_of_getElem? (rws_t L hx)))
          have HX : Hid (BX w b pt pl pg T L Bg) := hX
          have HX1 : Hid (T[j]? = some x ∧ pt.ra = some ⟨gt, 0, none⟩) := ⟨hx, hp⟩
          rw [if_neg (by simp)]
          dsimp only
          clear hX hcs hc0 hc1 hc2 hc3 hp HQ hx HB
          go_enter Tryd.func20, Tryd.ntmps20
          go_wp2_with fail
          refine Calls.mono HI.out ?_
          rintro e w2 ⟨rfl, hw2⟩
          rw [hw2]
          clear hw2
          go_wp2_with fail
          refine Calls.mono HG.out ?_
          rintro e w2 ⟨rfl, hw2⟩
          rw [hw2]
          clear hw2
          go_wp2_with fail
          refine Calls.mono HT.out ?_
          rintro e w2 ⟨rfl, hw2⟩
          rw [hw2]
          clear hw2
          go_wp2_with fail
          refine Calls.mono HD.out ?_
          rintro e w2 ⟨rfl, s', w1, hw2, hR1, hk1, hb1, hq1⟩
          have HR : Hid (BR b ⟨(T.map (·.2)).set j { x.2 with row := x.2.row ++ [t] }, L.map (·.2), Bg⟩ (Ft b pt pl pg T L) w w2) := by
            show BR _ _ _ _ _
            rw [hw2]
            have := br_of (HX.out.rowT HX1.out.1 hR1 hk1 hb1 hq1 HX1.out.2)
            rw [List.length_append] at this
            simpa [List.map_set] using this
          clear hw2 hR1 hk1 hb1 hq1 HX HX1 HD
          go_wp2
          exact bodyPost_ret (results_tmp3 rfl _ _ _) rfl ⟨rfl, HR.out⟩
        · rw [hen] at d1
          have d2 := heap_cell hcs hc2
          have d3 := heap_cell hcs hc3
          rw [if_pos rfl]
          dsimp only
          have HQ2 : Hid (∀ w', Below w.heap.size w w' → BR b ⟨T.map (·.2), L.map (·.2), Bg⟩ (Ft b pt pl pg T L) w w') := fun w' hb => HB.out.br hb
          clear hX hcs hc0 hc1 hc2 hc3 hp HQ hx HB hen
          go_enter Tryd.func20, Tryd.ntmps20
          go_wp2_with fail
          refine Calls.mono HI.out ?_
          rintro e w2 ⟨rfl, hw2⟩
          rw [hw2]
          clear hw2
          go_wp2_with fail
          refine Calls.mono HG.out ?_
          rintro e w2 ⟨rfl, hw2⟩
          rw [hw2]
          clear hw2
          go_wp2_with fail
          refine Calls.mono HT.out ?_
          rintro e w2 ⟨rfl, hw2⟩
          rw [hw2]
          clear hw2
          go_wp2_with fail
          go_quiet (fail)
          go_wp2
          exact bodyPost_ret (results_tmp3 rfl _ _ _) rfl ⟨rfl, HQ2.out _ (below_drewM (Below.refl _ _) _)⟩
    · rw [if_pos hge]
      dsimp only
      clear hX HB
      go_enter Tryd.func20, Tryd.ntmps20
      go_wp2_with fail
      refine Calls.mono HI.out ?_
      rintro e w2 ⟨rfl, hw2⟩
      rw [hw2]
      clear hw2
      go_wp2_with fail
      refine Calls.mono HG.out ?_
      rintro e w2 ⟨rfl, hw2⟩
      rw [hw2]
      clear hw2
      go_wp2
      exact bodyPost_ret (results_tmp3 rfl _ _ _) rfl ⟨rfl, HQ.out⟩
end Go.Proofs.YtdlnkdcgipaoeaaDoor

/- A thread ends: its locks are handed on. -/
namespace Go.Proofs.YtdlnkdcgipaoeaaDoor
open Go.RowKit

def hoL1 (t : Int) (x : Lk) : Lk := if x.ho = t then hnd x else x
def hoO1 (t : Int) (x : Lk) : List Int := if x.ho = t then x.row.take 1 else []
def outs (t : Int) (l : List Lk) (j : Nat) : List Int := (l.take j).flatMap (hoO1 t)
def hoLs (t : Int) (l : List Lk) (j : Nat) : List Lk := (l.take j).map (hoL1 t) ++ l.drop j
theorem outs_succ {t : Int} {l : List Lk} {j : Nat} {x : Lk} (h : l[j]? = some x) : outs t l (j + 1) = outs t l j ++ hoO1 t x := by
  simp [outs, List.take_add_one, h]
theorem outs_len (t : Int) (l : List Lk) (j : Nat) : (outs t l j).length ≤ j := by
  induction j with
  | zero => simp [outs]
  | succ j ih =>
    cases h : l[j]? with
    | none =>
      have := List.getElem?_eq_none_iff.1 h
      rw [outs, List.take_of_length_le (by omega)]
      rw [outs, List.take_of_length_le (by omega)] at ih
      omega
    | some x =>
      rw [outs_succ h, List.length_append]
      have : (hoO1 t x).length ≤ 1 := by
        unfold hoO1
        split
        · rw [List.length_take]; omega
        · simp
      omega
theorem hoLs_at {t : Int} {l : List Lk} {j : Nat} : (hoLs t l j)[j]? = l[j]? := by
  unfold hoLs
  by_cases h : j ≤ l.length
  · rw [List.getElem?_append_right (by simp; omega)]
    simp [Nat.min_eq_left h]
  · rw [List.getElem?_eq_none (by simp; omega), List.getElem?_eq_none (by omega)]
theorem hoLs_succ {t : Int} {l : List Lk} {j : Nat} {x : Lk} (h : l[j]? = some x) : hoLs t l (j + 1) = (hoLs t l j).set j (hoL1 t x) := by
  have hlt := (List.getElem?_eq_some_iff.1 h).1
  unfold hoLs
  rw [List.set_append_right _ _ (by simp [Nat.min_eq_left (Nat.le_of_lt hlt)])]
  have e : j - ((l.take j).map (hoL1 t)).length = 0 := by simp; omega
  rw [e, List.drop_eq_getElem_cons hlt, List.set_cons_zero, List.take_add_one, h]
  have hx : l[j] = x := (List.getElem?_eq_some_iff.1 h).2
  simp
theorem hoLs_len (t : Int) (l : List Lk) (j : Nat) : (hoLs t l j).length = l.length := by
  simp [hoLs]; omega
section
variable {w wr : World} {b : Nat} {pt pl pg : Sl} {T : List (Sl × Th)} {L L' : List (Sl × Lk)} {G : List Int}
structure HV (w wr : World) (b : Nat) (pt pl pg : Sl) (T : List (Sl × Th)) (L L' : List (Sl × Lk)) (G : List Int) (s : Sl) (o : List Int) : Prop where
  x : BX wr b pt pl pg T L' G
  c : Chg (Ft b pt pl pg T L) (Ft b pt pl pg T L') w wr
  r : RO wr s o
  f : ∀ g, s.blk = some g → w.heap.size ≤ g ∧ ¬ Ft b pt pl pg T L' g
  sh : ShT T L'
theorem shT_hnd {j : Nat} {y : Sl × Lk} (h : ShT T L) (hj : L[j]? = some y) (s' : Sl) : ShT T (L.set j (s', hnd y.2)) := fun p hp => by
  rw [rws_setL] at hp
  rcases List.mem_or_eq_of_mem_set hp with hp | rfl
  · exact h p hp
  · have := h _ (List.mem_of_getElem? (rws_l T hj))
    show (y.2.row.tail).length ≤ 1000
    rw [List.length_tail]
    dsimp only at this
    omega
theorem HV.hand {s : Sl} {o : List Int} (h : HV w wr b pt pl pg T L L' G s o) {j : Nat} {y : Sl × Lk} {s' : Sl} {w2 : World} (hj : L'[j]? = some y) (hX : BX w2 b pt pl pg T (L'.set j (s', hnd y.2)) G) (hC : Chg (Ft b pt pl pg T L') (Ft b pt pl pg T (L'.set j (s', hnd y.2))) wr w2) : HV w w2 b pt pl pg T L (L'.set j (s', hnd y.2)) G s o :=
  ⟨hX, h.c.trans hC, h.r.kept (fun g hg => hC.1 g (h.r.lt hg) (h.f g hg).2), fun g hg => ⟨(h.f g hg).1, fun hf => by
    rcases hC.2.2 g hf with h' | h'
    · exact (h.f g hg).2 h'
    · have := h.r.lt hg
      omega⟩, shT_hnd h.sh hj s'⟩
theorem HV.app {s s' : Sl} {o o' : List Int} (h : HV w wr b pt pl pg T L L' G s o) {ob : Obj} {w1 : World} (hR : RO w1 s' o') (hk : ∀ g, g < (wr.alloc ob).heap.size → s.blk ≠ some g → w1.heap[g]? = (wr.alloc ob).heap[g]?) (hb : Below 0 (wr.alloc ob) w1) (hq : s'.blk = s.blk ∨ s'.blk = some (wr.alloc ob).heap.size) : HV w w1 b pt pl pg T L L' G s' o' := by
  have hz : (wr.alloc ob).heap.size = wr.heap.size + 1 := World.size_alloc ..
  have hk2 : ∀ g, g < wr.heap.size → s.blk ≠ some g → w1.heap[g]? = wr.heap[g]? := fun g hg hn => (hk g (by omega) hn).trans (Below.heap_alloc _ _ _ hg)
  have hks : ∀ g, Ft b pt pl pg T L' g → w1.heap[g]? = wr.heap[g]? := fun g hg => hk2 g (h.x.lt hg) (fun e => (h.f g e).2 hg)
  refine ⟨h.x.kept hks, ⟨fun g hg hn => ?_, h.c.2.1.trans (((Below.refl 0 wr).alloc (Nat.zero_le _) _).trans hb), h.c.2.2⟩, hR, fun g hg => ?_, h.sh⟩
  · have hs := h.c.2.1.size
    rw [hk2 g (by omega) (fun e => by have := (h.f g e).1; omega)]
    exact h.c.1 g hg hn
  · rcases hq with hq | hq
    · exact h.f g (by rw [← hq]; exact hg)
    · rw [hq] at hg
      have e := Option.some.inj hg
      have hs := h.c.2.1.size
      exact ⟨by omega, fun hf => by have := h.x.lt hf; omega⟩
def HAR (w : World) (b : Nat) (pt pl pg : Sl) (T : List (Sl × Th)) (L : List (Sl × Lk)) (G : List Int) (t : Int) (e : Ending) (w' : World) : Prop := ∃ s L', e = .returned (.slice s.ra (outs t (L.map (·.2)) L.length).length s.cap) ∧ L'.map (·.2) = hoLs t (L.map (·.2)) L.length ∧ HV w w' b pt pl pg T L L' G s (outs t (L.map (·.2)) L.length)
set_option maxRecDepth 100000 in
set_option maxHeartbeats 4000000 in
theorem handOnAll_any (h : BX w b pt pl pg T L G) (hS : ShT T L) (hN : ∀ x ∈ L, ∀ y ∈ x.2.row, y ≠ 0) (t : Int) :
    Calls Tryd.prog 71 #[.pointer (some ⟨b, 0, none⟩), .int .i64 t] w fun e w' => HAR w b pt pl pg T L G t e w' := by
  have c1 := h.c1
  have lb := heap_lt h.obj
  have ln := h.ln
  have HX : Hid (BX w b pt pl pg T L G) := h
  have HS : Hid (ShT T L) := hS
  have HN : Hid (∀ x ∈ L, ∀ y ∈ x.2.row, y ≠ 0) := hN
  clear h hS hN
  obtain ⟨lra, lca⟩ := pl
  go_enter Tryd.func71, Tryd.ntmps71
  go_wp2
  go_loopw [5, 13] (fun o i wr => ∃ (j : Nat) (s : Sl) (L' : List (Sl × Lk)), i = .int .i64 j ∧ o = .slice s.ra (outs t (L.map (·.2)) j).length s.cap ∧ j ≤ L.length ∧ Hid (L'.map (·.2) = hoLs t (L.map (·.2)) j ∧ HV w wr b pt ⟨lra, lca⟩ pg T L L' G s (outs t (L.map (·.2)) j))) (fun _ i _ => L.length - (intOf i).toNat)
  case atStart => exact ⟨0, ⟨none, 0⟩, L, rfl, rfl, Nat.zero_le _, by simp [hoLs], HX.out, Chg.quiet _ (Below.refl _ _), RO.nil _, (fun g hg => by cases hg), HS.out⟩
  case round =>
    obtain ⟨j, s, L', rfl, rfl, hj, HV0⟩ := hrel
    have hlen : L'.length = L.length := by
      have := congrArg List.length HV0.out.1
      rw [hoLs_len] at this
      simpa using this
    obtain ⟨ra, ca⟩ := s
    by_cases hlt : j < L.length
    · have k1 : (j : Int) < (L.length : Int) := by omega
      have k0 : (0 : Int) ≤ (j : Int) := by omega
      obtain ⟨y, hy⟩ : ∃ y, L'[j]? = some y := ⟨_, List.getElem?_eq_getElem (by omega)⟩
      have hy2 : (L.map (·.2))[j]? = some y.2 := by
        rw [← hoLs_at (t := t), ← HV0.out.1, List.getElem?_map, hy]
        rfl
      have c1' := HV0.out.2.x.c1
      have lb' := heap_lt HV0.out.2.x.obj
      rw [hlen] at c1'
      obtain ⟨gl, hp, -, lg, cs, hcs, hc0, hc1⟩ := HV0.out.2.x.lf hy
      have d1 := heap_cell hcs hc1
      dsimp only at hp
      subst hp
      by_cases hh : y.2.ho = t
      · rw [hh] at d1
        have HH : Hid _ := handOn_bx HV0.out.2.x HV0.out.2.sh hy rfl
        have HM : Hid (∀ s' : Sl, (L'.set j (s', hnd y.2)).map (·.2) = hoLs t (L.map (·.2)) (j + 1)) := fun s' => by
          rw [hoLs_succ hy2, List.map_set, HV0.out.1]
          unfold hoL1
          rw [if_pos hh]
        have HO : outs t (L.map (·.2)) (j + 1) = outs t (L.map (·.2)) j ++ y.2.row.take 1 := by
          rw [outs_succ hy2]
          unfold hoO1
          rw [if_pos hh]
        have HY : Hid (L'[j]? = some y) := hy
        have hol := outs_len t (L.map (·.2)) j
        cases hrow : y.2.row with
        | nil =>
          rw [hrow] at HO HH
          have HO2 : Hid (outs t (L.map (·.2)) (j + 1) = outs t (L.map (·.2)) j) := by show _ = _; rw [HO]; simp
          dsimp only [List.headD_nil] at HH
          clear hcs hc0 hc1 hy hh hy2 HO hrow
          go_wp2_with fail
          refine Calls.mono HH.out ?_
          rintro e w2 ⟨rfl, s', hX2⟩
          have HV2 : Hid ((L'.set j (s', hnd y.2)).map (·.2) = hoLs t (L.map (·.2)) (j + 1) ∧ HV w w2 b pt ⟨some ⟨gl, 0, none⟩, lca⟩ pg T L (L'.set j (s', hnd y.2)) G ⟨ra, ca⟩ (outs t (L.map (·.2)) (j + 1))) := ⟨HM.out s', by rw [HO2.out]; exact HV0.out.2.hand HY.out hX2.1 hX2.2⟩
          clear HV0 hX2 c1' d1 lb' lg HH HM
          go_wp2
          go_roundw
          case rel => exact ⟨j + 1, ⟨ra, ca⟩, L'.set j (s', hnd y.2), by go_num, by rw [HO2.out], by omega, HV2⟩
          case measure => simp [intOf]; omega
        | cons z r =>
          have hz0 : z ≠ 0 := by
            obtain ⟨xx, hxx, hxe⟩ := List.mem_map.1 (List.mem_of_getElem? hy2)
            exact HN.out xx hxx z (by rw [hxe, hrow]; exact List.mem_cons_self)
          rw [hrow] at HO HH
          have HO2 : Hid (outs t (L.map (·.2)) (j + 1) = outs t (L.map (·.2)) j ++ [z]) := by show _ = _; rw [HO]; simp
          dsimp only [List.headD_cons] at HH
          clear hcs hc0 hc1 hy hh hy2 HO hrow
          go_wp2_with fail
          refine Calls.mono HH.out ?_
          rintro e w2 ⟨rfl, s', hX2⟩
          have hV1 := HV0.out.2.hand HY.out hX2.1 hX2.2
          obtain ⟨s3, w3, hap, h1, h2, h3, h4⟩ := (hV1.r.kept (w' := w2.alloc (.cells #[.int .i64 z] 3)) (fun g hg => Below.heap_alloc _ _ _ (hV1.r.lt hg))).snoc (by omega) z w2.heap.size (heap_alloc_new w2 _)
          have HV2 : Hid ((L'.set j (s', hnd y.2)).map (·.2) = hoLs t (L.map (·.2)) (j + 1) ∧ HV w w3 b pt ⟨some ⟨gl, 0, none⟩, lca⟩ pg T L (L'.set j (s', hnd y.2)) G s3 (outs t (L.map (·.2)) (j + 1))) := ⟨HM.out s', by rw [HO2.out]; exact hV1.app h1 h2 h3 h4⟩
          obtain ⟨ra3, ca3⟩ := s3
          dsimp only at hap
          clear HV0 hX2 c1' d1 lb' lg HH HM hV1 h1 h2 h3 h4
          go_wp2_with (at_builtin; refine stop_of ?_)
          unfold Hid
          refine wpList_append_known _ rfl _ _ 62 62 rfl _ _ rfl rfl (hap _) ?_
          clear hap
          go_wp2
          go_roundw
          case rel => exact ⟨j + 1, ⟨ra3, ca3⟩, L'.set j (s', hnd y.2), by go_num, by rw [HO2.out]; simp, by omega, HV2⟩
          case measure => simp [intOf]; omega
      · have HO2 : Hid (outs t (L.map (·.2)) (j + 1) = outs t (L.map (·.2)) j) := by
          show _ = _
          rw [outs_succ hy2]
          unfold hoO1
          rw [if_neg hh]
          simp
        have HV2 : Hid (L'.map (·.2) = hoLs t (L.map (·.2)) (j + 1) ∧ HV w wr b pt ⟨some ⟨gl, 0, none⟩, lca⟩ pg T L L' G ⟨ra, ca⟩ (outs t (L.map (·.2)) (j + 1))) := ⟨by
          rw [hoLs_succ hy2]
          unfold hoL1
          rw [if_neg hh, ← HV0.out.1]
          have e : (L'.map (·.2))[j]? = some y.2 := by rw [List.getElem?_map, hy]; rfl
          have hl2 := (List.getElem?_eq_some_iff.1 e).1
          have hx2 := (List.getElem?_eq_some_iff.1 e).2
          rw [← hx2]
          exact (List.set_getElem_self hl2).symm, by rw [HO2.out]; exact HV0.out.2⟩
        clear hcs hc0 hc1 hy hy2 HV0
        go_wp2
        go_roundw
        case rel => exact ⟨j + 1, ⟨ra, ca⟩, L', by go_num, by rw [HO2.out], by omega, HV2⟩
        case measure => simp [intOf]; omega
    · have k1 : ¬ (j : Int) < (L.length : Int) := by omega
      have hjl : j = L.length := by omega
      subst hjl
      go_wp2
      go_ret
      exact ⟨⟨ra, ca⟩, L', rfl, HV0.out⟩
end
end Go.Proofs.YtdlnkdcgipaoeaaDoor
