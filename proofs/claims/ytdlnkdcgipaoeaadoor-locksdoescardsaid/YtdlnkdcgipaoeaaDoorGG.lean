/- The document's book: a lock is handed on, whole; Unlock.; The document's book: Start, SetGlobal. -/
import Derived.Test.YtdlnkdcgipaoeaaDoorHLDoc7
/- The document's book: a lock is handed on, whole; Unlock. -/
namespace Go.Proofs.YtdlnkdcgipaoeaaDoor
open Go.RowKit

def handD (D : Dk) (j : Nat) (y : Dl) : Int × Dk := match y.row with
  | [] => (0, { D with l := D.l.set j ⟨0, []⟩ })
  | z :: q => (z, { D with t := handT D.t z, l := D.l.set j ⟨z, q⟩ })
/-- Rows are short; who stands in one is there. -/
def Sd (D : Dk) : Prop := ∀ y ∈ D.l, y.row.length ≤ 900 ∧ ∀ z ∈ y.row, 1 ≤ z ∧ z ≤ (D.t.length : Int)
theorem dHands_any {w : World} {r j : Nat} {D : Dk} {F : Nat → Prop} {y : Dl} (h : DB w r D F) (hS : Sd D) (hy : D.l[j]? = some y) :
    Calls Tryd.prog 80 #[.pointer (some ⟨r, 0, none⟩), .int .i64 (j : Int)] w fun e w' => e = .returned (.int .i64 (handD D j y).1) ∧ DR2 r (handD D j y).2 F w w' := by
  obtain ⟨pt, pl, pg, L, hX, hL, rfl⟩ := h
  obtain ⟨T, Dl', G⟩ := D
  dsimp only at hL hX hy
  subst hL
  have hSy := hS y (List.mem_of_getElem? hy)
  cases hx : L[j]? with
  | none => rw [List.getElem?_map, hx] at hy; cases hy
  | some x =>
    rw [List.getElem?_map, hx] at hy
    have e := Option.some.inj hy
    obtain ⟨s, ⟨ho, row⟩⟩ := x
    dsimp only at e
    subst e
    cases row with
    | nil =>
      refine Calls.mono (dHands_none hX hx) ?_
      rintro e w' ⟨rfl, h1, h2⟩
      refine ⟨rfl, ?_⟩
      have := dr_of h1 h2
      rw [List.map_set] at this
      exact this
    | cons z q =>
      have hz := hSy.2 z List.mem_cons_self
      have hz2 : z = (((z - 1).toNat : Nat) : Int) + 1 := by omega
      have hlt : (z - 1).toNat < T.length := by have := hz.2; dsimp only at this; omega
      have hm := List.getElem?_eq_getElem hlt
      have hq : q.length ≤ 900 := by have := hSy.1; simp only [List.length_cons] at this; omega
      have hx' : L[j]? = some (s, ⟨ho, ((((z - 1).toNat : Nat) : Int) + 1) :: q⟩) := by rw [← hz2]; exact hx
      refine Calls.mono (dHands_some hX hx' hm hq) ?_
      rintro e w' ⟨rfl, s', h1, h2⟩
      rw [← hz2] at h1 h2 ⊢
      refine ⟨rfl, ?_⟩
      have := dr_of h1 h2
      rw [List.map_set] at this
      show DR2 r ⟨handT T z, _, G⟩ _ _ _
      unfold handT
      rw [hm]
      exact this
def dunlockM (D : Dk) (t k : Int) : (Int × Int) × Dk :=
  if isB D.t.length t = false ∨ isL D.l.length k = false then ((0, 190), D) else
  match D.t[(t - 1).toNat]?, D.l[k.toNat]? with
  | some x, some y => if (!x.en && x.w == 0) = false ∨ y.ho ≠ t then ((0, 192), D) else (((handD D k.toNat y).1, 0), (handD D k.toNat y).2)
  | _, _ => ((0, 190), D)
set_option maxRecDepth 100000 in
set_option maxHeartbeats 8000000 in
theorem dUnlock_any {w : World} {r : Nat} {D : Dk} {F : Nat → Prop} (h : DB w r D F) (hS : Sd D) (t k : Int) :
    Calls Tryd.prog 37 #[.pointer (some ⟨r, 0, none⟩), .int .i64 t, .int .i64 k] w fun e w' => e = .returned (.tuple #[.int .i64 (dunlockM D t k).1.1, .int .i64 (dunlockM D t k).1.2]) ∧ DR2 r (dunlockM D t k).2 F w w' := by
  have HQ : Hid _ := h.dr (Below.refl w.heap.size w)
  have hDB := h
  obtain ⟨pt, pl, pg, L, hX, hL, rfl⟩ := h
  obtain ⟨T, Dl', G⟩ := D
  dsimp only at hL hX
  subst hL
  have HI : Hid _ := dIs_any hX t
  have c1 := hX.c1
  have lb := heap_lt hX.obj
  cases hB : isB T.length t
  · have HE : dunlockM ⟨T, L.map (·.2), G⟩ t k = ((0, 190), ⟨T, L.map (·.2), G⟩) := by unfold dunlockM; rw [if_pos (.inl hB)]
    rw [HE]
    rw [hB] at HI
    dsimp only
    clear hX HE hB hS hDB
    go_enter Tryd.func37, Tryd.ntmps37
    go_wp2_with fail
    refine Calls.mono HI.out ?_
    rintro e w2 ⟨rfl, hw2⟩
    rw [hw2]
    clear hw2
    go_wp2
    exact bodyPost_ret (results_tmp2 rfl _ _ _) rfl ⟨rfl, HQ.out⟩
  · rw [hB] at HI
    cases hK : isL L.length k
    · have HE : dunlockM ⟨T, L.map (·.2), G⟩ t k = ((0, 190), ⟨T, L.map (·.2), G⟩) := by unfold dunlockM; rw [if_pos (.inr (by simpa using hK))]
      rw [HE]
      dsimp only
      have hB' := hK
      simp [isL] at hB'
      clear hX HE hB hK hS hDB
      by_cases h0 : k < 0
      · go_enter Tryd.func37, Tryd.ntmps37
        go_wp2_with fail
        refine Calls.mono HI.out ?_
        rintro e w2 ⟨rfl, hw2⟩
        rw [hw2]
        clear hw2
        go_wp2
        exact bodyPost_ret (results_tmp2 rfl _ _ _) rfl ⟨rfl, HQ.out⟩
      · have h1 : (L.length : Int) ≤ k := hB' (by omega)
        go_enter Tryd.func37, Tryd.ntmps37
        go_wp2_with fail
        refine Calls.mono HI.out ?_
        rintro e w2 ⟨rfl, hw2⟩
        rw [hw2]
        clear hw2
        go_wp2
        exact bodyPost_ret (results_tmp2 rfl _ _ _) rfl ⟨rfl, HQ.out⟩
    · obtain ⟨i, rfl, hi⟩ := isB_at hB
      obtain ⟨j, rfl, hj⟩ := isL_at hK
      obtain ⟨x, hx⟩ : ∃ x, T[i]? = some x := ⟨_, List.getElem?_eq_getElem hi⟩
      obtain ⟨y, hy⟩ : ∃ y, L[j]? = some y := ⟨_, List.getElem?_eq_getElem hj⟩
      have hy2 : (L.map (·.2))[j]? = some y.2 := by rw [List.getElem?_map, hy]; rfl
      have HE : dunlockM ⟨T, L.map (·.2), G⟩ ((i : Int) + 1) (j : Int) = if (!x.en && x.w == 0) = false ∨ y.2.ho ≠ (i : Int) + 1 then ((0, 192), ⟨T, L.map (·.2), G⟩) else (((handD ⟨T, L.map (·.2), G⟩ j y.2).1, 0), (handD ⟨T, L.map (·.2), G⟩ j y.2).2) := by
        unfold dunlockM
        rw [if_neg (by simp [hB, hK]), show ((i : Int) + 1 - 1).toNat = i by omega, Int.toNat_natCast, hx, hy2]
      rw [HE]
      have HGo : Hid _ := dGoes_any hX hx
      have HH : Hid _ := dHands_any hDB hS hy2
      have k0 : ¬ (j : Int) < 0 := by omega
      have k1 : (0 : Int) ≤ (j : Int) := by omega
      have k2 : (j : Int) < (L.length : Int) := by omega
      have k3 : ¬ (L.length : Int) ≤ (j : Int) := by omega
      obtain ⟨gl, hp, -, lg, cs, hcs, hc0, -⟩ := hX.lf hy
      have d0 := heap_cell hcs hc0
      rw [hp] at c1
      clear HE hB hK hDB hX hS hx hy hy2 hcs hc0 hp
      generalize y.2.ho = ho at d0 ⊢
      cases hgo : (!x.en && x.w == 0)
      · rw [hgo] at HGo
        rw [if_pos (.inl rfl)]
        dsimp only
        clear hgo HH
        go_enter Tryd.func37, Tryd.ntmps37
        go_wp2_with fail
        refine Calls.mono HI.out ?_
        rintro e w2 ⟨rfl, hw2⟩
        rw [hw2]
        clear hw2
        go_wp2_with fail
        refine Calls.mono HGo.out ?_
        rintro e w2 ⟨rfl, hw2⟩
        rw [hw2]
        clear hw2
        go_wp2
        exact bodyPost_ret (results_tmp2 rfl _ _ _) rfl ⟨rfl, HQ.out⟩
      · rw [hgo] at HGo
        clear hgo
        by_cases h1 : ho = (i : Int) + 1
        · subst h1
          rw [if_neg (by simp)]
          dsimp only
          clear HQ
          generalize handD ⟨T, L.map (·.2), G⟩ j y.2 = hd at HH ⊢
          obtain ⟨hv, hD⟩ := hd
          dsimp only at HH ⊢
          go_enter Tryd.func37, Tryd.ntmps37
          go_wp2_with fail
          refine Calls.mono HI.out ?_
          rintro e w2 ⟨rfl, hw2⟩
          rw [hw2]
          clear hw2
          go_wp2_with fail
          refine Calls.mono HGo.out ?_
          rintro e w2 ⟨rfl, hw2⟩
          rw [hw2]
          clear hw2
          go_wp2_with fail
          refine Calls.mono HH.out ?_
          rintro e w2 ⟨rfl, hR⟩
          have HR : Hid (DR2 r hD (Fd r pt pl pg L) w w2) := hR
          clear hR HH
          go_wp2
          exact bodyPost_ret (results_tmp2 rfl _ _ _) rfl ⟨rfl, HR.out⟩
        · rw [if_pos (.inr h1)]
          dsimp only
          clear HH
          go_enter Tryd.func37, Tryd.ntmps37
          go_wp2_with fail
          refine Calls.mono HI.out ?_
          rintro e w2 ⟨rfl, hw2⟩
          rw [hw2]
          clear hw2
          go_wp2_with fail
          refine Calls.mono HGo.out ?_
          rintro e w2 ⟨rfl, hw2⟩
          rw [hw2]
          clear hw2
          go_wp2
          exact bodyPost_ret (results_tmp2 rfl _ _ _) rfl ⟨rfl, HQ.out⟩
end Go.Proofs.YtdlnkdcgipaoeaaDoor

/- The document's book: Start, SetGlobal. -/
namespace Go.Proofs.YtdlnkdcgipaoeaaDoor
open Go.RowKit

section
variable {w w1 : World} {r : Nat} {pt pl pg : Sl} {T : List Dt} {L : List (Sl × Dl)} {G : List Int}
theorem DX.glG (h : DX w r pt pl pg T L G) {i gg : Nat} (y : Int) (hg : pg.ra = some ⟨gg, 0, none⟩) :
    DX (w.setCell ⟨gg, i, none⟩ (.int .u64 y)) r pt pl pg T L (G.set i y) ∧ Chg (Fd r pt pl pg L) (Fd r pt pl pg L) w (w.setCell ⟨gg, i, none⟩ (.int .u64 y)) := by
  have hbk : pg.blk = some gg := by rw [Sl.blk, hg]; rfl
  obtain ⟨ct, htb⟩ := h.gb hbk
  have hk : ∀ g, g ≠ gg → (w.setCell ⟨gg, i, none⟩ (.int .u64 y)).heap[g]? = w.heap[g]? := fun g hne => Below.heap_setCell _ _ _ _ hne
  refine ⟨⟨?_, ?_, ?_, ?_, ?_, h.tn, h.ln, by rw [List.length_set]; exact h.gn⟩, fun g h1 h2 => hk g (fun e => h2 (.inl (.inr (.inr (.inr (by rw [e]; exact hbk)))))), (Below.refl 0 w).setCell (p := ⟨gg, i, none⟩) (Nat.zero_le _) _, fun g hg => .inl hg⟩
  · rw [List.length_set]
    refine (hk r (fun e => ?_)).trans h.obj
    have := h.obj
    rw [e, htb] at this
    cases this
  · refine own_same h.t (fun g hg' => hk g ?_)
    obtain ⟨c2, h2⟩ := own_blk h.t hg'
    exact ty_ne h2 htb (by decide)
  · refine own_same h.l (fun g hg' => hk g ?_)
    obtain ⟨c2, h2⟩ := own_blk h.l hg'
    exact ty_ne h2 htb (by decide)
  · have := h.g
    rw [hg] at this ⊢
    rw [List.length_set, List.map_set]
    exact own_set this _
  · refine h.rr.kept (fun g hr => hk g ?_)
    obtain ⟨c2, h2⟩ := h.rb hr
    exact ty_ne h2 htb (by decide)
/-- A thread comes. -/
theorem DX.addT (h : DX w r pt pl pg T L G) {o : Obj} {g cap : Nat} (hn : T.length < 8) (hgr : (w.alloc o).grownBy w1 pt.blk) (hown : w1.ownsRow 0 140 5 (.slice (some ⟨g, 0, none⟩) (T.length + 1) cap) (T.length + 1) (T.flatMap dc ++ [.int .i64 0, .int .i64 0, .bool false, .int .u64 0, .int .i64 0])) (hg : pt.blk = some g ∨ g = (w.alloc o).heap.size) :
    DX (w1.setCell ⟨r, 0, none⟩ (.slice (some ⟨g, 0, none⟩) (T.length + 1) cap)) r ⟨some ⟨g, 0, none⟩, cap⟩ pl pg (T ++ [⟨0, 0, false, 0, 0⟩]) L G ∧ Chg (Fd r pt pl pg L) (Fd r ⟨some ⟨g, 0, none⟩, cap⟩ pl pg L) w (w1.setCell ⟨r, 0, none⟩ (.slice (some ⟨g, 0, none⟩) (T.length + 1) cap)) := by
  have hz : (w.alloc o).heap.size = w.heap.size + 1 := World.size_alloc ..
  have hk : ∀ k, k < w.heap.size → pt.blk ≠ some k → w1.heap[k]? = w.heap[k]? := fun k hk hne => (hgr.block k (by omega) (fun e => hne e.symm)).trans (Below.heap_alloc _ _ _ hk)
  have hs : ∀ k, k ≠ r → (w1.setCell ⟨r, 0, none⟩ (.slice (some ⟨g, 0, none⟩) (T.length + 1) cap)).heap[k]? = w1.heap[k]? := fun k hk => Below.heap_setCell _ _ _ _ hk
  have tne : ∀ k cs t, w.heap[k]? = some (.cells cs t (0, 0)) → t ≠ 140 → pt.blk ≠ some k := fun k cs t hk hn e => by
    obtain ⟨c2, h2⟩ := h.tb e
    rw [hk] at h2
    cases h2
    exact hn rfl
  have bne : ∀ k cs t, w.heap[k]? = some (.cells cs t (0, 0)) → t ≠ 100 → k ≠ r := fun k cs t hk hn e => ty_ne hk h.obj hn e
  have tot : ∀ (k : Nat) (cs : Array Value) (t : TypeId), w.heap[k]? = some (.cells cs t (0, 0)) → t ≠ 100 → t ≠ 140 → (w1.setCell ⟨r, 0, none⟩ (.slice (some ⟨g, 0, none⟩) (T.length + 1) cap)).heap[k]? = w.heap[k]? := fun k cs t hkc h1 h2 => (hs k (bne k cs t hkc h1)).trans (hk k (heap_lt hkc) (tne k cs t hkc h2))
  have hob := (hk r (heap_lt h.obj) (tne r _ _ h.obj (by decide))).trans h.obj
  have hbl : Below 0 w w1 := ((Below.refl 0 w).alloc (Nat.zero_le _) _).trans (grown_low hgr (fun _ _ => Nat.zero_le _) (Nat.zero_le _))
  have hgb : g ≠ r := fun e => by
    obtain ⟨cs, h1, _⟩ := own_out hown
    rw [e, hob] at h1
    cases h1
  have e1 : (T ++ [(⟨0, 0, false, 0, 0⟩ : Dt)]).length = T.length + 1 := by simp
  refine ⟨⟨?_, ?_, ?_, ?_, ?_, by rw [e1]; omega, h.ln, h.gn⟩, fun k h1 h2 => ?_, hbl.setCell (p := ⟨r, 0, none⟩) (Nat.zero_le _) _, fun k hk => ?_⟩
  · rw [e1]
    exact set_atC hob _
  · rw [e1, List.flatMap_append]
    refine own_same hown (fun k hk => hs k (fun e => ?_))
    cases hk
    exact hgb e
  · refine own_same h.l (fun k hk' => ?_)
    obtain ⟨c2, h2⟩ := own_blk h.l hk'
    exact tot k _ _ h2 (by decide) (by decide)
  · refine own_same h.g (fun k hk' => ?_)
    obtain ⟨c2, h2⟩ := own_blk h.g hk'
    exact tot k _ _ h2 (by decide) (by decide)
  · refine RR.kept h.rr (fun k hr => ?_)
    obtain ⟨c2, h2⟩ := h.rb hr
    exact tot k _ _ h2 (by decide) (by decide)
  · exact (hs k (fun e => h2 (.inl (.inl e)))).trans (hk k h1 (fun e => h2 (.inl (.inr (.inl e)))))
  · rcases hk with (hk | hk | hk | hk) | hk
    · exact .inl (.inl (.inl hk))
    · have : g = k := Option.some.inj hk
      rcases hg with hg | hg
      · exact .inl (.inl (.inr (.inl (by rw [← this]; exact hg))))
      · exact .inr (by omega)
    · exact .inl (.inl (.inr (.inr (.inl hk))))
    · exact .inl (.inl (.inr (.inr (.inr hk))))
    · exact .inl (.inr hk)
end
theorem infoD : (Tryd.prog.info? 140).map (fun i => (i.zero, i.size, i.bytes)) = some (some (.agg #[.int .i64 0, .int .i64 0, .bool false, .int .u64 0, .int .i64 0]), 5, 40) := by kernel_rfl
def dstartM (D : Dk) : (Int × Int) × Dk := if 8 ≤ D.t.length then ((0, 194), D) else (((D.t.length : Int) + 1, 0), { D with t := D.t ++ [⟨0, 0, false, 0, 0⟩] })
set_option maxRecDepth 100000 in
set_option maxHeartbeats 4000000 in
theorem dStart_any {w : World} {r : Nat} {D : Dk} {F : Nat → Prop} (h : DB w r D F) :
    Calls Tryd.prog 32 #[.pointer (some ⟨r, 0, none⟩)] w fun e w' => e = .returned (.tuple #[.int .i64 (dstartM D).1.1, .int .i64 (dstartM D).1.2]) ∧ DR2 r (dstartM D).2 F w w' := by
  have HQ : Hid _ := h.dr (Below.refl w.heap.size w)
  obtain ⟨pt, pl, pg, L, hX, hL, rfl⟩ := h
  obtain ⟨T, Dl', G⟩ := D
  dsimp only at hL hX
  subst hL
  have c0 := hX.c0
  have lb := heap_lt hX.obj
  by_cases h8 : 8 ≤ T.length
  · have HE : dstartM ⟨T, L.map (·.2), G⟩ = ((0, 194), ⟨T, L.map (·.2), G⟩) := by unfold dstartM; rw [if_pos h8]
    rw [HE]
    dsimp only
    have k8 : (8 : Int) ≤ (T.length : Int) := by omega
    clear hX HE h8
    go_enter Tryd.func32, Tryd.ntmps32
    go_wp2
    exact bodyPost_ret (results_tmp2 rfl _ _ _) rfl ⟨rfl, HQ.out⟩
  · have HE : dstartM ⟨T, L.map (·.2), G⟩ = (((T.length : Int) + 1, 0), ⟨T ++ [⟨0, 0, false, 0, 0⟩], L.map (·.2), G⟩) := by unfold dstartM; rw [if_neg h8]
    rw [HE]
    dsimp only
    obtain ⟨i0, hi0, hz0, hz1, hz2⟩ := info_parts infoD
    have k8 : ¬ (8 : Int) ≤ (T.length : Int) := by omega
    have HX : Hid (DX w r pt pl pg T L G) := hX
    have HO : Hid (w.ownsRow 0 140 5 (.slice pt.ra T.length pt.cap) T.length (T.flatMap dc)) := hX.t
    have hlt : T.length < 8 := by omega
    obtain ⟨ra, ca⟩ := pt
    clear HQ hX HE
    go_enter Tryd.func32, Tryd.ntmps32
    go_wp2_with (at_builtin; refine stop_of ?_)
    unfold Hid
    refine wpList_append_lies _ rfl _ _ 98 rfl 0 140 i0 _ 5 40 Tryd.underlying98 hi0 hz0 hz1 hz2 rfl (by decide) (.slice ra T.length ca) T.length (T.flatMap dc) rfl (HO.out.alloc _) ⟨w.heap.size, 0, none⟩ 1 1 [.int .i64 0, .int .i64 0, .bool false, .int .u64 0, .int .i64 0] rfl rfl (fun j u hu => ?_) (fun u hu => ?_) (by omega) (by unfold maxLen; omega) (by omega) (Nat.zero_le _) _ rfl ?_
    · rw [ad_add, Nat.zero_add]
      exact new_cell w _ _ j u (by simpa using hu)
    · simp at hu
      rcases hu with rfl | rfl | rfl | rfl <;> rfl
    · intro g cap w1 hown hgr hgb hgl
      have hA := HX.out.addT hlt (by rw [← ob_eq]; exact hgr) hown (by rw [← ob_eq (n := T.length)]; exact hgb)
      have HR : Hid (DR2 r ⟨T ++ [⟨0, 0, false, 0, 0⟩], L.map (·.2), G⟩ (Fd r ⟨ra, ca⟩ pl pg L) w (w1.setCell ⟨r, 0, none⟩ (.slice (some ⟨g, 0, none⟩) (T.length + 1) cap))) := dr_of hA.1 hA.2
      have hob : w1.heap[r]? = some _ := (hgr.block r (by rw [World.size_alloc]; omega) (fun e => by
        obtain ⟨c2, h2⟩ := own_blk HO.out e.symm
        have := HX.out.obj
        rw [h2] at this
        cases this)).trans ((Below.heap_alloc _ _ _ lb).trans HX.out.obj)
      have f0 : w1.frozen? ⟨r, 0, none⟩ = false := by simp [World.frozen?, hob]
      have c1 : w1.cell? ⟨r, 0, none⟩ = some (.slice ra T.length ca) := heap_cell hob rfl
      have l1 := heap_lt hob
      clear hA hob hown hgr hgb HX HO c0 hgl
      go_wp2
      exact bodyPost_ret (results_tmp2 rfl _ _ _) rfl ⟨rfl, HR.out⟩
end Go.Proofs.YtdlnkdcgipaoeaaDoor
