/- The document's book: Join.; The document's book: SetGlobal. -/
import Derived.Test.YtdlnkdcgipaoeaaDoorGG
/- The document's book: Join. -/
namespace Go.Proofs.YtdlnkdcgipaoeaaDoor
open Go.RowKit

theorem DR2.quiet {w w' w'' : World} {r : Nat} {D : Dk} {F : Nat → Prop} (h : DR2 r D F w w') (hb : Below w'.heap.size w' w'') : DR2 r D F w w'' := by
  obtain ⟨F', h1, h2⟩ := h
  exact ⟨F', h1.below hb, h2.trans (Chg.quiet F' hb)⟩
def djoinM (D : Dk) (t o : Int) : (Int × Bool × Int) × Dk :=
  if isB D.t.length t = false ∨ isB D.t.length o = false then ((0, false, 190), D) else
  match D.t[(t - 1).toNat]?, D.t[(o - 1).toNat]? with
  | some x, some y => if (!x.en && x.w == 0) = false then ((0, false, 192), D) else if t = o then ((0, false, 193), D) else if y.en then ((y.wd, true, y.er), D) else ((0, false, 0), { D with t := D.t.set (t - 1).toNat ⟨1, o, false, 0, 0⟩ })
  | _, _ => ((0, false, 190), D)
set_option maxRecDepth 100000 in
set_option maxHeartbeats 8000000 in
theorem dJoin_any {w : World} {r : Nat} {D : Dk} {F : Nat → Prop} (h : DB w r D F) (t o : Int) :
    Calls Tryd.prog 35 #[.pointer (some ⟨r, 0, none⟩), .int .i64 t, .int .i64 o] w fun e w' => e = .returned (.tuple #[.int .u64 (djoinM D t o).1.1, .bool (djoinM D t o).1.2.1, .int .i64 (djoinM D t o).1.2.2]) ∧ DR2 r (djoinM D t o).2 F w w' := by
  have HQ : Hid (∀ w', Below w.heap.size w w' → DR2 r D F w w') := fun w' hb => h.dr hb
  obtain ⟨pt, pl, pg, L, hX, hL, rfl⟩ := h
  obtain ⟨T, Dl', G⟩ := D
  dsimp only at hL hX
  subst hL
  have HI : Hid _ := dIs_any hX t
  have HO : Hid _ := dIs_any hX o
  have c0 := hX.c0
  have lb := heap_lt hX.obj
  have htn := hX.tn
  cases hB : isB T.length t
  · have HE : djoinM ⟨T, L.map (·.2), G⟩ t o = ((0, false, 190), ⟨T, L.map (·.2), G⟩) := by unfold djoinM; rw [if_pos (.inl hB)]
    rw [HE]
    rw [hB] at HI
    generalize isB T.length o = bo at HO
    dsimp only
    clear hX HE hB
    go_enter Tryd.func35, Tryd.ntmps35
    go_wp2_with fail
    refine Calls.mono HI.out ?_
    rintro e w2 ⟨rfl, hw2⟩
    rw [hw2]
    clear hw2
    go_wp2_with fail
    refine Calls.mono HO.out ?_
    rintro e w2 ⟨rfl, hw2⟩
    rw [hw2]
    clear hw2
    go_wp2
    exact bodyPost_ret (results_tmp3 rfl _ _ _) rfl ⟨rfl, HQ.out _ (Below.refl _ _)⟩
  · rw [hB] at HI
    cases hK : isB T.length o
    · have HE : djoinM ⟨T, L.map (·.2), G⟩ t o = ((0, false, 190), ⟨T, L.map (·.2), G⟩) := by unfold djoinM; rw [if_pos (.inr hK)]
      rw [HE]
      rw [hK] at HO
      dsimp only
      clear hX HE hB hK
      go_enter Tryd.func35, Tryd.ntmps35
      go_wp2_with fail
      refine Calls.mono HI.out ?_
      rintro e w2 ⟨rfl, hw2⟩
      rw [hw2]
      clear hw2
      go_wp2_with fail
      refine Calls.mono HO.out ?_
      rintro e w2 ⟨rfl, hw2⟩
      rw [hw2]
      clear hw2
      go_wp2
      exact bodyPost_ret (results_tmp3 rfl _ _ _) rfl ⟨rfl, HQ.out _ (Below.refl _ _)⟩
    · rw [hK] at HO
      obtain ⟨i, rfl, hi⟩ := isB_at hB
      obtain ⟨j, rfl, hj⟩ := isB_at hK
      obtain ⟨x, hx⟩ : ∃ x, T[i]? = some x := ⟨_, List.getElem?_eq_getElem hi⟩
      obtain ⟨y, hy⟩ : ∃ y, T[j]? = some y := ⟨_, List.getElem?_eq_getElem hj⟩
      have HE : djoinM ⟨T, L.map (·.2), G⟩ ((i : Int) + 1) ((j : Int) + 1) = if (!x.en && x.w == 0) = false then ((0, false, 192), ⟨T, L.map (·.2), G⟩) else if (i : Int) + 1 = (j : Int) + 1 then ((0, false, 193), ⟨T, L.map (·.2), G⟩) else if y.en then ((y.wd, true, y.er), ⟨T, L.map (·.2), G⟩) else ((0, false, 0), ⟨T.set i ⟨1, (j : Int) + 1, false, 0, 0⟩, L.map (·.2), G⟩) := by
        unfold djoinM
        rw [if_neg (by simp [hB, hK]), show ((i : Int) + 1 - 1).toNat = i by omega, show ((j : Int) + 1 - 1).toNat = j by omega, hx, hy]
      rw [HE]
      have HGo : Hid _ := dGoes_any hX hx
      clear HE hB hK
      cases hgo : (!x.en && x.w == 0)
      · rw [hgo] at HGo
        rw [if_pos rfl]
        dsimp only
        clear hX hgo hx hy
        go_enter Tryd.func35, Tryd.ntmps35
        go_wp2_with fail
        refine Calls.mono HI.out ?_
        rintro e w2 ⟨rfl, hw2⟩
        rw [hw2]
        clear hw2
        go_wp2_with fail
        refine Calls.mono HO.out ?_
        rintro e w2 ⟨rfl, hw2⟩
        rw [hw2]
        clear hw2
        go_wp2_with fail
        refine Calls.mono HGo.out ?_
        rintro e w2 ⟨rfl, hw2⟩
        rw [hw2]
        clear hw2
        go_wp2
        exact bodyPost_ret (results_tmp3 rfl _ _ _) rfl ⟨rfl, HQ.out _ (Below.refl _ _)⟩
      · rw [hgo] at HGo
        rw [if_neg (by simp)]
        by_cases h1 : i = j
        · subst h1
          rw [if_pos rfl]
          dsimp only
          clear hX hgo hx hy
          go_enter Tryd.func35, Tryd.ntmps35
          go_wp2_with fail
          refine Calls.mono HI.out ?_
          rintro e w2 ⟨rfl, hw2⟩
          rw [hw2]
          clear hw2
          go_wp2_with fail
          refine Calls.mono HO.out ?_
          rintro e w2 ⟨rfl, hw2⟩
          rw [hw2]
          clear hw2
          go_wp2_with fail
          refine Calls.mono HGo.out ?_
          rintro e w2 ⟨rfl, hw2⟩
          rw [hw2]
          clear hw2
          go_wp2
          refine bodyPost_ret (results_tmp3 rfl _ _ _) rfl ⟨?_, HQ.out _ (Below.refl _ _)⟩
          rfl
        · have h2 : ¬ ((i : Int) + 1 = (j : Int) + 1) := by omega
          rw [if_neg h2]
          obtain ⟨gt, hpt, -, lgt, ct, hct, -, -, ht2, ht3, ht4⟩ := hX.tf hy
          rw [hpt] at c0
          have d2 := heap_cell hct ht2
          have d3 := heap_cell hct ht3
          have d4 := heap_cell hct ht4
          have hw1 : IntKind.i64.wrap ((i : Int) + 1 - 1) = (i : Int) := by
            rw [show (i : Int) + 1 - 1 = i by omega]
            exact IntWalk.i64_in _ (by omega)
          have hw2 : IntKind.i64.wrap ((j : Int) + 1 - 1) = (j : Int) := by
            rw [show (j : Int) + 1 - 1 = j by omega]
            exact IntWalk.i64_in _ (by omega)
          have z1 : (0 : Int) ≤ (i : Int) := by omega
          have z2 : (i : Int) < (T.length : Int) := by omega
          have z3 : (0 : Int) ≤ (j : Int) := by omega
          have z4 : (j : Int) < (T.length : Int) := by omega
          obtain ⟨yw, yf, yen, ywd, yer⟩ := y
          dsimp only at d2 d3 d4
          have bA : Below w.heap.size w (w.alloc (.cells #[.bool yen, .int .u64 ywd, .int .i64 yer] 67)) := (Below.refl _ _).alloc (Nat.le_refl _) _
          cases yen
          · rw [if_neg (by simp)]
            dsimp only
            obtain ⟨gt0, hpt0, -, -, ct0, hct0, hv0, hv1, hv2, hv3, hv4⟩ := hX.tf hx
            rw [hpt] at hpt0
            cases hpt0
            have v0 := heap_cell hct0 hv0
            have v1 := heap_cell hct0 hv1
            have v2 := heap_cell hct0 hv2
            have v3 := heap_cell hct0 hv3
            have v4 := heap_cell hct0 hv4
            have fv : ∀ n, w.frozen? ⟨gt, n, none⟩ = false := fun n => by simp [World.frozen?, hct0]
            obtain ⟨hX5, hC5⟩ := hX.allT 1 ((j : Int) + 1) false 0 0 hx hpt
            have HR : Hid _ := (dr_of hX5 hC5).quiet ((Below.refl _ _).alloc (Nat.le_refl _) (.cells #[.bool false, .int .u64 ywd, .int .i64 yer] 67))
            clear hX hX5 hC5 hgo hx hy hct ht2 ht3 ht4 hpt HQ bA hct0 hv0 hv1 hv2 hv3 hv4
            go_enter Tryd.func35, Tryd.ntmps35
            go_wp2_with fail
            refine Calls.mono HI.out ?_
            rintro e w2 ⟨rfl, hw2⟩
            rw [hw2]
            clear hw2
            go_wp2_with fail
            refine Calls.mono HO.out ?_
            rintro e w2 ⟨rfl, hw2⟩
            rw [hw2]
            clear hw2
            go_wp2_with fail
            refine Calls.mono HGo.out ?_
            rintro e w2 ⟨rfl, hw2⟩
            rw [hw2]
            clear hw2
            go_wp2
            exact bodyPost_ret (results_tmp3 rfl _ _ _) rfl ⟨rfl, HR.out⟩
          · rw [if_pos rfl]
            dsimp only
            have HR : Hid (∀ W, Below (w.alloc (.cells #[.bool true, .int .u64 ywd, .int .i64 yer] 67)).heap.size (w.alloc (.cells #[.bool true, .int .u64 ywd, .int .i64 yer] 67)) W → DR2 r ⟨T, L.map (·.2), G⟩ (Fd r pt pl pg L) w W) := fun W hW => HQ.out W (bA.trans (hW.mono bA.size))
            have hxb := heap_alloc_new w (.cells #[.bool true, .int .u64 ywd, .int .i64 yer] 67)
            have x0 := heap_cell (j := 0) hxb rfl
            have x1 := heap_cell (j := 1) hxb rfl
            have x2 := heap_cell (j := 2) hxb rfl
            have lx := heap_lt hxb
            clear hX hgo hx hy hct ht2 ht3 ht4 hpt HQ bA hxb
            go_enter Tryd.func35, Tryd.ntmps35
            go_wp2_with fail
            refine Calls.mono HI.out ?_
            rintro e w2 ⟨rfl, hw2⟩
            rw [hw2]
            clear hw2
            go_wp2_with fail
            refine Calls.mono HO.out ?_
            rintro e w2 ⟨rfl, hw2⟩
            rw [hw2]
            clear hw2
            go_wp2_with fail
            refine Calls.mono HGo.out ?_
            rintro e w2 ⟨rfl, hw2⟩
            rw [hw2]
            clear hw2
            go_wp2_with fail
            go_quiet (fail)
            go_wp2
            refine bodyPost_ret (results_tmp3 rfl _ _ _) rfl ?_
            exact ⟨rfl, HR.out _ (below_drewM (Below.refl _ _) _)⟩
end Go.Proofs.YtdlnkdcgipaoeaaDoor

/- The document's book: SetGlobal. -/
namespace Go.Proofs.YtdlnkdcgipaoeaaDoor
open Go.RowKit

def dsetM (D : Dk) (i : Int) (y : Int) : (Int × Int) × Dk := if isL D.g.length i = true then (((D.g[i.toNat]?).getD 0, 0), { D with g := D.g.set i.toNat y }) else ((0, 1), D)
set_option maxRecDepth 100000 in
set_option maxHeartbeats 4000000 in
theorem dSet_any {w : World} {r : Nat} {D : Dk} {F : Nat → Prop} (h : DB w r D F) (i y : Int) :
    Calls Tryd.prog 40 #[.pointer (some ⟨r, 0, none⟩), .int .i64 i, .int .u64 y] w fun e w' => e = .returned (.tuple #[.int .u64 (dsetM D i y).1.1, .int .i64 (dsetM D i y).1.2]) ∧ DR2 r (dsetM D i y).2 F w w' := by
  have HQ : Hid _ := h.dr (Below.refl w.heap.size w)
  obtain ⟨pt, pl, pg, L, hX, hL, rfl⟩ := h
  obtain ⟨T, Dl', G⟩ := D
  dsimp only at hL hX
  subst hL
  have c2 := hX.c2
  have lb := heap_lt hX.obj
  cases hB : isL G.length i
  · have HE : dsetM ⟨T, L.map (·.2), G⟩ i y = ((0, 1), ⟨T, L.map (·.2), G⟩) := by unfold dsetM; dsimp only; rw [hB]; rfl
    rw [HE]
    dsimp only
    have hB' := hB
    simp [isL] at hB'
    clear hX HE hB
    by_cases h0 : i < 0
    · go_enter Tryd.func40, Tryd.ntmps40
      go_wp2
      exact bodyPost_ret (results_tmp2 rfl _ _ _) rfl ⟨rfl, HQ.out⟩
    · have h1 : (G.length : Int) ≤ i := hB' (by omega)
      go_enter Tryd.func40, Tryd.ntmps40
      go_wp2
      exact bodyPost_ret (results_tmp2 rfl _ _ _) rfl ⟨rfl, HQ.out⟩
  · obtain ⟨j, rfl, hj⟩ := isL_at hB
    obtain ⟨x, hx⟩ : ∃ x, G[j]? = some x := ⟨_, List.getElem?_eq_getElem hj⟩
    obtain ⟨gg, hp, -, lg, cs, hcs, hc⟩ := hX.gf hx
    have HE : dsetM ⟨T, L.map (·.2), G⟩ (j : Int) y = ((x, 0), ⟨T, L.map (·.2), G.set j y⟩) := by unfold dsetM; dsimp only; rw [hB, if_pos rfl, Int.toNat_natCast, hx]; rfl
    rw [HE]
    dsimp only
    have hF := hX.glG (i := j) y hp
    have HR : Hid _ := dr_of hF.1 hF.2
    have d1 := heap_cell hcs hc
    have f1 : w.frozen? ⟨gg, j, none⟩ = false := by simp [World.frozen?, hcs]
    have k0 : ¬ (j : Int) < 0 := by omega
    have k1 : (0 : Int) ≤ (j : Int) := by omega
    have k2 : (j : Int) < (G.length : Int) := by omega
    have k3 : ¬ (G.length : Int) ≤ (j : Int) := by omega
    rw [hp] at c2
    clear HQ hX HE hB hcs hc hp hF
    go_enter Tryd.func40, Tryd.ntmps40
    go_wp2
    exact bodyPost_ret (results_tmp2 rfl _ _ _) rfl ⟨rfl, HR.out⟩
end Go.Proofs.YtdlnkdcgipaoeaaDoor
