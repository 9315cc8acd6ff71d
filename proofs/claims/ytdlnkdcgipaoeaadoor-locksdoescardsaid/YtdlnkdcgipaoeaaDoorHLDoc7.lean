/- The document's book: Lock, walked. -/
import Derived.Test.YtdlnkdcgipaoeaaDoorGF
namespace Go.Proofs.YtdlnkdcgipaoeaaDoor
open Go.RowKit

set_option maxRecDepth 100000 in
set_option maxHeartbeats 8000000 in
theorem dLock_any {w : World} {r : Nat} {D : Dk} {F : Nat → Prop} (h : DB w r D F) (hsh : ∀ y ∈ D.l, y.row.length ≤ 900) (t k : Int) :
    Calls Tryd.prog 36 #[.pointer (some ⟨r, 0, none⟩), .int .i64 t, .int .i64 k] w fun e w' => e = .returned (.tuple #[.bool (dlockM D t k).1.1, .int .i64 (dlockM D t k).1.2]) ∧ DR2 r (dlockM D t k).2 F w w' := by
  have HQ : Hid _ := h.dr (Below.refl w.heap.size w)
  obtain ⟨pt, pl, pg, L, hX, hL, rfl⟩ := h
  obtain ⟨T, Dl', G⟩ := D
  dsimp only at hL hX hsh
  subst hL
  have HI : Hid _ := dIs_any hX t
  have c1 := hX.c1
  have c0 := hX.c0
  have lb := heap_lt hX.obj
  have htn := hX.tn
  cases hB : isB T.length t
  · have HE : dlockM ⟨T, L.map (·.2), G⟩ t k = ((false, 190), ⟨T, L.map (·.2), G⟩) := by unfold dlockM; rw [if_pos (.inl hB)]
    rw [HE]
    rw [hB] at HI
    dsimp only
    clear hX HE hB hsh
    go_enter Tryd.func36, Tryd.ntmps36
    go_wp2_with fail
    refine Calls.mono HI.out ?_
    rintro e w2 ⟨rfl, hw2⟩
    rw [hw2]
    clear hw2
    go_wp2
    exact bodyPost_ret (results_tmp2 rfl _ _ _) rfl ⟨rfl, HQ.out⟩
  · rw [hB] at HI
    cases hK : isL L.length k
    · have HE : dlockM ⟨T, L.map (·.2), G⟩ t k = ((false, 190), ⟨T, L.map (·.2), G⟩) := by unfold dlockM; rw [if_pos (.inr (by simpa using hK))]
      rw [HE]
      dsimp only
      have hB' := hK
      simp [isL] at hB'
      clear hX HE hB hK hsh
      by_cases h0 : k < 0
      · go_enter Tryd.func36, Tryd.ntmps36
        go_wp2_with fail
        refine Calls.mono HI.out ?_
        rintro e w2 ⟨rfl, hw2⟩
        rw [hw2]
        clear hw2
        go_wp2
        exact bodyPost_ret (results_tmp2 rfl _ _ _) rfl ⟨rfl, HQ.out⟩
      · have h1 : (L.length : Int) ≤ k := hB' (by omega)
        go_enter Tryd.func36, Tryd.ntmps36
        go_wp2_with fail
        refine Calls.mono HI.out ?_
        rintro e w2 ⟨rfl, hw2⟩
        rw [hw2]
        clear hw2
        go_wp2
        exact bodyPost_ret (results_tmp2 rfl _ _ _) rfl ⟨rfl, HQ.out⟩
    · obtain ⟨i, rfl, hi⟩ := isB_at hB
      obtain ⟨j, rfl, hj⟩ := isL_at hK
      obtain ⟨x, hx⟩ : ∃ x, T[i]? = some x := ⟨_, List.getElem?_eq_getElem hi⟩
      obtain ⟨y, hy⟩ : ∃ y, L[j]? = some y := ⟨_, List.getElem?_eq_getElem hj⟩
      have hrl := hsh y.2 (List.mem_map.2 ⟨y, List.mem_of_getElem? hy, rfl⟩)
      have HE : dlockM ⟨T, L.map (·.2), G⟩ ((i : Int) + 1) (j : Int) = if (!x.en && x.w == 0) = false then ((false, 192), ⟨T, L.map (·.2), G⟩) else if y.2.ho = (i : Int) + 1 then ((false, 191), ⟨T, L.map (·.2), G⟩) else if y.2.ho = 0 then ((true, 0), ⟨T, (L.map (·.2)).set j { y.2 with ho := (i : Int) + 1 }, G⟩) else ((false, 0), ⟨T.set i ⟨2, (j : Int), false, 0, 0⟩, (L.map (·.2)).set j { y.2 with row := y.2.row ++ [(i : Int) + 1] }, G⟩) := by
        unfold dlockM
        rw [if_neg (by simp [hB, hK]), show ((i : Int) + 1 - 1).toNat = i by omega, Int.toNat_natCast, hx, List.getElem?_map, hy]
        rfl
      rw [HE]
      have HGo : Hid _ := dGoes_any hX hx
      have k0 : ¬ (j : Int) < 0 := by omega
      have k1 : (0 : Int) ≤ (j : Int) := by omega
      have k2 : (j : Int) < (L.length : Int) := by omega
      have k3 : ¬ (L.length : Int) ≤ (j : Int) := by omega
      clear HE hB hK
      cases hgo : (!x.en && x.w == 0)
      · rw [hgo] at HGo
        rw [if_pos rfl]
        dsimp only
        clear hX hsh hgo hx hy
        go_enter Tryd.func36, Tryd.ntmps36
        go_wp2_with fail
        refine Calls.mono HI.out ?_
        rintro e w2 ⟨rfl, hw2⟩
        rw [hw2]
        clear hw2
        go_wp2_with fail
        refine Calls.mono HGo.out ?_
        rintro e w2 ⟨rfl, hw2⟩
        rw [hw2]
        clear hw2
        go_wp2
        exact bodyPost_ret (results_tmp2 rfl _ _ _) rfl ⟨rfl, HQ.out⟩
      · rw [hgo] at HGo
        rw [if_neg (by simp)]
        obtain ⟨gl, hp, -, lg, cs, hcs, hc0, hc1⟩ := hX.lf hy
        have d0 := heap_cell hcs hc0
        have f0 : w.frozen? ⟨gl, j * 2, none⟩ = false := by simp [World.frozen?, hcs]
        rw [hp] at c1
        by_cases h1 : y.2.ho = (i : Int) + 1
        · rw [if_pos h1]
          rw [h1] at d0
          dsimp only
          clear hX hsh hgo hx hy hcs hc0 hc1 hp h1
          go_enter Tryd.func36, Tryd.ntmps36
          go_wp2_with fail
          refine Calls.mono HI.out ?_
          rintro e w2 ⟨rfl, hw2⟩
          rw [hw2]
          clear hw2
          go_wp2_with fail
          refine Calls.mono HGo.out ?_
          rintro e w2 ⟨rfl, hw2⟩
          rw [hw2]
          clear hw2
          go_wp2
          exact bodyPost_ret (results_tmp2 rfl _ _ _) rfl ⟨rfl, HQ.out⟩
        · rw [if_neg h1]
          by_cases h2 : y.2.ho = 0
          · rw [if_pos h2]
            have hF := hX.hoL ((i : Int) + 1) hy hp
            have HR : Hid (DR2 r ⟨T, (L.map (·.2)).set j { y.2 with ho := (i : Int) + 1 }, G⟩ (Fd r pt pl pg L) w (w.setCell ⟨gl, j * 2, none⟩ (.int .i64 ((i : Int) + 1)))) := by
              have := dr_of hF.1 hF.2
              rw [List.map_set] at this
              exact this
            rw [h2] at d0
            dsimp only
            have h3 : ¬ ((0 : Int) = (i : Int) + 1) := by omega
            clear hX hsh hgo hx hy hcs hc0 hc1 hp h1 h2 hF HQ
            go_enter Tryd.func36, Tryd.ntmps36
            go_wp2_with fail
            refine Calls.mono HI.out ?_
            rintro e w2 ⟨rfl, hw2⟩
            rw [hw2]
            clear hw2
            go_wp2_with fail
            refine Calls.mono HGo.out ?_
            rintro e w2 ⟨rfl, hw2⟩
            rw [hw2]
            clear hw2
            go_wp2
            exact bodyPost_ret (results_tmp2 rfl _ _ _) rfl ⟨rfl, HR.out⟩
          · rw [if_neg h2]
            have e1 := heap_cell hcs hc1
            have hRI := hX.rr.r _ _ (dws_at hy)
            have hk : ∀ g, g < w.heap.size → (w.alloc (.cells #[.int .i64 ((i : Int) + 1)] 3)).heap[g]? = w.heap[g]? := fun g hg => Below.heap_alloc _ _ _ hg
            have hz : (w.alloc (.cells #[.int .i64 ((i : Int) + 1)] 3)).heap.size = w.heap.size + 1 := World.size_alloc ..
            obtain ⟨s3, w3, hap, q1, q2, q3, q4⟩ := (hRI.kept (w' := w.alloc (.cells #[.int .i64 ((i : Int) + 1)] 3)) (fun g hg => hk g (hRI.lt hg))).snoc (by show y.2.row.length ≤ 1000; omega) ((i : Int) + 1) w.heap.size (heap_alloc_new w _)
            have hne : y.1.blk ≠ some gl := fun e => by
              obtain ⟨c2, h2'⟩ := hRI.bt e
              rw [hcs] at h2'
              cases h2'
            obtain ⟨hX4, hC4⟩ := hX.rowL (w1 := w3) hy q1 (fun g hg hn => (q2 g (by omega) hn).trans (hk g hg)) (((Below.refl 0 w).alloc (Nat.zero_le _) _).trans q3) (fun g hg => by
              rcases q4 with e | e
              · exact .inl (by rw [← e]; exact hg)
              · rw [e] at hg
                have := Option.some.inj hg
                right
                omega) hp
            have hcs3 := (q2 gl (by omega) hne).trans ((hk gl lg).trans hcs)
            have m1 := heap_cell hcs3 hc1
            have f3 : w3.frozen? ⟨gl, j * 2 + 1, none⟩ = false := by simp [World.frozen?, hcs3]
            have l3 := heap_lt hcs3
            obtain ⟨gt, hpt, -, lgt, ct, hct, ht0, ht1, ht2, ht3, ht4⟩ := hX4.tf hx
            have c04 := hX4.c0
            have lb4 := heap_lt hX4.obj
            obtain ⟨hX5, hC5⟩ := hX4.allT 2 (j : Int) false 0 0 hx hpt
            have HR := dr_of hX5 (hC4.trans hC5)
            rw [List.map_set] at HR
            have hlen : (y.2.row ++ [(i : Int) + 1]).length = y.2.row.length + 1 := by rw [List.length_append]; rfl
            rw [hlen] at hct c04 lb4 lgt HR
            have t0 := heap_cell hct ht0
            have t1 := heap_cell hct ht1
            have t2 := heap_cell hct ht2
            have t3 := heap_cell hct ht3
            have t4 := heap_cell hct ht4
            have ft : ∀ n, (w3.setCell ⟨gl, j * 2 + 1, none⟩ (.slice s3.ra (y.2.row.length + 1) s3.cap)).frozen? ⟨gt, n, none⟩ = false := fun n => by simp [World.frozen?, hct]
            rw [hpt] at c04
            have HR2 : Hid _ := HR
            have hw : IntKind.i64.wrap ((i : Int) + 1 - 1) = (i : Int) := by
              rw [show (i : Int) + 1 - 1 = i by omega]
              exact IntWalk.i64_in _ (by omega)
            have z1 : (0 : Int) ≤ (i : Int) := by omega
            have z2 : (i : Int) < (T.length : Int) := by omega
            obtain ⟨⟨yra, yca⟩, ⟨yho, yrow⟩⟩ := y
            obtain ⟨ra3, ca3⟩ := s3
            dsimp only at *
            clear hX hsh hgo hx hy hcs hc0 hc1 hp hRI hk hz q1 q2 q3 q4 hX4 hC4 hcs3 hct ht0 ht1 ht2 ht3 ht4 hX5 hC5 HR hlen hne hpt HQ
            generalize yrow.length = yl at *
            go_enter Tryd.func36, Tryd.ntmps36
            go_wp2_with fail
            refine Calls.mono HI.out ?_
            rintro e w2 ⟨rfl, hw2⟩
            rw [hw2]
            clear hw2
            go_wp2_with fail
            refine Calls.mono HGo.out ?_
            rintro e w2 ⟨rfl, hw2⟩
            rw [hw2]
            clear hw2
            go_wp2_with (at_builtin; refine stop_of ?_)
            unfold Hid
            refine wpList_append_known _ rfl _ _ 62 62 rfl _ _ rfl rfl (hap _) ?_
            clear hap
            go_wp2
            exact bodyPost_ret (results_tmp2 rfl _ _ _) rfl ⟨rfl, HR2.out⟩
end Go.Proofs.YtdlnkdcgipaoeaaDoor
