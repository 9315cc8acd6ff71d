/- The document's Right: may a view be? -/
import Derived.Test.YtphpkedfcmghmaaDoorHBRefGreyM
import Derived.Deep.RegionWith
namespace Go.Proofs.YtphpkedfcmghmaaDoor
open Go.RowKit

theorem may_not {v : Vw} (h : mayV v = true → False) : mayV v = false := by
  cases e : mayV v with
  | false => rfl
  | true => exact (h e).elim
theorem may_is {v : Vw} : mayV v = true ↔ (v.ph ≤ 3 ∧ (0 ≤ v.sw ∧ v.sw ≤ (v.h.length : Int)) ∧ (0 ≤ v.laid ∧ v.laid ≤ (v.gl.length : Int))) ∧ (rightM v.h v.gl = true ∧ ∀ x ∈ v.lanes, rightM v.h x.roots = true) ∧ GreyD v := by
  rw [← words_is, ← grey_is]
  unfold mayV upToB
  simp only [Bool.and_eq_true, decide_eq_true_iff]
  constructor
  · rintro ⟨h1, h2, h3, h4, h5, h6⟩
    exact ⟨⟨h1, h2, h3⟩, ⟨h4, h5⟩, h6⟩
  · rintro ⟨⟨h1, h2, h3⟩, ⟨h4, h5⟩, h6⟩
    exact ⟨h1, h2, h3, h4, h5, h6⟩
theorem lanes_more {v : Vw} {k : Nat} {x : Ln} (h : ∀ (j : Nat) y, j < k → v.lanes[j]? = some y → rightM v.h y.roots = true) (hx : v.lanes[k]? = some x) (hp : rightM v.h x.roots = true) : ∀ (j : Nat) y, j < k + 1 → v.lanes[j]? = some y → rightM v.h y.roots = true := fun j y hj hy => by
  by_cases e : j = k
  · subst e; rw [hx] at hy; cases hy; exact hp
  · exact h j y (by omega) hy
theorem takei_more {l : List Int} {k : Nat} {c : Int} (hc : l[k]? = some c) : l.take (k + 1) = l.take k ++ [c] := by
  rw [List.take_add_one, hc]; rfl
/-- How Right stands: the view's box, and what lay there before. -/
structure RS (w W : World) (p : Vp) (v : Vw) : Prop where
  vb : VB W w.heap.size p v
  bel : Below w.heap.size w W
theorem RS.below {w W W' : World} {p : Vp} {v : Vw} (h : RS w W p v) (hb : Below W.heap.size W W') : RS w W' p v := ⟨h.vb.kc (kc_below (Nat.le_refl _) hb), h.bel.trans (hb.mono h.bel.size)⟩
theorem RS.lt {w W : World} {p : Vp} {v : Vw} (h : RS w W p v) : w.heap.size < W.heap.size := (Array.getElem?_eq_some_iff.1 h.vb).1
set_option maxRecDepth 100000 in
set_option maxHeartbeats 16000000 in
theorem refMay_any (p : Vp) (v : Vw) (w : World) (hV : VL w p v) :
    Calls Tryd.prog 69 #[.agg (p.cells v)] w fun e w' => e = .returned (.bool (mayV v)) ∧ Below w.heap.size w w' := by
  obtain ⟨pcr, pcc, pyr, pyc, pgr, pgc, plr, plc⟩ := p
  have HV : Hid (VL w ⟨pcr, pcc, pyr, pyc, pgr, pgc, plr, plc⟩ v) := hV
  have q1 := hV.hl
  have q2 := hV.yl
  have q3 := hV.gl
  have q4 := hV.ll
  obtain ⟨W1, hW1⟩ : ∃ W1, w.alloc (.cells ((⟨pcr, pcc, pyr, pyc, pgr, pgc, plr, plc⟩ : Vp).cells v) 28) = W1 := ⟨_, rfl⟩
  have b1 : Below w.heap.size w W1 := by rw [← hW1]; exact (Below.refl _ w).alloc (Nat.le_refl _) _
  have v1 : VB W1 w.heap.size ⟨pcr, pcc, pyr, pyc, pgr, pgc, plr, plc⟩ v := by unfold VB; rw [← hW1]; exact World.alloc_heap_new w _
  have HS : Hid (RS w W1 ⟨pcr, pcc, pyr, pyc, pgr, pgc, plr, plc⟩ v) := ⟨v1, b1⟩
  obtain ⟨d0, d1, d2, d3, d4, d5, d6⟩ := v1.at7
  have l1 : w.heap.size < W1.heap.size := (Array.getElem?_eq_some_iff.1 v1).1
  obtain ⟨i0, hi0, hz0, hz1, hz2⟩ := info_parts infoBool
  have HM : Hid _ := @may_is v
  have HRi : Hid _ := refRight_any v.h v.gl pcr pgr pcc pgc W1 q1 q3 (hV.h.below b1) (hV.g.below b1)
  unfold Vp.cells at hW1
  unfold Vp.cells
  dsimp only at hW1 d0 d3 d4 d6 ⊢
  have HW1 : Hid _ := hW1
  clear hW1 hV b1 v1
  go_enter Tryd.func69, Tryd.ntmps69
  go_upto_region 1 with fail
  rw [HW1.out]
  clear HW1
  by_cases hgd : v.ph ≤ 3 ∧ (0 ≤ v.sw ∧ v.sw ≤ (v.h.length : Int)) ∧ (0 ≤ v.laid ∧ v.laid ≤ (v.gl.length : Int))
  · have HGd : Hid _ := hgd
    have z1 : ¬ v.ph > 3 := by omega
    have z2 : ¬ v.sw < 0 := by omega
    have z3 : ¬ v.sw > (v.h.length : Int) := by omega
    have z4 : ¬ v.laid < 0 := by omega
    have z5 : ¬ v.laid > (v.gl.length : Int) := by omega
    clear hgd
    cases hrg : rightM v.h v.gl
    · have HN : Hid (mayV v = false) := may_not fun h => by
        have := (HM.out.1 h).2.1.1
        rw [hrg] at this
        cases this
      rw [hrg] at HRi
      clear hrg
      go_wp2_with fail
      refine Calls.mono HRi.out ?_
      rintro e W2 ⟨rfl, hb2⟩
      have HS2 : Hid _ := HS.out.below hb2
      clear HS HRi hb2 d0 d1 d2 d3 d4 d5 d6 l1 z1 z2 z3 z4 z5
      go_wp2
      go_ret
      exact ⟨by rw [HN.out]; rfl, HS2.out.bel⟩
    · have HRg : Hid (rightM v.h v.gl = true) := hrg
      rw [hrg] at HRi
      clear hrg
      go_wp2_with fail
      refine Calls.mono HRi.out ?_
      rintro e W2 ⟨rfl, hb2⟩
      have HS2 : Hid (RS w W2 ⟨pcr, pcc, pyr, pyc, pgr, pgc, plr, plc⟩ v) := HS.out.below hb2
      clear HS HRi hb2 d0 d1 d2 d3 d4 d5 d6 l1 z1 z2 z3 z4 z5
      go_wp2_with fail
      go_loopw [3, 4] (fun o i wr => ∃ k : Nat, i = .int .i64 k ∧ o = .bool true ∧ k ≤ v.lanes.length ∧ Hid (RS w wr ⟨pcr, pcc, pyr, pyc, pgr, pgc, plr, plc⟩ v) ∧ Hid (∀ (j : Nat) y, j < k → v.lanes[j]? = some y → rightM v.h y.roots = true)) (fun _ i _ => v.lanes.length - (intOf i).toNat)
      case atStart => exact ⟨0, rfl, rfl, Nat.zero_le _, HS2, fun _ _ h => absurd h (Nat.not_lt_zero _)⟩
      case round =>
        clear HS2
        obtain ⟨k, rfl, rfl, hk, HS, HA⟩ := hrel
        obtain ⟨d0, d1, d2, d3, d4, d5, d6⟩ := HS.out.vb.at7
        dsimp only at d0 d6
        have l1 := HS.out.lt
        by_cases hkl : k < v.lanes.length
        · have k1 : (k : Int) < (v.lanes.length : Int) := by omega
          obtain ⟨x, hx⟩ : ∃ x, v.lanes[k]? = some x := ⟨_, List.getElem?_eq_getElem hkl⟩
          obtain ⟨b, o, hor, hcs⟩ := HV.out.l
          obtain ⟨g1, ⟨ry, rc, c0, hw, c3⟩, _, _⟩ := hcs k x hx
          have hlr : plr = some ⟨b, o, none⟩ := hor.resolve_left (by omega)
          subst hlr
          have e0 := (HS.out.bel.cell (p := ⟨b, _, none⟩) g1).trans c0
          have HX : Hid (v.lanes[k]? = some x) := hx
          have bd : Below w.heap.size w wr.drew := HS.out.bel.drew
          have HC : Hid _ := refRight_any v.h x.roots pcr ry pcc rc wr.drew q1 c3 (HV.out.h.below bd) (hw.below bd)
          have hgb : b < wr.heap.size := Nat.lt_of_lt_of_le g1 HS.out.bel.size
          clear hcs hor c0 hx hw bd d1 d2 d3 d4 d5 g1
          obtain ⟨rb, hrb⟩ : ∃ rb, rightM v.h x.roots = rb := ⟨_, rfl⟩
          rw [hrb] at HC
          have HRb : Hid (rightM v.h x.roots = rb) := hrb
          clear hrb
          go_upto_region 9 with fail
          go_region_with (first | (go_at_call 93; refine Calls.mono HC.out ?_; rintro e W5 ⟨rfl, hb5⟩))
          all_goals
            have HS5 : Hid (RS w W5 ⟨pcr, pcc, pyr, pyc, pgr, pgc, some ⟨b, o, none⟩, plc⟩ v) := HS.out.below ((below_d wr).trans hb5)
            clear HS HC hb5 d0 d6 e0 l1 hgb
            cases rb
            · have HN : Hid (mayV v = false) := may_not fun h => by
                have := (HM.out.1 h).2.1.2 x (List.mem_of_getElem? HX.out)
                rw [HRb.out] at this
                cases this
              go_wp2
              go_ret
              exact ⟨by rw [HN.out]; rfl, HS5.out.bel⟩
            · have HA2 : Hid (∀ (j : Nat) y, j < k + 1 → v.lanes[j]? = some y → rightM v.h y.roots = true) := lanes_more HA.out HX.out HRb.out
              go_wp2
              go_roundw
              case rel => exact ⟨k + 1, by go_num, rfl, by omega, HS5, HA2⟩
              case measure => simp [intOf]; omega
        · have k1 : ¬ (k : Int) < (v.lanes.length : Int) := by omega
          have HLa : Hid (∀ x ∈ v.lanes, rightM v.h x.roots = true) := fun x hx => by
            obtain ⟨j, hj⟩ := List.getElem?_of_mem hx
            exact HA.out j x (by have := (List.getElem?_eq_some_iff.1 hj).1; omega) hj
          clear HA
          go_wp2_with (at_make; refine stop_of ?_)
          unfold Hid
          refine wpList_make_full _ rfl _ _ 73 rfl wr.heap.size 4 i0 (.bool false) 1 Tryd.underlying73 hi0 hz0 hz1 .i64 .i64 _ _ v.h.length rfl rfl rfl rfl (by rw [hz2]; omega) (by unfold maxLen; omega) (Nat.le_refl _) ?_
          intro W3 hown hgr
          have HD3 : Hid (DR W3 4 wr.heap.size v.h.length (fun j u => u = .bool ((v.grey.take 0).contains (j : Int)))) := (row_made hown (false_made _)).mono (fun j u _ hu => by rw [hu]; rfl)
          have HS3 : Hid (RS w W3 ⟨pcr, pcc, pyr, pyc, pgr, pgc, plr, plc⟩ v) := HS.out.below (grown_low hgr (fun g hg => by cases hg) (Nat.le_refl _))
          have hgH : w.heap.size < wr.heap.size := HS.out.lt
          clear hown hgr HS d0 d1 d2 d3 d4 d5 d6 l1
          generalize wr.heap.size = gH at *
          go_wp2_with fail
          go_loopw [6, 7] (fun i _ wr => ∃ k : Nat, i = .int .i64 k ∧ k ≤ v.grey.length ∧ Hid (RS w wr ⟨pcr, pcc, pyr, pyc, pgr, pgc, plr, plc⟩ v) ∧ Hid (DR wr 4 gH v.h.length (fun j u => u = .bool ((v.grey.take k).contains (j : Int)))) ∧ Hid ((v.grey.take k).Nodup ∧ ∀ c ∈ v.grey.take k, 0 ≤ c ∧ c < (v.h.length : Int))) (fun i _ _ => v.grey.length - (intOf i).toNat)
          case atStart => exact ⟨0, rfl, Nat.zero_le _, HS3, HD3, ⟨List.nodup_nil, fun c hc => by simp at hc⟩⟩
          case round =>
            clear HS3 HD3
            obtain ⟨k, rfl, hk, HS, HD, HG⟩ := hrel
            obtain ⟨d0, d1, d2, d3, d4, d5, d6⟩ := HS.out.vb.at7
            dsimp only at d0 d3
            clear d1 d2 d4 d5 d6
            have l1 := HS.out.lt
            by_cases hkl : k < v.grey.length
            · have k1 : (k : Int) < (v.grey.length : Int) := by omega
              obtain ⟨c, hc⟩ : ∃ c, v.grey[k]? = some c := ⟨_, List.getElem?_eq_getElem hkl⟩
              obtain ⟨b, o, hor, hcs⟩ := HV.out.y
              obtain ⟨g1, c0⟩ := hcs k c hc
              have hyr : pyr = some ⟨b, o, none⟩ := hor.resolve_left (by omega)
              subst hyr
              have e0 := (HS.out.bel.cell (p := ⟨b, _, none⟩) g1).trans c0
              have hgb : b < wr.heap.size := Nat.lt_of_lt_of_le g1 HS.out.bel.size
              have HX : Hid (v.grey[k]? = some c) := hc
              clear hcs hor c0 hc g1
              by_cases z1 : c < 0
              · have HN : Hid (mayV v = false) := may_not fun h => by
                  have := ((HM.out.1 h).2.2.lt c (List.mem_of_getElem? HX.out)).1
                  omega
                go_wp2
                go_ret
                exact ⟨by rw [HN.out]; rfl, HS.out.bel⟩
              by_cases z2 : c ≥ (v.h.length : Int)
              · have HN : Hid (mayV v = false) := may_not fun h => by
                  have := ((HM.out.1 h).2.2.lt c (List.mem_of_getElem? HX.out)).2
                  omega
                go_wp2
                go_ret
                exact ⟨by rw [HN.out]; rfl, HS.out.bel⟩
              obtain ⟨cn, rfl⟩ : ∃ cn : Nat, c = (cn : Int) := ⟨c.toNat, by omega⟩
              have z3 : (cn : Int) < (v.h.length : Int) := by omega
              have hcn : cn < v.h.length := by omega
              clear z1 z2
              obtain ⟨u, hu, hu2⟩ := HD.out.cell hcn
              have lg := HD.out.lt
              have fz := HD.out.fz cn
              cases hct : (v.grey.take k).contains (cn : Int)
              · rw [hu2, hct] at hu
                have HS2 : Hid (RS w (wr.setCell ⟨gH, cn, none⟩ (.bool true)) ⟨pcr, pcc, some ⟨b, o, none⟩, pyc, pgr, pgc, plr, plc⟩ v) := ⟨(Below.heap_setCell _ _ _ _ (by show w.heap.size ≠ gH; omega)).trans HS.out.vb, HS.out.bel.setCell (p := ⟨gH, cn, none⟩) (by show w.heap.size ≤ gH; omega) _⟩
                have HD2 : Hid (DR (wr.setCell ⟨gH, cn, none⟩ (.bool true)) 4 gH v.h.length (fun j u => u = .bool ((v.grey.take (k + 1)).contains (j : Int)))) := HD.out.set (fun j u hj hu => by
                  rw [hu, takei_more HX.out]
                  have : ¬ (j : Int) = (cn : Int) := by omega
                  simp [this]) (by rw [takei_more HX.out]; simp)
                have HG2 : Hid ((v.grey.take (k + 1)).Nodup ∧ ∀ c ∈ v.grey.take (k + 1), 0 ≤ c ∧ c < (v.h.length : Int)) := by
                  show _ ∧ _
                  rw [takei_more HX.out]
                  refine ⟨?_, fun c hc => ?_⟩
                  · rw [List.nodup_append]
                    refine ⟨HG.out.1, by simp, fun a ha b hb e => ?_⟩
                    rw [List.mem_singleton.1 hb] at e
                    subst e
                    have : (v.grey.take k).contains (cn : Int) = true := by simpa using ha
                    rw [hct] at this
                    cases this
                  · rcases List.mem_append.1 hc with hc | hc
                    · exact HG.out.2 c hc
                    · rw [List.mem_singleton.1 hc]; omega
                clear hct hu2 HS HD HG
                go_wp2
                go_roundw
                case rel => exact ⟨k + 1, by go_num, by omega, HS2, HD2, HG2⟩
                case measure => simp [intOf]; omega
              · rw [hu2, hct] at hu
                have HN : Hid (mayV v = false) := may_not fun h => by
                  have hnd := (HM.out.1 h).2.2.nd
                  have hm : (cn : Int) ∈ v.grey.take k := by simpa using hct
                  have e : v.grey = v.grey.take (k + 1) ++ v.grey.drop (k + 1) := (List.take_append_drop _ _).symm
                  rw [e, takei_more HX.out, List.append_assoc, List.nodup_append] at hnd
                  exact hnd.2.2 _ hm _ (List.mem_append_left _ (List.mem_singleton.2 rfl)) rfl
                clear hct hu2
                go_wp2
                go_ret
                exact ⟨by rw [HN.out]; rfl, HS.out.bel⟩
            · have k1 : ¬ (k : Int) < (v.grey.length : Int) := by omega
              have HD2 : Hid (DR wr 4 gH v.h.length (fun j u => u = .bool (v.grey.contains (j : Int)))) := by
                have h' := HD.out
                rw [List.take_of_length_le (by omega)] at h'
                exact h'
              have HG2 : Hid (v.grey.Nodup ∧ ∀ c ∈ v.grey, 0 ≤ c ∧ c < (v.h.length : Int)) := by
                have h' := HG.out
                rw [List.take_of_length_le (by omega)] at h'
                exact h'
              clear HD HG
              go_wp2_with fail
              go_loopw [8, 9] (fun i _ wr' => ∃ j : Nat, i = .int .i64 j ∧ j ≤ v.h.length ∧ wr' = wr ∧ Hid (∀ (k : Nat), k < j → v.grey.contains (k : Int) = gr0 v.h k)) (fun i _ _ => v.h.length - (intOf i).toNat)
              case atStart => exact ⟨0, rfl, Nat.zero_le _, rfl, fun _ h => absurd h (Nat.not_lt_zero _)⟩
              case round =>
                obtain ⟨j, rfl, hj, rfl, HQ⟩ := hrel
                by_cases hjl : j < v.h.length
                · have k2 : (j : Int) < (v.h.length : Int) := by omega
                  obtain ⟨x, hx⟩ : ∃ x, v.h[j]? = some x := ⟨_, List.getElem?_eq_getElem hjl⟩
                  obtain ⟨bb, oo, hor, hcs⟩ := HV.out.h.below HS.out.bel
                  have hcr : pcr = some ⟨bb, oo, none⟩ := hor.resolve_left (by omega)
                  subst hcr
                  obtain ⟨gb, ⟨y0, y1, _, _⟩, _⟩ := hcs j x hx
                  obtain ⟨u, hu, hu2⟩ := HD2.out.cell hjl
                  rw [hu2] at hu
                  have lg := HD2.out.lt
                  have HG0 : Hid (gr0 v.h j = greyB x) := by show _ = _; unfold gr0; rw [hx]
                  clear hu2 hor hcs hx
                  obtain ⟨cb, hcb⟩ : ∃ cb, v.grey.contains (j : Int) = cb := ⟨_, rfl⟩
                  rw [hcb] at hu
                  have HCb : Hid (v.grey.contains (j : Int) = cb) := hcb
                  clear hcb
                  have good : gr0 v.h j = cb → Hid (∀ (k : Nat), k < j + 1 → v.grey.contains (k : Int) = gr0 v.h k) := fun e k hk => by
                    by_cases hkj : k = j
                    · subst hkj; rw [HCb.out, e]
                    · exact HQ.out k (by omega)
                  have bad : gr0 v.h j ≠ cb → Hid (mayV v = false) := fun e => may_not fun h => e (by rw [← HCb.out]; exact ((HM.out.1 h).2.2.eq j hjl).symm)
                  have HGo : Hid _ := good
                  have HBa : Hid _ := bad
                  clear good bad
                  by_cases hk0 : x.k = 0
                  · have z1 : (x.k != 0) = false := by simp [hk0]
                    have HGr : Hid (gr0 v.h j = false) := by show _ = _; rw [HG0.out]; simp [greyB, usedB, hk0]
                    clear hk0
                    cases cb
                    · have HQ2 := HGo.out HGr.out
                      go_wp2
                      go_roundw
                      case rel => exact ⟨j + 1, by go_num, by omega, trivial, HQ2⟩
                      case measure => simp [intOf]; omega
                    · have HN := HBa.out (by rw [HGr.out]; decide)
                      go_wp2
                      go_ret
                      exact ⟨by rw [HN.out]; rfl, HS.out.bel⟩
                  · have z1 : (x.k != 0) = true := by simp [hk0]
                    by_cases hc1 : x.c = 1
                    · have z2 : (x.c == 1) = true := by simp [hc1]
                      have HGr : Hid (gr0 v.h j = true) := by show _ = _; rw [HG0.out]; simp [greyB, usedB, hk0, hc1]
                      clear hk0 hc1
                      cases cb
                      · have HN := HBa.out (by rw [HGr.out]; decide)
                        go_wp2
                        go_ret
                        exact ⟨by rw [HN.out]; rfl, HS.out.bel⟩
                      · have HQ2 := HGo.out HGr.out
                        go_wp2
                        go_roundw
                        case rel => exact ⟨j + 1, by go_num, by omega, trivial, HQ2⟩
                        case measure => simp [intOf]; omega
                    · have z2 : (x.c == 1) = false := by simp [hc1]
                      have HGr : Hid (gr0 v.h j = false) := by show _ = _; rw [HG0.out]; simp [greyB, usedB, hk0, hc1]
                      clear hk0 hc1
                      cases cb
                      · have HQ2 := HGo.out HGr.out
                        go_wp2
                        go_roundw
                        case rel => exact ⟨j + 1, by go_num, by omega, trivial, HQ2⟩
                        case measure => simp [intOf]; omega
                      · have HN := HBa.out (by rw [HGr.out]; decide)
                        go_wp2
                        go_ret
                        exact ⟨by rw [HN.out]; rfl, HS.out.bel⟩
                · have k2 : ¬ (j : Int) < (v.h.length : Int) := by omega
                  have HY : Hid (mayV v = true) := HM.out.2 ⟨HGd.out, ⟨HRg.out, HLa.out⟩, ⟨HG2.out.1, HG2.out.2, fun k hk => HQ.out k (by omega)⟩⟩
                  go_wp2
                  go_ret
                  exact ⟨by rw [HY.out]; rfl, HS.out.bel⟩
  · have HN : Hid (mayV v = false) := may_not fun h => hgd (HM.out.1 h).1
    by_cases z1 : v.ph > 3
    · clear hgd
      go_wp2
      go_ret
      exact ⟨by rw [HN.out]; rfl, HS.out.bel⟩
    by_cases z2 : v.sw < 0
    · clear hgd
      go_wp2
      go_ret
      exact ⟨by rw [HN.out]; rfl, HS.out.bel⟩
    by_cases z3 : v.sw > (v.h.length : Int)
    · clear hgd
      go_wp2
      go_ret
      exact ⟨by rw [HN.out]; rfl, HS.out.bel⟩
    by_cases z4 : v.laid < 0
    · clear hgd
      go_wp2
      go_ret
      exact ⟨by rw [HN.out]; rfl, HS.out.bel⟩
    have z5 : v.laid > (v.gl.length : Int) := by omega
    clear hgd
    go_wp2
    go_ret
    exact ⟨by rw [HN.out]; rfl, HS.out.bel⟩
end Go.Proofs.YtphpkedfcmghmaaDoor
