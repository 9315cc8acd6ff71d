/- What is shaded, by the program; Store, Fill. -/
import Derived.Test.YtigcpbndmiefhaaDoorHBShade
namespace Go.Proofs.YtigcpbndmiefhaaDoor
open Go.RowKit

theorem ref_some {x : Int} {c : Nat} (h : refN x = some c) : refB x = true ∧ cellV x = (c : Int) := by
  unfold refN at h
  split at h
  · rename_i h8
    have hb : refB x = true := by simpa [refB] using h8
    have := ofN_ref hb
    refine ⟨hb, ?_⟩
    unfold cellV
    rw [if_pos h8]
    have := Option.some.inj h
    omega
  · cases h
theorem ref_none {x : Int} (h : refN x = none) : refB x = false := by
  unfold refN at h
  split at h
  · cases h
  · rename_i h8
    simpa [refB] using h8
def OutI (l : List Int) (e : Ending) (w w' : World) : Prop := (∃ v', e = .returned v' ∧ w'.ownsRow w.heap.size 3 1 v' l.length (l.map (Value.int .i64))) ∧ Below w.heap.size w w'
set_option maxRecDepth 100000 in
set_option maxHeartbeats 8000000 in
theorem shaded_any (h : List Cl) (ws : List Int) (ra rs : Option Addr) (ca cs : Nat) (w : World) (_ : h.length ≤ 281474976710656) (hw : ws.length ≤ 1000) (hH : HR w ra h) (hW : WR w rs ws) (hT : Tab w) :
    Calls Tryd.prog 36 #[.slice ra h.length ca, .slice rs ws.length cs] w fun e w' => OutI (shM h ws) e w w' := by
  have HH : Hid (HR w ra h) := hH
  have HW : Hid (WR w rs ws) := hW
  have HT : Hid (Tab w) := hT
  obtain ⟨i0, hi0, hz0, hz1, hz2⟩ := info_parts infoI
  have HI0 : Hid (Tryd.prog.info? 3 = some i0 ∧ _ ∧ _ ∧ _) := ⟨hi0, hz0, hz1, hz2⟩
  clear hH hW hT hi0 hz0 hz1 hz2
  go_enter Tryd.func36, Tryd.ntmps36
  go_wp2
  go_loopw [12, 5, 7, 8, 9] (fun i s _ _ _ wr => ∃ j : Nat, i = .int .i64 j ∧ j ≤ ws.length ∧ Hid (wr.ownsRow w.heap.size 3 1 s (shM h (ws.take j)).length ((shM h (ws.take j)).map (Value.int .i64))) ∧ Hid (Below w.heap.size w wr)) (fun i _ _ _ _ _ => ws.length - (intOf i).toNat)
  case atStart => exact ⟨0, rfl, Nat.zero_le _, World.ownsRow_nil _ _ _ _, Below.refl _ _⟩
  case round =>
    obtain ⟨j, rfl, hj, HS, HB⟩ := hrel
    have sz := HB.out.size
    obtain ⟨r0, c0, rfl⟩ := own_sl HS.out
    by_cases hlt : j < ws.length
    · have k1 : (j : Int) < (ws.length : Int) := by omega
      obtain ⟨x, hx⟩ : ∃ x, ws[j]? = some x := ⟨_, List.getElem?_eq_getElem hlt⟩
      obtain ⟨b, o, hor, hcs⟩ := HW.out.below HB.out
      have hrs : rs = some ⟨b, o, none⟩ := hor.resolve_left (by omega)
      subst hrs
      obtain ⟨g1, g2, g3⟩ := hcs j x hx
      have HN : Hid (shM h (ws.take (j + 1)) = shStep h (shM h (ws.take j)) x) := shM_step hx
      have hln : (shM h (ws.take j)).length ≤ 1000 := by
        have := sh_len (h := h) (ws.take j) []
        rw [List.length_take] at this
        unfold shM
        simp at this
        omega
      have HC : Hid _ := cell_any x wr g3 (HT.out.below HB.out)
      clear hcs hor hx
      cases hr : refN x with
      | none =>
        rw [ref_none hr] at HC
        have HSn : Hid (wr.ownsRow w.heap.size 3 1 (.slice r0 (shM h (ws.take j)).length c0) (shM h (ws.take (j + 1))).length ((shM h (ws.take (j + 1))).map (Value.int .i64))) := by
          have hn := HN.out
          unfold shStep at hn
          rw [hr] at hn
          show World.ownsRow ..
          rw [hn]
          exact HS.out
        clear HS HN hr g3
        go_wp2_with fail
        refine Calls.mono HC.out ?_
        rintro e w1 ⟨rfl, hw1⟩
        rw [hw1]
        clear hw1 HC
        go_wp2
        go_roundw
        case rel => exact ⟨j + 1, by go_num, by omega, HSn, HB⟩
        case measure => simp [intOf]; omega
      | some c =>
        obtain ⟨hrb, hcv⟩ := ref_some hr
        rw [hrb, hcv] at HC
        clear hrb hcv g3
        cases hy : h[c]? with
        | none =>
          have hcl : h.length ≤ c := by
            rcases Nat.lt_or_ge c h.length with h' | h'
            · rw [List.getElem?_eq_getElem h'] at hy; cases hy
            · exact h'
          have HSn : Hid (wr.ownsRow w.heap.size 3 1 (.slice r0 (shM h (ws.take j)).length c0) (shM h (ws.take (j + 1))).length ((shM h (ws.take (j + 1))).map (Value.int .i64))) := by
            have hn := HN.out
            unfold shStep at hn
            rw [hr] at hn
            dsimp only at hn
            rw [hy] at hn
            show World.ownsRow ..
            rw [hn]
            exact HS.out
          have k2 : ¬ (c : Int) < (h.length : Int) := by omega
          clear HS HN hr hy
          go_wp2_with fail
          refine Calls.mono HC.out ?_
          rintro e w1 ⟨rfl, hw1⟩
          rw [hw1]
          clear hw1 HC
          go_wp2
          go_roundw
          case rel => exact ⟨j + 1, by go_num, by omega, HSn, HB⟩
          case measure => simp [intOf]; omega
        | some y =>
          have hcl := (List.getElem?_eq_some_iff.1 hy).1
          have k2 : (c : Int) < (h.length : Int) := by omega
          obtain ⟨bh, oh, hoh, hch⟩ := HH.out.below HB.out
          have hra : ra = some ⟨bh, oh, none⟩ := hoh.resolve_left (by omega)
          subst hra
          obtain ⟨y1, ⟨y2, y3, y4, y5⟩, _⟩ := hch c y hy
          have HWh : Hid _ := isWhite_any y wr
          clear hch hoh
          go_wp2_with fail
          refine Calls.mono HC.out ?_
          rintro e w1 ⟨rfl, hw1⟩
          rw [hw1]
          clear hw1 HC
          go_wp2_with fail
          refine Calls.mono HWh.out ?_
          rintro e w2 ⟨rfl, hb2⟩
          have HB2 : Hid (Below w.heap.size w w2) := HB.out.trans (hb2.mono sz)
          have HS2 : Hid (w2.ownsRow w.heap.size 3 1 (.slice r0 (shM h (ws.take j)).length c0) (shM h (ws.take j)).length ((shM h (ws.take j)).map (Value.int .i64))) := own_same HS.out (fun g hg => hb2.block g (HS.out.lt g hg).2)
          have HCt : Hid _ := contains_any (shM h (ws.take j)) (c : Int) r0 c0 w2 (by omega) (own_rx HS2.out rfl)
          have HN2 : Hid (shM h (ws.take (j + 1)) = if whiteB y && !((shM h (ws.take j)).any (fun z => z == (c : Int))) then shM h (ws.take j) ++ [(c : Int)] else shM h (ws.take j)) := by
            have hn := HN.out
            unfold shStep at hn
            rw [hr] at hn
            dsimp only at hn
            rw [hy] at hn
            exact hn
          have sz2 := HB2.out.size
          clear hb2 HWh HS HN hr hy HB y1 y2 y3 y4 y5 sz
          cases hwb : whiteB y
          · have HSn : Hid (w2.ownsRow w.heap.size 3 1 (.slice r0 (shM h (ws.take j)).length c0) (shM h (ws.take (j + 1))).length ((shM h (ws.take (j + 1))).map (Value.int .i64))) := by
              have hn := HN2.out
              rw [hwb] at hn
              show World.ownsRow ..
              rw [hn]
              exact HS2.out
            clear HN2 HCt hwb HS2
            go_wp2
            go_roundw
            case rel => exact ⟨j + 1, by go_num, by omega, HSn, HB2⟩
            case measure => simp [intOf]; omega
          · cases hab : (shM h (ws.take j)).any (fun z => z == (c : Int))
            · rw [hab] at HCt
              have HN3 : Hid (shM h (ws.take (j + 1)) = shM h (ws.take j) ++ [(c : Int)]) := by
                have hn := HN2.out
                rw [hwb, hab] at hn
                exact hn
              clear HN2 hwb hab
              go_wp2_with fail
              refine Calls.mono HCt.out ?_
              rintro e w3 ⟨rfl, hw3⟩
              rw [hw3]
              clear hw3 HCt
              obtain ⟨hi0, hz0, hz1, hz2⟩ := HI0.out
              go_wp2_with (at_builtin; refine stop_of ?_)
              unfold Hid
              refine wpList_append_lies _ rfl _ _ 50 rfl w.heap.size 3 i0 _ 1 8 Tryd.underlying50 hi0 hz0 hz1 hz2 rfl (by decide) (.slice r0 (shM h (ws.take j)).length c0) (shM h (ws.take j)).length ((shM h (ws.take j)).map (Value.int .i64)) rfl (World.ownsRow.alloc HS2.out _) ⟨w2.heap.size, 0, none⟩ 1 1 [.int .i64 c] rfl rfl (fun k u hu => ?_) (fun u hu => ?_) (by omega) (by unfold maxLen; omega) (by omega) (by rw [World.size_alloc]; omega) _ rfl ?_
              · rw [ad_add, Nat.zero_add]
                exact new_cell _ #[.int .i64 c] _ k u hu
              · simp at hu; subst hu; rfl
              intro g5 cp w5 hown hgr hat hl3
              have hmid : Below w.heap.size w (w2.alloc (.cells #[.int .i64 (c : Int)] 3)) := HB2.out.alloc sz2 _
              have HBn : Hid (Below w.heap.size w w5) := hmid.grown hgr hmid.size (fun k hk => (World.ownsRow.lt HS2.out k hk).1)
              have HSn : Hid (w5.ownsRow w.heap.size 3 1 (.slice (some ⟨g5, 0, none⟩) ((shM h (ws.take j)).length + 1) cp) (shM h (ws.take (j + 1))).length ((shM h (ws.take (j + 1))).map (Value.int .i64))) := by
                have hn := HN3.out
                show World.ownsRow ..
                rw [hn, List.map_append, List.length_append]
                exact hown
              clear hown hgr hat hmid HS2 HB2 HN3 hi0 hz0 hz1 hz2
              go_wp2
              go_roundw
              case rel => exact ⟨j + 1, by go_num, by omega, HSn, HBn⟩
              case measure => simp [intOf]; omega
            · rw [hab] at HCt
              have HSn : Hid (w2.ownsRow w.heap.size 3 1 (.slice r0 (shM h (ws.take j)).length c0) (shM h (ws.take (j + 1))).length ((shM h (ws.take (j + 1))).map (Value.int .i64))) := by
                have hn := HN2.out
                rw [hwb, hab] at hn
                show World.ownsRow ..
                rw [hn]
                exact HS2.out
              clear HN2 hwb hab HS2
              go_wp2_with fail
              refine Calls.mono HCt.out ?_
              rintro e w3 ⟨rfl, hw3⟩
              rw [hw3]
              clear hw3 HCt
              go_wp2
              go_roundw
              case rel => exact ⟨j + 1, by go_num, by omega, HSn, HB2⟩
              case measure => simp [intOf]; omega
    · obtain rfl : j = ws.length := by omega
      have k1 : ¬ (ws.length : Int) < (ws.length : Int) := by omega
      rw [List.take_length] at HS ⊢
      go_wp2
      go_ret
      exact ⟨⟨_, rfl, HS.out⟩, HB.out⟩
end Go.Proofs.YtigcpbndmiefhaaDoor
