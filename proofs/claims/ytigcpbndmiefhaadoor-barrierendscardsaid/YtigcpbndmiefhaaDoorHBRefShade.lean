/- The document's Shades, Store, Fill. -/
import Derived.Test.YtigcpbndmiefhaaDoorHBRefSmall
namespace Go.Proofs.YtigcpbndmiefhaaDoor
open Go.RowKit

set_option maxRecDepth 100000 in
set_option maxHeartbeats 16000000 in
theorem refShades_any (h : List Cl) (ws : List Int) (ra rs : Option Addr) (ca cs : Nat) (w : World) (_ : h.length ≤ 281474976710656) (hw : ws.length ≤ 1000) (hH : HR w ra h) (hW : WR w rs ws) :
    Calls Tryd.prog 38 #[.slice ra h.length ca, .slice rs ws.length cs] w fun e w' => OutI (shM h ws) e w w' := by
  have HH : Hid (HR w ra h) := hH
  have HW : Hid (WR w rs ws) := hW
  obtain ⟨i0, hi0, hz0, hz1, hz2⟩ := info_parts infoI
  have HI0 : Hid (Tryd.prog.info? 3 = some i0 ∧ _ ∧ _ ∧ _) := ⟨hi0, hz0, hz1, hz2⟩
  clear hH hW hi0 hz0 hz1 hz2
  go_enter Tryd.func38, Tryd.ntmps38
  go_wp2
  go_loopw [6, 5, 7, 8, 9, 10] (fun i s _ _ _ _ wr => ∃ j : Nat, i = .int .i64 j ∧ j ≤ ws.length ∧ Hid (wr.ownsRow w.heap.size 3 1 s (shM h (ws.take j)).length ((shM h (ws.take j)).map (Value.int .i64))) ∧ Hid (Below w.heap.size w wr)) (fun i _ _ _ _ _ _ => ws.length - (intOf i).toNat)
  case atStart => exact ⟨0, rfl, Nat.zero_le _, World.ownsRow_nil _ _ _ _, Below.refl _ _⟩
  case round =>
    obtain ⟨j, rfl, hj, HS, HB⟩ := hrel
    have sz := HB.out.size
    obtain ⟨r0, c0, rfl⟩ := own_sl HS.out
    by_cases hlt : j < ws.length
    · have k1 : (j : Int) < (ws.length : Int) := by omega
      obtain ⟨x, hx⟩ : ∃ x, ws[j]? = some x := ⟨_, List.getElem?_eq_getElem hlt⟩
      obtain ⟨b, o, hor, hcs⟩ := HW.out.below HB.out
      have hrs : rs = some ⟨b, o, none⟩ := hor.resolve_left (by omega)
      subst hrs
      obtain ⟨g1, g2, g3⟩ := hcs j x hx
      have HN : Hid (shM h (ws.take (j + 1)) = shStep h (shM h (ws.take j)) x) := shM_step hx
      have hln : (shM h (ws.take j)).length ≤ 1000 := by
        have := sh_len (h := h) (ws.take j) []
        rw [List.length_take] at this
        unfold shM
        simp at this
        omega
      have HC : Hid _ := refCell_any x wr g3
      rw [isRef_is, cellN_is] at HC
      clear hcs hor hx g3
      cases hr : refN x with
      | none =>
        rw [ref_none hr] at HC
        have HSn : Hid (wr.ownsRow w.heap.size 3 1 (.slice r0 (shM h (ws.take j)).length c0) (shM h (ws.take (j + 1))).length ((shM h (ws.take (j + 1))).map (Value.int .i64))) := by
          have hn := HN.out
          unfold shStep at hn
          rw [hr] at hn
          show World.ownsRow ..
          rw [hn]
          exact HS.out
        clear HS HN hr
        go_wp2_with fail
        refine Calls.mono HC.out ?_
        rintro e w1 ⟨rfl, hw1⟩
        rw [hw1]
        clear hw1 HC
        go_wp2
        go_roundw
        case rel => exact ⟨j + 1, by go_num, by omega, HSn, HB⟩
        case measure => simp [intOf]; omega
      | some c =>
        obtain ⟨hrb, hcv⟩ := ref_some hr
        rw [hrb, hcv] at HC
        clear hrb hcv
        cases hy : h[c]? with
        | none =>
          have hcl : h.length ≤ c := by
            rcases Nat.lt_or_ge c h.length with h' | h'
            · rw [List.getElem?_eq_getElem h'] at hy; cases hy
            · exact h'
          have HSn : Hid (wr.ownsRow w.heap.size 3 1 (.slice r0 (shM h (ws.take j)).length c0) (shM h (ws.take (j + 1))).length ((shM h (ws.take (j + 1))).map (Value.int .i64))) := by
            have hn := HN.out
            unfold shStep at hn
            rw [hr] at hn
            dsimp only at hn
            rw [hy] at hn
            show World.ownsRow ..
            rw [hn]
            exact HS.out
          have k2 : (c : Int) ≥ (h.length : Int) := by omega
          clear HS HN hr hy
          go_wp2_with fail
          refine Calls.mono HC.out ?_
          rintro e w1 ⟨rfl, hw1⟩
          rw [hw1]
          clear hw1 HC
          go_wp2
          go_roundw
          case rel => exact ⟨j + 1, by go_num, by omega, HSn, HB⟩
          case measure => simp [intOf]; omega
        | some y =>
          have hcl := (List.getElem?_eq_some_iff.1 hy).1
          have k2 : ¬ (c : Int) ≥ (h.length : Int) := by omega
          have k3 : (c : Int) < (h.length : Int) := by omega
          obtain ⟨bh, oh, hoh, hch⟩ := HH.out.below HB.out
          have hra : ra = some ⟨bh, oh, none⟩ := hoh.resolve_left (by omega)
          subst hra
          obtain ⟨y1, ⟨y2, y3, y4, y5⟩, _⟩ := hch c y hy
          have HN2 : Hid (shM h (ws.take (j + 1)) = if whiteB y && !((shM h (ws.take j)).any (fun z => z == (c : Int))) then shM h (ws.take j) ++ [(c : Int)] else shM h (ws.take j)) := by
            have hn := HN.out
            unfold shStep at hn
            rw [hr] at hn
            dsimp only at hn
            rw [hy] at hn
            exact hn
          clear hch hoh hr hy HN
          go_wp2_with fail
          refine Calls.mono HC.out ?_
          rintro e w1 ⟨rfl, hw1⟩
          rw [hw1]
          clear hw1 HC
          cases hwb : whiteB y
          · have HSn : Hid (wr.ownsRow w.heap.size 3 1 (.slice r0 (shM h (ws.take j)).length c0) (shM h (ws.take (j + 1))).length ((shM h (ws.take (j + 1))).map (Value.int .i64))) := by
              have hn := HN2.out
              rw [hwb] at hn
              show World.ownsRow ..
              rw [hn]
              exact HS.out
            clear HN2 HS
            by_cases hk : y.k = 0
            · have z : (y.k == 0) = true := by simpa using hk
              clear hwb hk
              go_wp2
              go_roundw
              case rel => exact ⟨j + 1, by go_num, by omega, HSn, HB⟩
              case measure => simp [intOf]; omega
            · have z : (y.k == 0) = false := by simpa using hk
              have z2 : (y.c == 0) = false := by
                cases hcc : (y.c == 0)
                · rfl
                · have : y.c = 0 := by simpa using hcc
                  simp [whiteB, usedB, hk, this] at hwb
              have z3 : (y.c != 0) = true := by rw [bne, z2]; rfl
              have z4 : ¬ y.c = 0 := by simpa using z2
              clear hwb hk
              go_wp2
              go_roundw
              case rel => exact ⟨j + 1, by go_num, by omega, HSn, HB⟩
              case measure => simp [intOf]; omega
          · obtain ⟨hk, hcc⟩ : y.k ≠ 0 ∧ y.c = 0 := by simpa [whiteB, usedB] using hwb
            have z : (y.k == 0) = false := by simpa using hk
            have HN3 : Hid (shM h (ws.take (j + 1)) = if !((shM h (ws.take j)).any (fun z => z == (c : Int))) then shM h (ws.take j) ++ [(c : Int)] else shM h (ws.take j)) := by
              have hn := HN2.out
              rw [hwb] at hn
              exact hn
            rw [hcc] at y3
            clear hwb hk HN2 hcc
            have HRX : Hid (RX (Value.int .i64) wr r0 (shM h (ws.take j))) := own_rx HS.out rfl
            obtain ⟨wA, hwA⟩ : ∃ wA, wA = wr := ⟨_, rfl⟩
            rw [← hwA] at HS HB HRX g2 y2 y3 y4 y5 y1 g1 sz ⊢
            clear hwA
            go_wp2
            go_loopw [9, 10] (fun t i wr => ∃ k : Nat, i = .int .i64 k ∧ k ≤ (shM h (ws.take j)).length ∧ t = .bool (((shM h (ws.take j)).take k).any (fun z => z == (c : Int))) ∧ wr = wA) (fun _ i _ => (shM h (ws.take j)).length - (intOf i).toNat)
            case atStart => exact ⟨0, rfl, Nat.zero_le _, rfl, rfl⟩
            case round =>
              obtain ⟨k, rfl, hk, rfl, rfl⟩ := hrel
              by_cases hkl : k < (shM h (ws.take j)).length
              · have k4 : (k : Int) < ((shM h (ws.take j)).length : Int) := by omega
                obtain ⟨v, hv⟩ : ∃ v, (shM h (ws.take j))[k]? = some v := ⟨_, List.getElem?_eq_getElem hkl⟩
                obtain ⟨bo, oo, q1, q2⟩ := HRX.out.at
                have q1' := q1 (by omega)
                subst q1'
                obtain ⟨q3, q4⟩ := q2 k v hv
                have HA : Hid (((shM h (ws.take j)).take (k + 1)).any (fun z => z == (c : Int)) = (((shM h (ws.take j)).take k).any (fun z => z == (c : Int)) || v == (c : Int))) := by
                  show _ = _
                  rw [List.take_add_one, hv, List.any_append]
                  simp
                clear q1 q2 hv
                generalize ((shM h (ws.take j)).take k).any (fun z => z == (c : Int)) = bb at *
                cases bb
                · go_wp2
                  go_roundw
                  case rel => exact ⟨k + 1, by go_num, by omega, by rw [HA.out]; rfl, trivial⟩
                  case measure => simp [intOf]; omega
                · go_wp2
                  go_roundw
                  case rel => exact ⟨k + 1, by go_num, by omega, by rw [HA.out]; rfl, trivial⟩
                  case measure => simp [intOf]; omega
              · obtain rfl : k = (shM h (ws.take j)).length := by omega
                have k4 : ¬ ((shM h (ws.take j)).length : Int) < ((shM h (ws.take j)).length : Int) := by omega
                rw [List.take_length]
                clear hkl hk
                cases hab : (shM h (ws.take j)).any (fun z => z == (c : Int))
                · have HN4 : Hid (shM h (ws.take (j + 1)) = shM h (ws.take j) ++ [(c : Int)]) := by
                    have hn := HN3.out
                    rw [hab] at hn
                    exact hn
                  clear HN3 hab
                  obtain ⟨hi0, hz0, hz1, hz2⟩ := HI0.out
                  go_wp2_with (at_builtin; refine stop_of ?_)
                  unfold Hid
                  refine wpList_append_lies _ rfl _ _ 50 rfl w.heap.size 3 i0 _ 1 8 Tryd.underlying50 hi0 hz0 hz1 hz2 rfl (by decide) (.slice r0 (shM h (ws.take j)).length c0) (shM h (ws.take j)).length ((shM h (ws.take j)).map (Value.int .i64)) rfl (World.ownsRow.alloc HS.out _) ⟨wr.heap.size, 0, none⟩ 1 1 [.int .i64 c] rfl rfl (fun k u hu => ?_) (fun u hu => ?_) (by omega) (by unfold maxLen; omega) (by omega) (by rw [World.size_alloc]; omega) _ rfl ?_
                  · rw [ad_add, Nat.zero_add]
                    exact new_cell _ #[.int .i64 c] _ k u hu
                  · simp at hu; subst hu; rfl
                  intro g5 cp w5 hown hgr hat hl3
                  have hmid : Below w.heap.size w (wr.alloc (.cells #[.int .i64 (c : Int)] 3)) := HB.out.alloc sz _
                  have HBn : Hid (Below w.heap.size w w5) := hmid.grown hgr hmid.size (fun k hk => (World.ownsRow.lt HS.out k hk).1)
                  have HSn : Hid (w5.ownsRow w.heap.size 3 1 (.slice (some ⟨g5, 0, none⟩) ((shM h (ws.take j)).length + 1) cp) (shM h (ws.take (j + 1))).length ((shM h (ws.take (j + 1))).map (Value.int .i64))) := by
                    have hn := HN4.out
                    show World.ownsRow ..
                    rw [hn, List.map_append, List.length_append]
                    exact hown
                  clear hown hgr hat hmid HS HB HN4 hi0 hz0 hz1 hz2
                  go_wp2
                  go_roundw
                  case rel => exact ⟨j + 1, by go_num, by omega, HSn, HBn⟩
                  case measure => simp [intOf]; omega
                · have HSn : Hid (wr.ownsRow w.heap.size 3 1 (.slice r0 (shM h (ws.take j)).length c0) (shM h (ws.take (j + 1))).length ((shM h (ws.take (j + 1))).map (Value.int .i64))) := by
                    have hn := HN3.out
                    rw [hab] at hn
                    show World.ownsRow ..
                    rw [hn]
                    exact HS.out
                  clear HN3 hab HS
                  go_wp2
                  go_roundw
                  case rel => exact ⟨j + 1, by go_num, by omega, HSn, HB⟩
                  case measure => simp [intOf]; omega
    · obtain rfl : j = ws.length := by omega
      have k1 : ¬ (ws.length : Int) < (ws.length : Int) := by omega
      rw [List.take_length] at HS ⊢
      go_wp2
      go_ret
      exact ⟨⟨_, rfl, HS.out⟩, HB.out⟩
end Go.Proofs.YtigcpbndmiefhaaDoor
