/- Finish. -/
import Derived.Test.YtaenoenchbfeiaaHAInv
namespace Go.Proofs.Ytaenoenchbfeiaa
open Go.RowKit

def finM (A : Al) (cy fr : Int) : List Int × Al := if fr = 0 then ((A.row.filter (fun p => decide (p.2 < cy))).map (·.1), ⟨A.who, A.row.filter (fun p => !decide (p.2 < cy))⟩) else ([], A)
theorem filt_step {α : Type} {q : α → Bool} {l : List α} {j : Nat} {x : α} (hx : l[j]? = some x) : (l.take (j + 1)).filter q = (l.take j).filter q ++ if q x = true then [x] else [] := by
  rw [List.take_add_one, hx, List.filter_append]
  cases h : q x <;> simp [h]
/-- What Finish tells. -/
def FinR (a ga gm gf cf n : Nat) (vr : Value) (A : Al) (l : List Int) (A' : Al) (e : Ending) (w w' : World) : Prop := (∃ v', e = .returned v' ∧ w'.ownsRow w.heap.size 3 1 v' l.length (l.map (Value.int .i64))) ∧ (∀ g, g < w.heap.size → g ≠ a → w'.heap[g]? = w.heap[g]?) ∧ Below 0 w w' ∧ ∃ vr', AL w' a ga gm gf cf vr' n A' ∧ ((vr' = vr ∧ A' = A) ∨ ∀ g, vr'.ownBlock = some g → w.heap.size ≤ g)
set_option maxRecDepth 100000 in
set_option maxHeartbeats 8000000 in
theorem finish_any (a ga gm gf cf n : Nat) (vr : Value) (A : Al) (cy fr : Int) (w : World) (hA : AL w a ga gm gf cf vr n A) (hrow : A.row.length ≤ 1000) :
    Calls Try.prog 24 #[.pointer (some ⟨a, 0, none⟩), .int .i64 cy, .int .i64 fr] w fun e w' => FinR a ga gm gf cf n vr A (finM A cy fr).1 (finM A cy fr).2 e w w' := by
  have HA : Hid (AL w a ga gm gf cf vr n A) := hA
  have c2 := heap_cell (j := 2) hA.obj rfl
  have la := heap_lt hA.obj
  obtain ⟨⟨p1, p2, p3, _, _, _⟩, p7⟩ := hA.apart
  by_cases h0 : fr = 0
  · subst h0
    have HE : Hid (finM A cy 0 = ((A.row.filter (fun p => decide (p.2 < cy))).map (·.1), ⟨A.who, A.row.filter (fun p => !decide (p.2 < cy))⟩)) := by show _ = _; unfold finM; rw [if_pos rfl]
    rw [HE.out]
    dsimp only
    obtain ⟨ra, ca, rfl⟩ := own_sl hA.rw
    obtain ⟨i0, hi0, hz0, hz1, hz2⟩ := info_parts infoI
    obtain ⟨j0, hj0, hy0, hy1, hy2⟩ := info_parts infoW
    have HR : Hid (w.ownsRow 0 103 2 (.slice ra A.row.length ca) A.row.length (rowCells A.row)) := hA.rw
    clear hA HE
    go_enter Try.func24, Try.ntmps24
    go_wp2
    go_loopw [18, 7, 8, 10] (fun i v s _ wr => ∃ j : Nat, i = .int .i64 j ∧ j ≤ A.row.length ∧ Hid (wr.ownsRow w.heap.size 3 1 v ((A.row.take j).filter (fun p => decide (p.2 < cy))).length (((A.row.take j).filter (fun p => decide (p.2 < cy))).map (fun p => Value.int .i64 p.1))) ∧ Hid (wr.ownsRow w.heap.size 103 2 s ((A.row.take j).filter (fun p => !decide (p.2 < cy))).length (rowCells ((A.row.take j).filter (fun p => !decide (p.2 < cy))))) ∧ Hid (Below w.heap.size w wr)) (fun i _ _ _ _ => A.row.length - (intOf i).toNat)
    case atStart => exact ⟨0, rfl, Nat.zero_le _, World.ownsRow_nil _ _ _ _, World.ownsRow_nil _ _ _ _, Below.refl _ _⟩
    case round =>
      obtain ⟨j, rfl, hj, HV, HS, HB⟩ := hrel
      have sz := HB.out.size
      by_cases hlt : j < A.row.length
      · have k1 : (j : Int) < (A.row.length : Int) := by omega
        obtain ⟨x, hx⟩ : ∃ x, A.row[j]? = some x := ⟨_, List.getElem?_eq_getElem hlt⟩
        obtain ⟨g, c, hv, hg, d0, d1⟩ := row_at HR.out hx
        cases hv
        have d0' := (HB.out.cell (p := ⟨g, j * 2, none⟩) hg).trans d0
        have d1' := (HB.out.cell (p := ⟨g, j * 2 + 1, none⟩) hg).trans d1
        have lg : g < wr.heap.size := Nat.lt_of_lt_of_le hg sz
        have HXx : Hid (A.row[j]? = some x) := hx
        obtain ⟨W1, hW1⟩ : ∃ W1, W1 = wr.alloc (.cells #[.int .i64 x.1, .int .i64 x.2] 103) := ⟨_, rfl⟩
        have hs1 : W1.heap.size = wr.heap.size + 1 := by rw [hW1]; exact World.size_alloc ..
        clear d0 d1 hx
        obtain ⟨rv, cv, rfl⟩ := own_sl HV.out
        obtain ⟨rs, cs, rfl⟩ := own_sl HS.out
        have lf1 := List.length_filter_le (fun p : Int × Int => decide (p.2 < cy)) (A.row.take j)
        have lf2 := List.length_filter_le (fun p : Int × Int => !decide (p.2 < cy)) (A.row.take j)
        rw [List.length_take] at lf1 lf2
        by_cases hc : x.2 < cy
        · have hf1 : (A.row.take (j + 1)).filter (fun p => decide (p.2 < cy)) = (A.row.take j).filter (fun p => decide (p.2 < cy)) ++ [x] := by rw [filt_step HXx.out, if_pos (decide_eq_true hc)]
          have hf2 : (A.row.take (j + 1)).filter (fun p => !decide (p.2 < cy)) = (A.row.take j).filter (fun p => !decide (p.2 < cy)) := by rw [filt_step HXx.out, if_neg (by simp [hc]), List.append_nil]
          have hv1 : W1.ownsRow w.heap.size 3 1 (.slice rv ((A.row.take j).filter (fun p => decide (p.2 < cy))).length cv) ((A.row.take j).filter (fun p => decide (p.2 < cy))).length (((A.row.take j).filter (fun p => decide (p.2 < cy))).map (fun p => Value.int .i64 p.1)) := by rw [hW1]; exact HV.out.alloc _
          have ho1 : W1.ownsRow w.heap.size 103 2 (.slice rs ((A.row.take j).filter (fun p => !decide (p.2 < cy))).length cs) ((A.row.take j).filter (fun p => !decide (p.2 < cy))).length (rowCells ((A.row.take j).filter (fun p => !decide (p.2 < cy)))) := by rw [hW1]; exact HS.out.alloc _
          have HF1 : Hid _ := hf1
          have HF2 : Hid _ := hf2
          have H1 : Hid _ := hv1
          have HO1 : Hid _ := ho1
          have hB1 : Below w.heap.size w W1 := by rw [hW1]; exact HB.out.alloc sz _
          have HB1 : Hid (Below w.heap.size w W1) := hB1
          have HW : Hid (W1 = wr.alloc (.cells #[.int .i64 x.1, .int .i64 x.2] 103)) := hW1
          clear hf1 hf2 hv1 ho1 hB1 HV HS hW1
          go_wp2_with (at_builtin; refine stop_of ?_)
          unfold Hid
          rw [← HW.out]
          refine wpList_append_lies _ rfl _ _ 65 rfl w.heap.size 3 i0 (.int .i64 0) 1 8 Try.underlying65 hi0 hz0 hz1 hz2 rfl (by decide) (.slice rv ((A.row.take j).filter (fun p => decide (p.2 < cy))).length cv) ((A.row.take j).filter (fun p => decide (p.2 < cy))).length (((A.row.take j).filter (fun p => decide (p.2 < cy))).map (fun p => Value.int .i64 p.1)) rfl (World.ownsRow.alloc H1.out _) ⟨W1.heap.size, 0, none⟩ 1 1 [.int .i64 x.1] (by rw [hs1]; rfl) rfl (fun k u hu => ?_) (fun u hu => ?_) (by omega) (by unfold maxLen; omega) (by omega) (by rw [World.size_alloc]; omega) _ rfl ?_
          · rw [ad_add, Nat.zero_add]
            exact new_cell _ #[.int .i64 x.1] _ k u hu
          · simp at hu; subst hu; rfl
          intro g2 cp w3 hown hgr hat hl3
          have hmid : Below w.heap.size w (W1.alloc (.cells #[.int .i64 x.1] 3)) := HB1.out.alloc (by omega) _
          have hb3 : Below w.heap.size w w3 := hmid.grown hgr hmid.size (fun k hk => (World.ownsRow.lt H1.out k hk).1)
          have HVn : Hid (w3.ownsRow w.heap.size 3 1 (.slice (some ⟨g2, 0, none⟩) (((A.row.take j).filter (fun p => decide (p.2 < cy))).length + 1) cp) ((A.row.take (j + 1)).filter (fun p => decide (p.2 < cy))).length (((A.row.take (j + 1)).filter (fun p => decide (p.2 < cy))).map (fun p => Value.int .i64 p.1))) := by
            have hf1 := HF1.out
            have e1 : (((A.row.take (j + 1)).filter (fun p => decide (p.2 < cy))).map (fun p => Value.int .i64 p.1)) = (((A.row.take j).filter (fun p => decide (p.2 < cy))).map (fun p => Value.int .i64 p.1)) ++ [.int .i64 x.1] := by rw [hf1, List.map_append]; rfl
            show World.ownsRow ..
            rw [e1, hf1, List.length_append]
            exact hown
          have HSn : Hid (w3.ownsRow w.heap.size 103 2 (.slice rs ((A.row.take j).filter (fun p => !decide (p.2 < cy))).length cs) ((A.row.take (j + 1)).filter (fun p => !decide (p.2 < cy))).length (rowCells ((A.row.take (j + 1)).filter (fun p => !decide (p.2 < cy))))) := by
            have hf2 := HF2.out
            show World.ownsRow ..
            rw [hf2]
            refine own_same HO1.out (fun k hk => ?_)
            obtain ⟨ck, hck⟩ := own_blk HO1.out hk
            have hlk := heap_lt hck
            rw [hgr.block k (by rw [World.size_alloc]; omega) (fun e => by
              obtain ⟨cq, hcq⟩ := own_blk H1.out e.symm
              exact ty_ne hcq hck (by decide) rfl), Below.heap_alloc _ _ _ hlk]
          have HBn : Hid (Below w.heap.size w w3) := hb3
          clear hown hgr hat hmid hb3 H1 HO1 HB1 HF1 HF2 HW
          go_wp2
          go_roundw
          case rel => exact ⟨j + 1, by go_num, by omega, HVn, HSn, HBn⟩
          case measure => simp [intOf]; omega
        · have hf1 : (A.row.take (j + 1)).filter (fun p => !decide (p.2 < cy)) = (A.row.take j).filter (fun p => !decide (p.2 < cy)) ++ [x] := by rw [filt_step HXx.out, if_pos (by simp [hc])]
          have hf2 : (A.row.take (j + 1)).filter (fun p => decide (p.2 < cy)) = (A.row.take j).filter (fun p => decide (p.2 < cy)) := by rw [filt_step HXx.out, if_neg (by simp [hc]), List.append_nil]
          have hv1 : W1.ownsRow w.heap.size 103 2 (.slice rs ((A.row.take j).filter (fun p => !decide (p.2 < cy))).length cs) ((A.row.take j).filter (fun p => !decide (p.2 < cy))).length (rowCells ((A.row.take j).filter (fun p => !decide (p.2 < cy)))) := by rw [hW1]; exact HS.out.alloc _
          have ho1 : W1.ownsRow w.heap.size 3 1 (.slice rv ((A.row.take j).filter (fun p => decide (p.2 < cy))).length cv) ((A.row.take j).filter (fun p => decide (p.2 < cy))).length (((A.row.take j).filter (fun p => decide (p.2 < cy))).map (fun p => Value.int .i64 p.1)) := by rw [hW1]; exact HV.out.alloc _
          have HF1 : Hid _ := hf1
          have HF2 : Hid _ := hf2
          have H1 : Hid _ := hv1
          have HO1 : Hid _ := ho1
          have hB1 : Below w.heap.size w W1 := by rw [hW1]; exact HB.out.alloc sz _
          have HB1 : Hid (Below w.heap.size w W1) := hB1
          have HW : Hid (W1 = wr.alloc (.cells #[.int .i64 x.1, .int .i64 x.2] 103)) := hW1
          clear hf1 hf2 hv1 ho1 hB1 HV HS hW1
          go_wp2_with (at_builtin; refine stop_of ?_)
          unfold Hid
          rw [← HW.out]
          refine wpList_append_lies _ rfl _ _ 60 rfl w.heap.size 103 j0 _ 2 16 Try.underlying60 hj0 hy0 hy1 hy2 rfl (by decide) (.slice rs ((A.row.take j).filter (fun p => !decide (p.2 < cy))).length cs) ((A.row.take j).filter (fun p => !decide (p.2 < cy))).length (rowCells ((A.row.take j).filter (fun p => !decide (p.2 < cy)))) rfl (World.ownsRow.alloc H1.out _) ⟨W1.heap.size, 0, none⟩ 1 1 [.int .i64 x.1, .int .i64 x.2] (by rw [hs1]; rfl) rfl (fun k u hu => ?_) (fun u hu => ?_) (by omega) (by unfold maxLen; omega) (by omega) (by rw [World.size_alloc]; omega) _ rfl ?_
          · rw [ad_add, Nat.zero_add]
            exact new_cell _ #[.int .i64 x.1, .int .i64 x.2] _ k u hu
          · simp at hu; rcases hu with rfl | rfl <;> rfl
          intro g2 cp w3 hown hgr hat hl3
          have hmid : Below w.heap.size w (W1.alloc (.cells #[.int .i64 x.1, .int .i64 x.2] 103)) := HB1.out.alloc (by omega) _
          have hb3 : Below w.heap.size w w3 := hmid.grown hgr hmid.size (fun k hk => (World.ownsRow.lt H1.out k hk).1)
          have HVn : Hid (w3.ownsRow w.heap.size 103 2 (.slice (some ⟨g2, 0, none⟩) (((A.row.take j).filter (fun p => !decide (p.2 < cy))).length + 1) cp) ((A.row.take (j + 1)).filter (fun p => !decide (p.2 < cy))).length (rowCells ((A.row.take (j + 1)).filter (fun p => !decide (p.2 < cy))))) := by
            have hf1 := HF1.out
            have e1 : (rowCells ((A.row.take (j + 1)).filter (fun p => !decide (p.2 < cy)))) = (rowCells ((A.row.take j).filter (fun p => !decide (p.2 < cy)))) ++ [.int .i64 x.1, .int .i64 x.2] := by rw [hf1, rowCells_app]; rfl
            show World.ownsRow ..
            rw [e1, hf1, List.length_append]
            exact hown
          have HSn : Hid (w3.ownsRow w.heap.size 3 1 (.slice rv ((A.row.take j).filter (fun p => decide (p.2 < cy))).length cv) ((A.row.take (j + 1)).filter (fun p => decide (p.2 < cy))).length (((A.row.take (j + 1)).filter (fun p => decide (p.2 < cy))).map (fun p => Value.int .i64 p.1))) := by
            have hf2 := HF2.out
            show World.ownsRow ..
            rw [hf2]
            refine own_same HO1.out (fun k hk => ?_)
            obtain ⟨ck, hck⟩ := own_blk HO1.out hk
            have hlk := heap_lt hck
            rw [hgr.block k (by rw [World.size_alloc]; omega) (fun e => by
              obtain ⟨cq, hcq⟩ := own_blk H1.out e.symm
              exact ty_ne hcq hck (by decide) rfl), Below.heap_alloc _ _ _ hlk]
          have HBn : Hid (Below w.heap.size w w3) := hb3
          clear hown hgr hat hmid hb3 H1 HO1 HB1 HF1 HF2 HW
          go_wp2
          go_roundw
          case rel => exact ⟨j + 1, by go_num, by omega, HSn, HVn, HBn⟩
          case measure => simp [intOf]; omega
      · obtain rfl : j = A.row.length := by omega
        have k1 : ¬ (A.row.length : Int) < (A.row.length : Int) := by omega
        have HV2 := HV.out
        have HS2 := HS.out
        rw [List.take_length] at HV2 HS2
        have ho := (HB.out.block a la).trans HA.out.obj
        have c3 := heap_cell (j := 2) ho rfl
        have f3 : wr.frozen? ⟨a, 2, none⟩ = false := by simp [World.frozen?, ho]
        have lar := heap_lt ho
        obtain ⟨rs, cs, rfl⟩ := own_sl HS2
        obtain ⟨rv, cv, rfl⟩ := own_sl HV2
        have HF : Hid (FinR a ga gm gf cf n (.slice ra A.row.length ca) A ((A.row.filter (fun p => decide (p.2 < cy))).map (·.1)) ⟨A.who, A.row.filter (fun p => !decide (p.2 < cy))⟩ (.returned (.slice rv (A.row.filter (fun p => decide (p.2 < cy))).length cv)) w (wr.setCell ⟨a, 2, none⟩ (.slice rs (A.row.filter (fun p => !decide (p.2 < cy))).length cs))) := by
          have ks : ∀ k, k ≠ a → (wr.setCell ⟨a, 2, none⟩ (.slice rs (A.row.filter (fun p => !decide (p.2 < cy))).length cs)).heap[k]? = wr.heap[k]? := fun k hk => Below.heap_setCell _ _ _ _ hk
          have lt := HA.out.lt
          refine ⟨⟨_, rfl, ?_⟩, fun g hg hn => (ks g hn).trans (HB.out.block g hg), (HB.out.mono (Nat.zero_le _)).setCell (p := ⟨a, 2, none⟩) (Nat.zero_le _) _, .slice rs (A.row.filter (fun p => !decide (p.2 < cy))).length cs, ⟨?_, ?_, ?_, HA.out.room, ?_, ?_⟩, .inr (fun g hg => (HS2.lt g hg).1)⟩
          · rw [List.length_map, List.map_map]
            exact own_same HV2 (fun g hg => ks g (by have := (HV2.lt g hg).1; omega))
          · rw [set_atC ho]; rfl
          · exact HA.out.pl.kept ((ks ga (fun e => p1 e.symm)).trans (HB.out.block ga (lt ga (.inl (.inr (.inl rfl))))))
          · exact own_same HA.out.fr (fun g hg => by cases hg; exact (ks gf (fun e => p3 e.symm)).trans (HB.out.block gf (lt gf (.inl (.inr (.inr (.inr rfl)))))))
          · exact own_same (own_mono HS2) (fun g hg => ks g (by have := (HS2.lt g hg).1; omega))
          · exact HA.out.gm.kept ((ks gm (fun e => p2 e.symm)).trans (HB.out.block gm (lt gm (.inl (.inr (.inr (.inl rfl)))))))
        clear HV HS HV2 HS2 HB ho HA HR
        go_wp2
        go_ret
        exact HF.out
  · have HE : Hid (finM A cy fr = ([], A)) := by show _ = _; unfold finM; rw [if_neg h0]
    rw [HE.out]
    dsimp only
    have z : (fr == 0) = false := by simpa using h0
    have HF : Hid (FinR a ga gm gf cf n vr A [] A (.returned (.slice none 0 0)) w w) := ⟨⟨_, rfl, World.ownsRow_nil _ _ _ _⟩, fun _ _ _ => rfl, Below.refl _ _, vr, hA, .inl ⟨rfl, rfl⟩⟩
    clear HE HA hA h0
    go_enter Try.func24, Try.ntmps24
    go_wp2
    all_goals
      go_ret
      exact HF.out
end Go.Proofs.Ytaenoenchbfeiaa
