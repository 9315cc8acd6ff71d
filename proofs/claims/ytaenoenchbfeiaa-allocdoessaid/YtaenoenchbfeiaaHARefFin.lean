/- The document's Finish. -/
import Derived.Test.YtaenoenchbfeiaaHARef
namespace Go.Proofs.Ytaenoenchbfeiaa
open Go.RowKit

set_option maxRecDepth 100000 in
set_option maxHeartbeats 8000000 in
theorem refFinish_any (r gr : Nat) (vw : Value) (A : Al) (cy fr : Int) (w : World) (h : RL w r gr vw A) (hrow : A.row.length ≤ 1000) :
    Calls Try.prog 25 #[.pointer (some ⟨r, 0, none⟩), .int .i64 cy, .int .i64 fr] w fun e w' => (∃ v', e = .returned v' ∧ w'.ownsRow w.heap.size 3 1 v' (finM A cy fr).1.length ((finM A cy fr).1.map (Value.int .i64))) ∧ RR r gr vw (finM A cy fr).2 w w' := by
  have HE : Hid (finM A cy fr = ((A.row.filter (fq cy fr)).map (·.1), ⟨A.who, A.row.filter (fun p => !fq cy fr p)⟩)) := fin_q A cy fr
  rw [HE.out]
  dsimp only
  have HR : Hid (RL w r gr vw A) := h
  obtain ⟨ra, ca, hvw⟩ := h.wt.sl
  subst hvw
  have HW : Hid (WX w ra A.row) := h.wt.wx
  have c1 := h.c1
  have lr := h.lt r (.inl (.inl rfl))
  obtain ⟨i0, hi0, hz0, hz1, hz2⟩ := info_parts infoW
  obtain ⟨j0, hj0, hy0, hy1, hy2⟩ := info_parts infoI
  have HI0 : Hid (Try.prog.info? 103 = some i0 ∧ _ ∧ _ ∧ _) := ⟨hi0, hz0, hz1, hz2⟩
  have HJ0 : Hid (Try.prog.info? 3 = some j0 ∧ _ ∧ _ ∧ _) := ⟨hj0, hy0, hy1, hy2⟩
  clear h hi0 hz0 hz1 hz2 hj0 hy0 hy1 hy2 HE
  go_enter Try.func25, Try.ntmps25
  go_wp2
  go_loopw [7, 8, 9] (fun o s i wr => ∃ j : Nat, i = .int .i64 j ∧ j ≤ A.row.length ∧ Hid (wr.ownsRow w.heap.size 3 1 o ((A.row.take j).filter (fq cy fr)).length (((A.row.take j).filter (fq cy fr)).map (fun p => Value.int .i64 p.1))) ∧ Hid (wr.ownsRow w.heap.size 103 2 s ((A.row.take j).filter (fun p => !fq cy fr p)).length (rowCells ((A.row.take j).filter (fun p => !fq cy fr p)))) ∧ Hid (Below w.heap.size w wr)) (fun _ _ i _ => A.row.length - (intOf i).toNat)
  case atStart => exact ⟨0, rfl, Nat.zero_le _, World.ownsRow_nil _ _ _ _, World.ownsRow_nil _ _ _ _, Below.refl _ _⟩
  case round =>
    obtain ⟨j, rfl, hj, HO, HS, HB⟩ := hrel
    have sz := HB.out.size
    have c1r := (HB.out.cell (p := ⟨r, 1, none⟩) lr).trans c1
    have lrr : r < wr.heap.size := Nat.lt_of_lt_of_le lr sz
    obtain ⟨rs, cs, rfl⟩ := own_sl HS.out
    obtain ⟨ro, co, rfl⟩ := own_sl HO.out
    have lf1 := List.length_filter_le (fq cy fr) (A.row.take j)
    have lf2 := List.length_filter_le (fun p : Int × Int => !fq cy fr p) (A.row.take j)
    rw [List.length_take] at lf1 lf2
    by_cases hlt : j < A.row.length
    · have k1 : (j : Int) < (A.row.length : Int) := by omega
      obtain ⟨x, hx⟩ : ∃ x, A.row[j]? = some x := ⟨_, List.getElem?_eq_getElem hlt⟩
      obtain ⟨b, o, q1, q2⟩ := HW.out.at
      have q1' := q1 (by omega)
      subst q1'
      obtain ⟨q3, q4, q5⟩ := q2 j x hx
      have HXx : Hid (A.row[j]? = some x) := hx
      have d0 := (HB.out.cell (p := ⟨b, o + j * 2, none⟩) q3).trans q4
      have d1 := (HB.out.cell (p := ⟨b, o + j * 2 + 1, none⟩) q3).trans q5
      have lb : b < wr.heap.size := Nat.lt_of_lt_of_le q3 sz
      clear q1 q2 q4 q5 hx
      cases hq : fq cy fr x
      · have HF1 : Hid ((A.row.take (j + 1)).filter (fq cy fr) = (A.row.take j).filter (fq cy fr)) := by show _ = _; rw [filt_step HXx.out, if_neg (by rw [hq]; exact Bool.false_ne_true), List.append_nil]
        have HF2 : Hid ((A.row.take (j + 1)).filter (fun p => !fq cy fr p) = (A.row.take j).filter (fun p => !fq cy fr p) ++ [x]) := by show _ = _; rw [filt_step HXx.out, if_pos (by rw [hq]; rfl)]
        by_cases h0 : fr = 0
        · have hge : cy ≤ x.2 := by
            have := hq
            unfold fq at this
            simpa [h0] using this
          have hge2 : ¬ x.2 < cy := by omega
          have HQ : Hid _ := hq
          subst h0
          clear hq
          obtain ⟨hi0, hz0, hz1, hz2⟩ := HI0.out
          go_wp2_with (at_builtin; refine stop_of ?_)
          unfold Hid
          refine wpList_append_lies _ rfl _ _ 60 rfl w.heap.size 103 i0 _ 2 16 Try.underlying60 hi0 hz0 hz1 hz2 rfl (by decide) (.slice rs ((A.row.take j).filter (fun p => !fq cy 0 p)).length cs) ((A.row.take j).filter (fun p => !fq cy 0 p)).length (rowCells ((A.row.take j).filter (fun p => !fq cy 0 p))) rfl (World.ownsRow.alloc HS.out _) ⟨wr.heap.size, 0, none⟩ 1 1 [.int .i64 x.1, .int .i64 x.2] rfl rfl (fun k u hu => ?_) (fun u hu => ?_) (by omega) (by unfold maxLen; omega) (by omega) (by rw [World.size_alloc]; omega) _ rfl ?_
          · rw [ad_add, Nat.zero_add]
            exact new_cell _ #[.int .i64 x.1, .int .i64 x.2] _ k u hu
          · simp at hu; rcases hu with rfl | rfl <;> rfl
          intro g2 cp w3 hown hgr hat hl3
          have hmid : Below w.heap.size w (wr.alloc (.cells #[.int .i64 x.1, .int .i64 x.2] 103)) := HB.out.alloc sz _
          have HBn : Hid (Below w.heap.size w w3) := hmid.grown hgr hmid.size (fun k hk => (World.ownsRow.lt HS.out k hk).1)
          have HSn : Hid (w3.ownsRow w.heap.size 103 2 (.slice (some ⟨g2, 0, none⟩) (((A.row.take j).filter (fun p => !fq cy 0 p)).length + 1) cp) ((A.row.take (j + 1)).filter (fun p => !fq cy 0 p)).length (rowCells ((A.row.take (j + 1)).filter (fun p => !fq cy 0 p)))) := by
            have hf2 := HF2.out
            show World.ownsRow ..
            rw [hf2, rowCells_app, List.length_append]
            exact hown
          have HOn : Hid (w3.ownsRow w.heap.size 3 1 (.slice ro ((A.row.take j).filter (fq cy 0)).length co) ((A.row.take (j + 1)).filter (fq cy 0)).length (((A.row.take (j + 1)).filter (fq cy 0)).map (fun p => Value.int .i64 p.1))) := by
            have hf1 := HF1.out
            show World.ownsRow ..
            rw [hf1]
            refine own_same HO.out (fun k hk => ?_)
            obtain ⟨ck, hck⟩ := own_blk HO.out hk
            have hlk := heap_lt hck
            rw [hgr.block k (by rw [World.size_alloc]; omega) (fun e => by
              obtain ⟨cq, hcq⟩ := own_blk HS.out e.symm
              exact ty_ne hcq hck (by decide) rfl), Below.heap_alloc _ _ _ hlk]
          clear hown hgr hat hmid HS HO HB HF1 HF2 hi0 hz0 hz1 hz2
          go_wp2
          go_roundw
          case rel => exact ⟨j + 1, by go_num, by omega, HOn, HSn, HBn⟩
          case measure => simp [intOf]; omega
        · have z : (fr == 0) = false := by simpa using h0
          have HQ : Hid _ := hq
          clear hq
          obtain ⟨hi0, hz0, hz1, hz2⟩ := HI0.out
          go_wp2_with (at_builtin; refine stop_of ?_)
          unfold Hid
          refine wpList_append_lies _ rfl _ _ 60 rfl w.heap.size 103 i0 _ 2 16 Try.underlying60 hi0 hz0 hz1 hz2 rfl (by decide) (.slice rs ((A.row.take j).filter (fun p => !fq cy fr p)).length cs) ((A.row.take j).filter (fun p => !fq cy fr p)).length (rowCells ((A.row.take j).filter (fun p => !fq cy fr p))) rfl (World.ownsRow.alloc HS.out _) ⟨wr.heap.size, 0, none⟩ 1 1 [.int .i64 x.1, .int .i64 x.2] rfl rfl (fun k u hu => ?_) (fun u hu => ?_) (by omega) (by unfold maxLen; omega) (by omega) (by rw [World.size_alloc]; omega) _ rfl ?_
          · rw [ad_add, Nat.zero_add]
            exact new_cell _ #[.int .i64 x.1, .int .i64 x.2] _ k u hu
          · simp at hu; rcases hu with rfl | rfl <;> rfl
          intro g2 cp w3 hown hgr hat hl3
          have hmid : Below w.heap.size w (wr.alloc (.cells #[.int .i64 x.1, .int .i64 x.2] 103)) := HB.out.alloc sz _
          have HBn : Hid (Below w.heap.size w w3) := hmid.grown hgr hmid.size (fun k hk => (World.ownsRow.lt HS.out k hk).1)
          have HSn : Hid (w3.ownsRow w.heap.size 103 2 (.slice (some ⟨g2, 0, none⟩) (((A.row.take j).filter (fun p => !fq cy fr p)).length + 1) cp) ((A.row.take (j + 1)).filter (fun p => !fq cy fr p)).length (rowCells ((A.row.take (j + 1)).filter (fun p => !fq cy fr p)))) := by
            have hf2 := HF2.out
            show World.ownsRow ..
            rw [hf2, rowCells_app, List.length_append]
            exact hown
          have HOn : Hid (w3.ownsRow w.heap.size 3 1 (.slice ro ((A.row.take j).filter (fq cy fr)).length co) ((A.row.take (j + 1)).filter (fq cy fr)).length (((A.row.take (j + 1)).filter (fq cy fr)).map (fun p => Value.int .i64 p.1))) := by
            have hf1 := HF1.out
            show World.ownsRow ..
            rw [hf1]
            refine own_same HO.out (fun k hk => ?_)
            obtain ⟨ck, hck⟩ := own_blk HO.out hk
            have hlk := heap_lt hck
            rw [hgr.block k (by rw [World.size_alloc]; omega) (fun e => by
              obtain ⟨cq, hcq⟩ := own_blk HS.out e.symm
              exact ty_ne hcq hck (by decide) rfl), Below.heap_alloc _ _ _ hlk]
          clear hown hgr hat hmid HS HO HB HF1 HF2 hi0 hz0 hz1 hz2
          go_wp2
          go_roundw
          case rel => exact ⟨j + 1, by go_num, by omega, HOn, HSn, HBn⟩
          case measure => simp [intOf]; omega
      · obtain ⟨h0, h1⟩ : fr = 0 ∧ x.2 < cy := by simpa [fq] using hq
        have HF1 : Hid ((A.row.take (j + 1)).filter (fq cy fr) = (A.row.take j).filter (fq cy fr) ++ [x]) := by show _ = _; rw [filt_step HXx.out, if_pos hq]
        have HF2 : Hid ((A.row.take (j + 1)).filter (fun p => !fq cy fr p) = (A.row.take j).filter (fun p => !fq cy fr p)) := by show _ = _; rw [filt_step HXx.out, if_neg (by rw [hq]; exact Bool.false_ne_true), List.append_nil]
        have HQ : Hid _ := hq
        subst h0
        clear hq
        obtain ⟨hj0, hy0, hy1, hy2⟩ := HJ0.out
        go_wp2_with (at_builtin; refine stop_of ?_)
        unfold Hid
        refine wpList_append_lies _ rfl _ _ 65 rfl w.heap.size 3 j0 _ 1 8 Try.underlying65 hj0 hy0 hy1 hy2 rfl (by decide) (.slice ro ((A.row.take j).filter (fq cy 0)).length co) ((A.row.take j).filter (fq cy 0)).length (((A.row.take j).filter (fq cy 0)).map (fun p => Value.int .i64 p.1)) rfl (World.ownsRow.alloc HO.out _) ⟨wr.heap.size, 0, none⟩ 1 1 [.int .i64 x.1] rfl rfl (fun k u hu => ?_) (fun u hu => ?_) (by omega) (by unfold maxLen; omega) (by omega) (by rw [World.size_alloc]; omega) _ rfl ?_
        · rw [ad_add, Nat.zero_add]
          exact new_cell _ #[.int .i64 x.1] _ k u hu
        · simp at hu; subst hu; rfl
        intro g2 cp w3 hown hgr hat hl3
        have hmid : Below w.heap.size w (wr.alloc (.cells #[.int .i64 x.1] 3)) := HB.out.alloc sz _
        have HBn : Hid (Below w.heap.size w w3) := hmid.grown hgr hmid.size (fun k hk => (World.ownsRow.lt HO.out k hk).1)
        have HOn : Hid (w3.ownsRow w.heap.size 3 1 (.slice (some ⟨g2, 0, none⟩) (((A.row.take j).filter (fq cy 0)).length + 1) cp) ((A.row.take (j + 1)).filter (fq cy 0)).length (((A.row.take (j + 1)).filter (fq cy 0)).map (fun p => Value.int .i64 p.1))) := by
          have hf1 := HF1.out
          show World.ownsRow ..
          rw [hf1, List.map_append, List.length_append]
          exact hown
        have HSn : Hid (w3.ownsRow w.heap.size 103 2 (.slice rs ((A.row.take j).filter (fun p => !fq cy 0 p)).length cs) ((A.row.take (j + 1)).filter (fun p => !fq cy 0 p)).length (rowCells ((A.row.take (j + 1)).filter (fun p => !fq cy 0 p)))) := by
          have hf2 := HF2.out
          show World.ownsRow ..
          rw [hf2]
          refine own_same HS.out (fun k hk => ?_)
          obtain ⟨ck, hck⟩ := own_blk HS.out hk
          have hlk := heap_lt hck
          rw [hgr.block k (by rw [World.size_alloc]; omega) (fun e => by
            obtain ⟨cq, hcq⟩ := own_blk HO.out e.symm
            exact ty_ne hcq hck (by decide) rfl), Below.heap_alloc _ _ _ hlk]
        clear hown hgr hat hmid HS HO HB HF1 HF2 hj0 hy0 hy1 hy2
        go_wp2
        go_roundw
        case rel => exact ⟨j + 1, by go_num, by omega, HOn, HSn, HBn⟩
        case measure => simp [intOf]; omega
    · obtain rfl : j = A.row.length := by omega
      have k1 : ¬ (A.row.length : Int) < (A.row.length : Int) := by omega
      have HS2 := HS.out
      have HO2 := HO.out
      rw [List.take_length] at HS2 HO2 ⊢
      have hob := (HB.out.block r lr).trans HR.out.obj
      have fz : wr.frozen? ⟨r, 1, none⟩ = false := by simp [World.frozen?, hob]
      have HF : Hid (wr.ownsRow w.heap.size 3 1 (.slice ro (A.row.filter (fq cy fr)).length co) (A.row.filter (fq cy fr)).length ((A.row.filter (fq cy fr)).map (fun p => Value.int .i64 p.1)) ∧ RR r gr (.slice ra A.row.length ca) ⟨A.who, A.row.filter (fun p => !fq cy fr p)⟩ w (wr.setCell ⟨r, 1, none⟩ (.slice rs (A.row.filter (fun p => !fq cy fr p)).length cs))) := ⟨HO2, RL.wait HR.out (fun g hg _ => HB.out.block g hg) (HB.out.mono (Nat.zero_le _)) (RWt.of HS2) (fun g hg => .inr (HS2.lt g hg).1)⟩
      have HLr : Hid (r < w.heap.size) := lr
      clear HS HO HS2 HO2 hob
      go_wp2
      go_ret
      refine ⟨⟨_, rfl, ?_⟩, HF.out.2⟩
      exact own_same HF.out.1 (fun g hg => Below.heap_setCell _ _ _ _ (fun e => by have e' : g = r := e; have := (HF.out.1.lt g hg).1; have := HLr.out; omega))
end Go.Proofs.Ytaenoenchbfeiaa
