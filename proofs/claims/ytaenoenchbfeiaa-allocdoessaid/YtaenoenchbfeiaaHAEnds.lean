/- What is kept follows a cycle's end. -/
import Derived.Test.YtaenoenchbfeiaaHABacks
import Derived.BigQuiet
namespace Go.Proofs.Ytaenoenchbfeiaa
open Go.RowKit

/-- Who is refused. -/
def fq (cy fr : Int) (p : Int × Int) : Bool := decide (fr = 0) && decide (p.2 < cy)
theorem fin_q (A : Al) (cy fr : Int) : finM A cy fr = ((A.row.filter (fq cy fr)).map (·.1), ⟨A.who, A.row.filter (fun p => !fq cy fr p)⟩) := by
  unfold finM
  split
  · rename_i h
    subst h
    have : fq cy 0 = fun p => decide (p.2 < cy) := by funext p; simp [fq]
    rw [this]
  · rename_i h
    have : fq cy fr = fun _ => false := by funext p; simp [fq, h]
    rw [this]
    have h2 : A.row.filter (fun _ => !false) = A.row := List.filter_eq_self.2 (fun _ _ => rfl)
    have h3 : A.row.filter (fun _ => false) = [] := List.filter_eq_nil_iff.2 (fun _ _ => Bool.false_ne_true)
    rw [h2, h3]
    rfl
theorem FinR.ar {a ga gm gf cf n : Nat} {vr : Value} {A A' : Al} {l : List Int} {e : Ending} {w w' : World} (h : FinR a ga gm gf cf n vr A l A' e w w') : AR a ga gm gf cf vr n A' w w' := by
  obtain ⟨_, h2, h3, vr', h4, h5⟩ := h
  refine ⟨vr', h4, fun g hg hn => h2 g hg (fun e => hn (.inl (.inl e))), h3, fun g hg => ?_⟩
  rcases h5 with ⟨rfl, _⟩ | h5
  · exact .inl hg
  · exact .inr (h5 g hg)
theorem filt_at {α : Type} {q : α → Bool} {l : List α} {j : Nat} {x : α} (hx : l[j]? = some x) (hq : q x = true) : (l.filter q)[((l.take j).filter q).length]? = some x := by
  have e : l.filter q = ((l.take j).filter q ++ [x]) ++ (l.drop (j + 1)).filter q := by
    conv => lhs; rw [← List.take_append_drop (j + 1) l, List.filter_append, filt_step hx, if_pos hq]
  rw [e, List.append_assoc, List.getElem?_append_right (Nat.le_refl _), Nat.sub_self]
  rfl
set_option maxRecDepth 100000 in
set_option maxHeartbeats 8000000 in
theorem ends_any {B : Nat → Prop} {a ga gm gf cf n kb gw : Nat} {A : Al} {w0 w : World} (hs : ∀ g, B g → g < w0.heap.size) (h : KT B a ga gm gf cf n kb gw A A w0 w) (hI : Inv A) (cy fr : Int) :
    Calls Try.prog 15 #[.pointer (some ⟨kb, 0, none⟩), .pointer (some ⟨a, 0, none⟩), .int .i64 cy, .int .i64 fr] w fun e w' => e = .returned (.bool true) ∧ KT B a ga gm gf cf n kb gw (finM A cy fr).2 (finM A cy fr).2 w0 w' := by
  obtain ⟨vr, vw, hA, hK, hb, hf, hk, hd⟩ := h
  have hrl := row_le hI
  have HE : Hid (finM A cy fr = ((A.row.filter (fq cy fr)).map (·.1), ⟨A.who, A.row.filter (fun p => !fq cy fr p)⟩)) := fin_q A cy fr
  have HC := (finish_any a ga gm gf cf n vr A cy fr w hA (by omega)).mono (fun e w' h => (⟨h.1, kt_alloc hs hA hK hb hf hk hd (FinR.ar h)⟩ : (∃ v', e = .returned v' ∧ w'.ownsRow w.heap.size 3 1 v' (finM A cy fr).1.length ((finM A cy fr).1.map (Value.int .i64))) ∧ KT B a ga gm gf cf n kb gw (finM A cy fr).2 A w0 w'))
  rw [HE.out] at HC ⊢
  dsimp only at HC ⊢
  have HCh : Hid _ := HC
  obtain ⟨i0, hi0, hz0, hz1, hz2⟩ := info_parts infoW
  have HI0 : Hid (Try.prog.info? 103 = some i0 ∧ _ ∧ _ ∧ _) := ⟨hi0, hz0, hz1, hz2⟩
  clear hA hK hb hf hk hd HC HE hi0 hz0 hz1 hz2
  go_enter Try.func15, Try.ntmps15
  go_wp2_with fail
  refine Calls.mono HCh.out ?_
  rintro e w1 ⟨⟨v1, rfl, ho1⟩, vr1, vw1, hA1, hK1, hb1, hf1, hk1, hd1⟩
  obtain ⟨ra, ca, hvw⟩ := hK1.wt.sl
  subst hvw
  obtain ⟨rl, cl, hrlv⟩ := own_sl ho1
  subst hrlv
  have HW : Hid (WX w1 ra A.row) := hK1.wt.wx
  have HL : Hid (RX (Value.int .i64) w1 rl ((A.row.filter (fq cy fr)).map (·.1))) := own_rx ho1 rfl
  have c10 := hK1.cw
  have lk := hK1.kp.lt
  have HK : Hid (AL w1 a ga gm gf cf vr1 n ⟨A.who, A.row.filter (fun p => !fq cy fr p)⟩ ∧ KL w1 kb gw (.slice ra A.row.length ca) A ∧ Fr B w0 w1 ∧ (∀ g, Ft a ga gm gf vr1 g → ¬ B g) ∧ (∀ g, Kb kb gw (.slice ra A.row.length ca) g → ¬ B g) ∧ (∀ g, (Value.slice ra A.row.length ca).ownBlock = some g → vr1.ownBlock ≠ some g)) := ⟨hA1, hK1, hb1, hf1, hk1, hd1⟩
  rw [List.length_map]
  have hll : (A.row.filter (fq cy fr)).length ≤ A.row.length := List.length_filter_le _ _
  clear hA1 hK1 hb1 hf1 hk1 hd1 HCh ho1
  go_wp2
  go_loopw [10, 11, 12] (fun s m i wr => ∃ j : Nat, i = .int .i64 j ∧ j ≤ A.row.length ∧ m = .int .i64 (((A.row.take j).filter (fq cy fr)).length : Nat) ∧ Hid (wr.ownsRow w1.heap.size 103 2 s ((A.row.take j).filter (fun p => !fq cy fr p)).length (rowCells ((A.row.take j).filter (fun p => !fq cy fr p)))) ∧ Hid (Below w1.heap.size w1 wr)) (fun _ _ i _ => A.row.length - (intOf i).toNat)
  case atStart => exact ⟨0, rfl, Nat.zero_le _, rfl, World.ownsRow_nil _ _ _ _, Below.refl _ _⟩
  case round =>
    obtain ⟨j, rfl, hj, rfl, HS, HB⟩ := hrel
    have sz := HB.out.size
    have c10r := (HB.out.cell (p := ⟨kb, 10, none⟩) lk).trans c10
    have lkr : kb < wr.heap.size := Nat.lt_of_lt_of_le lk sz
    obtain ⟨rs, cs, rfl⟩ := own_sl HS.out
    have lf1 := List.length_filter_le (fq cy fr) (A.row.take j)
    have lf2 := List.length_filter_le (fun p : Int × Int => !fq cy fr p) (A.row.take j)
    rw [List.length_take] at lf1 lf2
    by_cases hlt : j < A.row.length
    · have k1 : (j : Int) < (A.row.length : Int) := by omega
      obtain ⟨x, hx⟩ : ∃ x, A.row[j]? = some x := ⟨_, List.getElem?_eq_getElem hlt⟩
      obtain ⟨b, o, q1, q2⟩ := HW.out.at
      obtain rfl := q1 (by omega)
      obtain ⟨q3, q4, q5⟩ := q2 j x hx
      have HXx : Hid (A.row[j]? = some x) := hx
      have d0 := (HB.out.cell (p := ⟨b, o + j * 2, none⟩) q3).trans q4
      have d1 := (HB.out.cell (p := ⟨b, o + j * 2 + 1, none⟩) q3).trans q5
      have lb : b < wr.heap.size := Nat.lt_of_lt_of_le q3 sz
      clear q1 q2 q4 q5 hx
      cases hq : fq cy fr x
      · have HF1 : Hid ((A.row.take (j + 1)).filter (fq cy fr) = (A.row.take j).filter (fq cy fr)) := by show _ = _; rw [filt_step HXx.out, if_neg (by rw [hq]; exact Bool.false_ne_true), List.append_nil]
        have HF2 : Hid ((A.row.take (j + 1)).filter (fun p => !fq cy fr p) = (A.row.take j).filter (fun p => !fq cy fr p) ++ [x]) := by show _ = _; rw [filt_step HXx.out, if_pos (by rw [hq]; rfl)]
        by_cases h0 : fr = 0
        · have hge : cy ≤ x.2 := by
            have := hq
            unfold fq at this
            simpa [h0] using this
          have HQ : Hid _ := hq
          subst h0
          clear hq
          obtain ⟨hi0, hz0, hz1, hz2⟩ := HI0.out
          go_wp2_with (at_builtin; refine stop_of ?_)
          unfold Hid
          refine wpList_append_lies _ rfl _ _ 60 rfl w1.heap.size 103 i0 _ 2 16 Try.underlying60 hi0 hz0 hz1 hz2 rfl (by decide) (.slice rs ((A.row.take j).filter (fun p => !fq cy 0 p)).length cs) ((A.row.take j).filter (fun p => !fq cy 0 p)).length (rowCells ((A.row.take j).filter (fun p => !fq cy 0 p))) rfl (World.ownsRow.alloc HS.out _) ⟨wr.heap.size, 0, none⟩ 1 1 [.int .i64 x.1, .int .i64 x.2] rfl rfl (fun k u hu => ?_) (fun u hu => ?_) (by omega) (by unfold maxLen; omega) (by omega) (by rw [World.size_alloc]; omega) _ rfl ?_
          · rw [ad_add, Nat.zero_add]
            exact new_cell _ #[.int .i64 x.1, .int .i64 x.2] _ k u hu
          · simp at hu; rcases hu with rfl | rfl <;> rfl
          intro g2 cp w3 hown hgr hat hl3
          have hmid : Below w1.heap.size w1 (wr.alloc (.cells #[.int .i64 x.1, .int .i64 x.2] 103)) := HB.out.alloc sz _
          have HBn : Hid (Below w1.heap.size w1 w3) := hmid.grown hgr hmid.size (fun k hk => (World.ownsRow.lt HS.out k hk).1)
          have HSn : Hid (w3.ownsRow w1.heap.size 103 2 (.slice (some ⟨g2, 0, none⟩) (((A.row.take j).filter (fun p => !fq cy 0 p)).length + 1) cp) ((A.row.take (j + 1)).filter (fun p => !fq cy 0 p)).length (rowCells ((A.row.take (j + 1)).filter (fun p => !fq cy 0 p)))) := by
            have hf2 := HF2.out
            show World.ownsRow ..
            rw [hf2, rowCells_app, List.length_append]
            exact hown
          have HLn : Hid (((A.row.take (j + 1)).filter (fq cy 0)).length = ((A.row.take j).filter (fq cy 0)).length) := by show _ = _; rw [HF1.out]
          clear hown hgr hat hmid HS HB HF1 HF2 hi0 hz0 hz1 hz2
          go_wp2
          go_roundw
          case rel => exact ⟨j + 1, by go_num, by omega, by rw [HLn.out], HSn, HBn⟩
          case measure => simp [intOf]; omega
        · have z : (fr == 0) = false := by simpa using h0
          have HQ : Hid _ := hq
          clear hq
          obtain ⟨hi0, hz0, hz1, hz2⟩ := HI0.out
          go_wp2_with (at_builtin; refine stop_of ?_)
          unfold Hid
          refine wpList_append_lies _ rfl _ _ 60 rfl w1.heap.size 103 i0 _ 2 16 Try.underlying60 hi0 hz0 hz1 hz2 rfl (by decide) (.slice rs ((A.row.take j).filter (fun p => !fq cy fr p)).length cs) ((A.row.take j).filter (fun p => !fq cy fr p)).length (rowCells ((A.row.take j).filter (fun p => !fq cy fr p))) rfl (World.ownsRow.alloc HS.out _) ⟨wr.heap.size, 0, none⟩ 1 1 [.int .i64 x.1, .int .i64 x.2] rfl rfl (fun k u hu => ?_) (fun u hu => ?_) (by omega) (by unfold maxLen; omega) (by omega) (by rw [World.size_alloc]; omega) _ rfl ?_
          · rw [ad_add, Nat.zero_add]
            exact new_cell _ #[.int .i64 x.1, .int .i64 x.2] _ k u hu
          · simp at hu; rcases hu with rfl | rfl <;> rfl
          intro g2 cp w3 hown hgr hat hl3
          have hmid : Below w1.heap.size w1 (wr.alloc (.cells #[.int .i64 x.1, .int .i64 x.2] 103)) := HB.out.alloc sz _
          have HBn : Hid (Below w1.heap.size w1 w3) := hmid.grown hgr hmid.size (fun k hk => (World.ownsRow.lt HS.out k hk).1)
          have HSn : Hid (w3.ownsRow w1.heap.size 103 2 (.slice (some ⟨g2, 0, none⟩) (((A.row.take j).filter (fun p => !fq cy fr p)).length + 1) cp) ((A.row.take (j + 1)).filter (fun p => !fq cy fr p)).length (rowCells ((A.row.take (j + 1)).filter (fun p => !fq cy fr p)))) := by
            have hf2 := HF2.out
            show World.ownsRow ..
            rw [hf2, rowCells_app, List.length_append]
            exact hown
          have HLn : Hid (((A.row.take (j + 1)).filter (fq cy fr)).length = ((A.row.take j).filter (fq cy fr)).length) := by show _ = _; rw [HF1.out]
          clear hown hgr hat hmid HS HB HF1 HF2 hi0 hz0 hz1 hz2
          go_wp2
          go_roundw
          case rel => exact ⟨j + 1, by go_num, by omega, by rw [HLn.out], HSn, HBn⟩
          case measure => simp [intOf]; omega
      · obtain ⟨h0, h1⟩ : fr = 0 ∧ x.2 < cy := by simpa [fq] using hq
        have HF1 : Hid ((A.row.take (j + 1)).filter (fq cy fr) = (A.row.take j).filter (fq cy fr) ++ [x]) := by show _ = _; rw [filt_step HXx.out, if_pos hq]
        have HF2 : Hid ((A.row.take (j + 1)).filter (fun p => !fq cy fr p) = (A.row.take j).filter (fun p => !fq cy fr p)) := by show _ = _; rw [filt_step HXx.out, if_neg (by rw [hq]; exact Bool.false_ne_true), List.append_nil]
        have hat : ((A.row.filter (fq cy fr)).map (·.1))[((A.row.take j).filter (fq cy fr)).length]? = some x.1 := by rw [List.getElem?_map, filt_at HXx.out hq]; rfl
        have hlm := (List.getElem?_eq_some_iff.1 hat).1
        rw [List.length_map] at hlm
        obtain ⟨bl, ol, q6, q7⟩ := HL.out.at
        obtain rfl := q6 (by rw [List.length_map]; omega)
        obtain ⟨q8, q9⟩ := q7 _ _ hat
        have d2 := (HB.out.cell (p := ⟨bl, ol + ((A.row.take j).filter (fq cy fr)).length, none⟩) q8).trans q9
        have lbl : bl < wr.heap.size := Nat.lt_of_lt_of_le q8 sz
        have HSn : Hid (wr.ownsRow w1.heap.size 103 2 (.slice rs ((A.row.take j).filter (fun p => !fq cy fr p)).length cs) ((A.row.take (j + 1)).filter (fun p => !fq cy fr p)).length (rowCells ((A.row.take (j + 1)).filter (fun p => !fq cy fr p)))) := by
          show World.ownsRow ..
          rw [HF2.out]
          exact HS.out
        have HLn : Hid (((A.row.take (j + 1)).filter (fq cy fr)).length = ((A.row.take j).filter (fq cy fr)).length + 1) := by show _ = _; rw [HF1.out, List.length_append]; rfl
        subst h0
        clear q6 q7 q9 hat HS HF1 HF2 hq
        obtain ⟨m, hm⟩ : ∃ m, ((A.row.take j).filter (fq cy 0)).length = m := ⟨_, rfl⟩
        obtain ⟨ll, hll2⟩ : ∃ ll, (A.row.filter (fq cy 0)).length = ll := ⟨_, rfl⟩
        rw [hm] at d2 hlm HLn lf1 ⊢
        rw [hll2] at hlm hll ⊢
        have k3 : (m : Int) < (ll : Int) := by omega
        have k4 : ¬ (m : Int) ≥ (ll : Int) := by omega
        have k5 : decide ((m : Int) ≥ (ll : Int)) = false := decide_eq_false k4
        have z2 : (x.1 == x.1) = true := by simp
        go_wp2_with fail
        go_quiet (fail)
        go_wp2
        go_roundw
        case rel => exact ⟨j + 1, by go_num, by omega, by rw [HLn.out]; go_num, own_same HSn.out (fun g _ => by rw [drewN_heap]), below_drewM HB.out _⟩
        case measure => simp [intOf]; omega
    · obtain rfl : j = A.row.length := by omega
      have k1 : ¬ (A.row.length : Int) < (A.row.length : Int) := by omega
      have HS2 := HS.out
      rw [List.take_length] at HS2 ⊢
      have HF : Hid (KT B a ga gm gf cf n kb gw ⟨A.who, A.row.filter (fun p => !fq cy fr p)⟩ ⟨A.who, A.row.filter (fun p => !fq cy fr p)⟩ w0 (wr.setCell ⟨kb, 10, none⟩ (.slice rs (A.row.filter (fun p => !fq cy fr p)).length cs))) := by
        obtain ⟨hA1, hK1, hb1, hf1, hk1, hd1⟩ := HK.out
        have ks : ∀ k, k ≠ kb → (wr.setCell ⟨kb, 10, none⟩ (.slice rs (A.row.filter (fun p => !fq cy fr p)).length cs)).heap[k]? = wr.heap[k]? := fun k hk => Below.heap_setCell _ _ _ _ hk
        have hne : gw ≠ kb := by
          obtain ⟨c1, k1, _⟩ := hK1.kp
          obtain ⟨c2, k2, _⟩ := hK1.kw
          exact ty_ne k2 k1 (by decide)
        refine kt_keep (vw' := .slice rs (A.row.filter (fun p => !fq cy fr p)).length cs) hs hA1 hK1 hb1 hf1 hk1 hd1 ⟨?_, ?_, ?_⟩ (fun g hg hn => (ks g (fun e => hn (.inl (.inl e)))).trans (HB.out.block g hg)) ((HB.out.mono (Nat.zero_le _)).setCell (p := ⟨kb, 10, none⟩) (Nat.zero_le _) _) (fun g hg => .inr (HS2.lt g hg).1)
        · exact kp_wait (hK1.kp.kept (HB.out.block kb lk))
        · exact hK1.kw.kept ((ks gw hne).trans (HB.out.block gw hK1.kw.lt))
        · exact RWt.of (own_same HS2 (fun g hg => ks g (by have := (HS2.lt g hg).1; omega)))
      have fr10 : wr.frozen? ⟨kb, 10, none⟩ = false := (HK.out.2.1.kp.kept (HB.out.block kb lk)).fz 10
      clear HS HS2 HB HK HW HL
      go_wp2
      go_ret
      exact ⟨rfl, HF.out⟩
end Go.Proofs.Ytaenoenchbfeiaa
