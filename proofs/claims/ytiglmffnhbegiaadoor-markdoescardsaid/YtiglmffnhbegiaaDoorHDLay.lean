/- One step with both markers: Lay. -/
import Derived.Test.YtiglmffnhbegiaaDoorHDShade
namespace Go.Proofs.YtiglmffnhbegiaaDoor
open Go.RowKit

section
variable {w0 w w' : World} {mb hb ab db rb g b Ni : Nat} {rv rd vi : Value} {row : List Int} {h : List Cl} {Vi : Nat → Value}
set_option maxRecDepth 100000 in
set_option maxHeartbeats 16000000 in
theorem step_lay (H : GT w0 w mb hb ab db rb g b rv rd row row h h vi Ni Vi) (ws : Value) (i c d x : Int) (l : List Int) (ra : Option Addr) (ca : Nat) (hW : RX (Value.int .i64) w0 ra l) (hl : l.length ≤ 20000) (hN : Ni ≤ 800000) (hrl : row.length ≤ 300000) (_ : Tab w0) :
    Calls Tryd.prog 9 #[.pointer (some ⟨mb, 0, none⟩), .pointer (some ⟨hb, 0, none⟩), .pointer (some ⟨db, 0, none⟩), .agg (opC 2 ws (.slice ra l.length ca) i c d x), .pointer (some ⟨b, 0, none⟩)] w fun e w' => StR w0 mb hb ab db rb g b row Ni l.length e w' := by
  obtain ⟨b0, o0, h0or, h0cs⟩ := hW
  have hW : RX (Value.int .i64) w0 ra l := ⟨b0, o0, h0or, h0cs⟩
  have HW : Hid (RX (Value.int .i64) w0 ra l) := hW
  obtain ⟨w1, hw1⟩ : ∃ w1, w1 = w.alloc (.cells (opC 2 ws (.slice ra l.length ca) i c d x) 31) := ⟨_, rfl⟩
  have hB1 : Below w.heap.size w w1 := hw1 ▸ (Below.refl _ w).alloc (Nat.le_refl _) _
  have ho1 : w1.heap[w.heap.size]? = some (.cells (opC 2 ws (.slice ra l.length ca) i c d x) 31 (0, 0)) := hw1 ▸ heap_alloc_new w _
  have BB := H.below hB1
  have HH1 : Hid (GT w0 w1 mb hb ab db rb g b rv rd row row h h vi Ni Vi) := BB
  have q0 : w1.cell? ⟨w.heap.size, 0, none⟩ = some (.int .i64 2) := heap_cell ho1 rfl
  have q1 : w1.cell? ⟨w.heap.size, 2, none⟩ = some (.slice ra l.length ca) := heap_cell ho1 rfl
  have HW1 : Hid (w1 = w.alloc (.cells (opC 2 ws (.slice ra l.length ca) i c d x) 31)) := hw1
  have HO1 : Hid (w1.heap[w.heap.size]? = some (.cells (opC 2 ws (.slice ra l.length ca) i c d x) 31 (0, 0))) := ho1
  have HC1 : Hid _ := lentI_any l ra ca w1 (HW.out.below BB.bl) (by omega)
  have lw : w.heap.size < w1.heap.size := heap_lt ho1
  have hlen : (layL h l).length ≤ l.length := layL_len _ _
  clear hw1 hB1 H BB ho1 hW
  generalize hL : layL h l = L at hlen
  generalize hG : layH h l = G
  go_enter Tryd.func9, Tryd.ntmps9
  go_wp2_with fail
  rw [← HW1.out]
  refine Calls.mono HC1.out ?_
  rintro e w2 ⟨⟨gl, rfl, o2⟩, b2⟩
  have H2 := HH1.out.below b2
  have HH2 : Hid (GT w0 w2 mb hb ab db rb g b rv rd row row h h vi Ni Vi) := H2
  have HL2 : Hid (LenI w2 w1.heap.size gl l) := o2
  have HOp2 : Hid (w2.heap[w.heap.size]? = some (.cells (opC 2 ws (.slice ra l.length ca) i c d x) 31 (0, 0))) := (b2.block _ lw).trans HO1.out
  have HC2 : Hid (Calls Tryd.prog 31 #[.pointer (some ⟨mb, 0, none⟩), .slice (some ⟨gl, 0, none⟩) l.length (l.length + 2)] w2 fun e w' => LayO mb hb ab rv row h l w2 e w') := lay_any l (some ⟨gl, 0, none⟩) (l.length + 2) w2 H2.m (lenI_rx o2) (by omega)
  have hs12 := b2.size
  clear o2 b2 H2 HC1 q0 q1
  go_wp2_with fail
  refine Calls.mono HC2.out ?_
  rintro e w3 ⟨r3, c3, rv3, rfl, o3, s3, d3⟩
  rw [hL] at o3 s3 d3 ⊢
  rw [hG] at s3
  have H3 := HH2.out.mks s3
  have HH3 : Hid (GT w0 w3 mb hb ab db rb g b rv3 rd (row ++ L) row G h vi Ni Vi) := H3
  have HO3 : Hid (w3.ownsRow w2.heap.size 3 1 (.slice r3 L.length c3) L.length (iL L)) := o3
  have HD3 : Hid (∀ k, rv3.ownBlock = some k → (Value.slice r3 L.length c3).ownBlock ≠ some k) := d3
  have LK3 : Hid (LenI w3 w1.heap.size gl l) := own_same HL2.out (fun k hk => by
    have e : gl = k := by simpa [Value.ownBlock] using hk
    subst e
    obtain ⟨csl, ql, _⟩ := (lenI_at HL2.out).2.2.2.2
    obtain ⟨csa, ra', _⟩ := HH2.out.m.c.r
    exact s3.f gl (heap_lt ql) (ty_ne ql HH2.out.m.m (by decide)) (ty_ne ql ra' (by decide)) (fun e => (HH1.out.new (own_ge HL2.out)).2.1 e))
  have HS3r : Hid (∀ k, rv3.ownBlock = some k → rv.ownBlock = some k ∨ w2.heap.size ≤ k) := s3.r
  have HGL : Hid (gl < w2.heap.size) := (lenI_at HL2.out).2.2.2.1
  have ho3 : w3.heap[w.heap.size]? = some (.cells (opC 2 ws (.slice ra l.length ca) i c d x) 31 (0, 0)) := by
    obtain ⟨csa, ra', _⟩ := HH2.out.m.c.r
    exact (s3.f _ (heap_lt HOp2.out) (ty_ne HOp2.out HH2.out.m.m (by decide)) (ty_ne HOp2.out ra' (by decide)) (fun e => by
      obtain ⟨cs', q⟩ := HH2.out.m.q.blk e
      exact ty_ne HOp2.out q (by decide) rfl)).trans HOp2.out
  have HOp3 : Hid (w3.heap[w.heap.size]? = some (.cells (opC 2 ws (.slice ra l.length ca) i c d x) 31 (0, 0))) := ho3
  have q3 : w3.cell? ⟨w.heap.size, 2, none⟩ = some (.slice ra l.length ca) := heap_cell ho3 rfl
  have HC3 : Hid (Calls Tryd.prog 32 #[.pointer (some ⟨db, 0, none⟩), .slice ra l.length ca] w3 fun e w' => DLayO db rb g rd row h l w3 e w') := rlay_any l ra ca b0 o0 w3 H3.d h0or (fun j x hx => ⟨Nat.lt_of_lt_of_le (h0cs j x hx).1 H3.bl.size, (H3.bl.cell (p := ⟨b0, o0 + j, none⟩) (h0cs j x hx).1).trans (h0cs j x hx).2⟩) (fun hne => by
    obtain ⟨y, l', rfl⟩ := List.exists_cons_of_ne_nil hne
    have lb := (h0cs 0 y rfl).1
    obtain ⟨f1, f2, f3, f4, f5, f6⟩ := H3.f
    exact ⟨by omega, by omega, fun e => by have := H3.fr b0 (.inr (.inl e)); omega⟩) (by omega)
  have hs23 := s3.b.size
  clear o3 s3 d3 H3 HC2 ho3
  go_wp2_with fail
  refine Calls.mono HC3.out ?_
  rintro e w4 ⟨r4, c4, rd4, rfl, o4, s4, d4⟩
  rw [hL] at o4 s4 d4 ⊢
  rw [hG] at s4
  have H4 := HH3.out.dk s4
  have HH4 : Hid (GT w0 w4 mb hb ab db rb g b rv3 rd4 (row ++ L) (row ++ L) G G vi Ni Vi) := H4
  have O3 := s4.own HH3.out.d HO3.out (fun k hk e => by
    obtain ⟨cs, q⟩ := HH2.out.d.q.blk hk
    have := heap_lt q
    have := (HO3.out.lt k e).1
    omega)
  have HO4 : Hid (w4.ownsRow w3.heap.size 3 1 (.slice r4 L.length c4) L.length (iL L)) := o4
  have HO3' : Hid (w4.ownsRow w2.heap.size 3 1 (.slice r3 L.length c3) L.length (iL L)) := O3
  have LK4 : Hid (LenI w4 w1.heap.size gl l) := own_same LK3.out (fun k hk => by
    have e : gl = k := by simpa [Value.ownBlock] using hk
    subst e
    obtain ⟨csl, ql, _⟩ := (lenI_at LK3.out).2.2.2.2
    obtain ⟨csg, rg', _⟩ := HH3.out.d.r.r
    exact s4.f gl (heap_lt ql) (ty_ne ql HH3.out.d.m (by decide)) (ty_ne ql rg' (by decide)) (fun e => (HH1.out.new (own_ge LK3.out)).2.2.1 e))
  have HS4r : Hid (∀ k, rd4.ownBlock = some k → rd.ownBlock = some k ∨ w3.heap.size ≤ k) := s4.r
  have ho4 : w4.heap[w.heap.size]? = some (.cells (opC 2 ws (.slice ra l.length ca) i c d x) 31 (0, 0)) := by
    obtain ⟨csg, rg', _⟩ := HH3.out.d.r.r
    exact (s4.f _ (heap_lt HOp3.out) (ty_ne HOp3.out HH3.out.d.m (by decide)) (ty_ne HOp3.out rg' (by decide)) (fun e => by
      obtain ⟨cs', q⟩ := HH3.out.d.q.blk e
      exact ty_ne HOp3.out q (by decide) rfl)).trans HOp3.out
  have HOp4 : Hid (w4.heap[w.heap.size]? = some (.cells (opC 2 ws (.slice ra l.length ca) i c d x) 31 (0, 0))) := ho4
  have hs34 := s4.b.size
  have HP : Hid _ := put_any H4 (by omega) r3 c3 L w2.heap.size O3 (by omega) (fun k hk => by
    obtain ⟨e1, _, _, e4⟩ := HH2.out.new (O3.lt k hk).1
    refine ⟨e1, fun e => HD3.out k e hk, fun e => ?_, e4⟩
    rcases s4.r k e with e5 | e5
    · obtain ⟨cs, q⟩ := HH2.out.d.q.blk e5
      have := heap_lt q
      have := (O3.lt k hk).1
      omega
    · have := (HO3.out.lt k hk).2
      omega)
  clear o4 s4 d4 H4 O3 HC3 ho4 q3
  go_wp2_with fail
  refine Calls.mono HP.out ?_
  rintro e w5 ⟨⟨rr, rfl⟩, ⟨v5, V5, g5, f5⟩, b5, k5⟩
  have HH5 : Hid (GT w0 w5 mb hb ab db rb g b rv3 rd4 (row ++ L) (row ++ L) G G v5 (Ni + 1) V5) := g5
  have HX3 : Hid (w5.ownsRow w2.heap.size 3 1 (.slice r3 L.length c3) L.length (iL L)) := rx_keep HO3'.out k5
  have HX4 : Hid (w5.ownsRow w3.heap.size 3 1 (.slice r4 L.length c4) L.length (iL L)) := rx_keep HO4.out k5
  have LK5 : LenI w5 w1.heap.size gl l := own_same LK4.out (fun k hk => by
    have e : gl = k := by simpa [Value.ownBlock] using hk
    subst e
    obtain ⟨csl, ql, _⟩ := (lenI_at LK4.out).2.2.2.2
    exact k5 gl _ csl (by decide) (by decide) ql)
  have HNB : Hid (¬ (rv3.ownBlock = some gl ∨ rd4.ownBlock = some gl ∨ BoF b v5 nl (Ni + 1) 0 V5 Vn gl)) := by
    obtain ⟨e1, e2, e3, e4⟩ := HH1.out.new (own_ge LK4.out)
    have lgl := HGL.out
    rintro (e | e | e)
    · rcases HS3r.out gl e with q | q
      · exact e2 q
      · omega
    · rcases HS4r.out gl e with q | q
      · exact e3 q
      · omega
    · rcases f5 gl e with q | q | q
      · exact e4 q
      · have := (HO3'.out.lt gl q).1
        omega
      · omega
  have HLK5 : Hid (LenI w5 w1.heap.size gl l) := LK5
  have ho5 := (k5 _ _ _ (by decide) (by decide) HOp4.out).trans HOp4.out
  have q5 : w5.cell? ⟨w.heap.size, 2, none⟩ = some (.slice ra l.length ca) := heap_cell ho5 rfl
  have BB := g5
  have HWh : Hid _ := wholeI_any l gl w1.heap.size ra ca w5 (by omega) LK5 (HW.out.below BB.bl)
  have hs45 := b5.size
  clear g5 f5 b5 k5 LK5 HP ho5 BB
  go_wp2_with fail
  refine Calls.mono HWh.out ?_
  rintro e w6 ⟨rfl, b6⟩
  have HH6 : Hid (GT w0 w6 mb hb ab db rb g b rv3 rd4 (row ++ L) (row ++ L) G G v5 (Ni + 1) V5) := HH5.out.below b6
  have D6 : DR w6 3 gl (l.length + 2) (fun _ _ => True) := (lenI_at HLK5.out).2.2.2.2.kept (b6.block gl (lenI_at HLK5.out).2.2.2.1)
  have HD6 : Hid (DR w6 3 gl (l.length + 2) (fun _ _ => True)) := D6
  have HY3 : Hid (w6.ownsRow w2.heap.size 3 1 (.slice r3 L.length c3) L.length (iL L)) := own_same HX3.out (fun k hk => b6.block k (HX3.out.lt k hk).2)
  have HY4 : Hid (w6.ownsRow w3.heap.size 3 1 (.slice r4 L.length c4) L.length (iL L)) := own_same HX4.out (fun k hk => b6.block k (HX4.out.lt k hk).2)
  have HSp : Hid _ := spoilI_any l.length gl w6 (by omega) D6
  clear b6 D6 HWh q5
  go_wp2_with fail
  refine Calls.mono HSp.out ?_
  rintro e w7 ⟨rfl, f7⟩
  have HH7 : Hid (GT w0 w7 mb hb ab db rb g b rv3 rd4 (row ++ L) (row ++ L) G G v5 (Ni + 1) V5) := HH6.out.fr' f7.1 (fun y cs t hy hint hw => f7.2 y (fun e => by
      subst e
      obtain ⟨csl, ql, _⟩ := HD6.out
      rw [ql] at hy
      cases hy
      exact HNB.out (hint rfl)) (heap_lt hy)) (fun y hy => f7.2 y (by have := own_ge LK4.out; have := HH1.out.bl.size; omega) (Nat.lt_of_lt_of_le hy HH6.out.bl.size))
  have lgl := HGL.out
  have HS : Hid _ := sameI_any L L r3 r4 c3 c4 w7 (by unfold maxLen; omega) (by unfold maxLen; omega) (own_rx (own_same HY3.out (fun k hk => f7.2 k (by have := (HY3.out.lt k hk).1; omega) (HY3.out.lt k hk).2)) rfl) (own_rx (own_same HY4.out (fun k hk => f7.2 k (by have := (HY4.out.lt k hk).1; omega) (HY4.out.lt k hk).2)) rfl)
  rw [decide_eq_true rfl] at HS
  clear f7 HSp
  go_wp2_with fail
  refine Calls.mono HS.out ?_
  rintro e w8 ⟨rfl, b8⟩
  have HF : Hid (StR w0 mb hb ab db rb g b row Ni l.length (.returned (.bool true)) w8) := ⟨rfl, rv3, rd4, row ++ L, G, v5, _, V5, HH7.out.below b8, by simp; omega, by omega⟩
  clear b8
  go_wp2_with fail
  go_ret
  exact HF.out
end
end Go.Proofs.YtiglmffnhbegiaaDoor
