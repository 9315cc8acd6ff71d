/- The reader's datum: a quote. -/
import Derived.Test.YtlpdfifjdlfpdaaGreatDoorGE
namespace Go.Proofs.YtlpdfifjdlfpdaaGreatDoor
open Go.RowKit

set_option maxRecDepth 100000 in
set_option maxHeartbeats 4000000 in
theorem datum_quote {rb tb T cap : Nat} {xs : List (Tok × Int)} {N : Nat} (hL : QuotedC rb tb T cap xs N) (w : World) (i o c : Nat) (text : List UInt8) (n pos er : Int) (ts' : List Tok) (hA : At rb tb T cap xs w i o c (⟨3, text, n, pos⟩ :: ts')) (hN : ts'.length ≤ N) (hx : xs[i]? = some (⟨3, text, n, pos⟩, er)) (htl : (xs.drop (i + 1)).map Prod.fst = ts') :
    Calls Tryz.prog 64 #[.pointer (some ⟨rb, 0, none⟩)] w (PostD w.heap.size rb tb T cap o w (rdf 0 (⟨3, text, n, pos⟩ :: ts') o c)) := by
  have HA : Hid (At rb tb T cap xs w i o c (⟨3, text, n, pos⟩ :: ts')) := hA
  have HL : Hid (QuotedC rb tb T cap xs N) := hL
  have Hx : Hid _ := hx
  have hlt := hA.reader.lt
  have hc1 := hA.hc
  have ho1 := hA.ho
  have Htl : Hid _ := htl
  clear hA hL hx htl
  by_cases ho : o = 100
  · have hR : rdf 0 (⟨3, text, n, pos⟩ :: ts') o c = .bad 61 pos := by rw [rdf_one]; simp [one, ho]
    rw [hR]
    clear hR
    subst ho
    go_enter_defers Tryz.func64, Tryz.ntmps64
    go_wp2_with fail
    refine (take_any rb tb T cap i 100 c xs _ _ (HA.out.alloc _).reader HA.out.hT (by have := HA.out.hTm; omega) (HA.out.alloc _).row Hx.out).mono ?_
    rintro e w1 ⟨rfl, hr1, hb1⟩
    have hl1 := hr1.lt
    go_wp2_with fail
    refine (enter_deep rb tb T cap (i + 1) c 2 ⟨3, text, n, pos⟩ _ (hr1.kept (Below.heap_alloc _ _ _ hl1))).mono ?_
    rintro e w2 ⟨rfl, hb2, hr2⟩
    go_wp2_with fail
    exact ⟨((((But.refl _ _).alloc _).trans hb1).alloc _ |>.trans hb2).b (Nat.le_refl _), rfl, _, _, hr2⟩
  by_cases hc : 10000 < c + 2
  · have hR : rdf 0 (⟨3, text, n, pos⟩ :: ts') o c = .bad 62 pos := by rw [rdf_one]; simp [one, ho, hc]
    rw [hR]
    clear hR
    go_enter_defers Tryz.func64, Tryz.ntmps64
    go_wp2_with fail
    refine (take_any rb tb T cap i o c xs _ _ (HA.out.alloc _).reader HA.out.hT (by have := HA.out.hTm; omega) (HA.out.alloc _).row Hx.out).mono ?_
    rintro e w1 ⟨rfl, hr1, hb1⟩
    have hl1 := hr1.lt
    go_wp2_with fail
    refine (enter_bad rb tb T cap (i + 1) o c 2 ⟨3, text, n, pos⟩ _ (hr1.kept (Below.heap_alloc _ _ _ hl1)) (by omega) hc1 (by omega) hc).mono ?_
    rintro e w2 ⟨rfl, hb2, hr2⟩
    go_wp2_with fail
    exact ⟨((((But.refl _ _).alloc _).trans hb1).alloc _ |>.trans hb2).b (Nat.le_refl _), rfl, _, _, hr2⟩
  have hR : rdf 0 (⟨3, text, n, pos⟩ :: ts') o c = (rdf 0 ts' (o + 1) (c + 2)).quote := by rw [rdf_one]; simp only [one, if_true, if_neg ho, if_neg hc, if_neg (show ¬ (3 : Int) = 1 by decide)]
  rw [hR]
  clear hR
  have hE : Ended ts' := HA.out.ended.tail (by show (3 : Int) ≠ 9; decide)
  cases hX : rdf 0 ts' (o + 1) (c + 2) with
  | bad e p =>
    have HX : Hid _ := hX
    clear hX
    go_enter_defers Tryz.func64, Tryz.ntmps64
    go_wp2_with fail
    refine (take_any rb tb T cap i o c xs _ _ (HA.out.alloc _).reader HA.out.hT (by have := HA.out.hTm; omega) (HA.out.alloc _).row Hx.out).mono ?_
    rintro e' w1 ⟨rfl, hr1, hb1⟩
    have hl1 := hr1.lt
    go_wp2_with fail
    refine (enter_ok rb tb T cap (i + 1) o c 2 ⟨3, text, n, pos⟩ _ (hr1.kept (Below.heap_alloc _ _ _ hl1)) (by omega) hc1 (by omega) hc).mono ?_
    rintro e' w2 ⟨⟨v, rfl⟩, hb2, hr2⟩
    have B2 : But rb w w2 := (((But.refl _ _).alloc _).trans hb1).alloc _ |>.trans hb2
    have A2 : At rb tb T cap xs w2 (i + 1) (o + 1) (c + 2) ts' := HA.out.moved hr2 (B2.block _ HA.out.row.1 HA.out.ne.symm) B2.size Htl.out hE (by omega) (by omega)
    have HB2 : Hid _ := B2
    clear hb1 hb2 hr1
    go_wp2_with fail
    refine (HL.out w2 (i + 1) (o + 1) (c + 2) ts' A2 hN).mono ?_
    rw [HX.out]
    rintro e' w3 ⟨hb3, rfl, i', c', hr3⟩
    go_wp2_with fail
    refine leaves_cons (f := 81) (args := #[.pointer (some ⟨rb, 0, none⟩)]) (by simp) (by simp [go_sem]) ?_
    refine (leave_any rb tb T cap i' o c' _ w3 hr3 (by omega)).mono ?_
    rintro e' u' w4 ⟨rfl, ⟨v', rfl⟩, hb4, hr4⟩
    simp only [fault, settle]
    refine ⟨(((HB2.out.b (Nat.le_refl _)).trans (hb3.mono HB2.out.size)).trans (hb4.b (Nat.le_trans HB2.out.size hb3.size))), rfl, i', c', hr4⟩
  | ok f d r c' =>
    have HX : Hid _ := hX
    clear hX
    go_enter_defers Tryz.func64, Tryz.ntmps64
    go_wp2_with fail
    refine (take_any rb tb T cap i o c xs _ _ (HA.out.alloc _).reader HA.out.hT (by have := HA.out.hTm; omega) (HA.out.alloc _).row Hx.out).mono ?_
    rintro e' w1 ⟨rfl, hr1, hb1⟩
    have hl1 := hr1.lt
    have q1 : w1.heap[w.heap.size]? = some Z5 := (hb1.block _ (by simp) (by omega)).trans (World.alloc_heap_new _ _)
    go_wp2_with fail
    refine (enter_ok rb tb T cap (i + 1) o c 2 ⟨3, text, n, pos⟩ _ (hr1.kept (Below.heap_alloc _ _ _ hl1)) (by omega) hc1 (by omega) hc).mono ?_
    rintro e' w2 ⟨⟨v, rfl⟩, hb2, hr2⟩
    have B2 : But rb w w2 := (((But.refl _ _).alloc _).trans hb1).alloc _ |>.trans hb2
    have A2 : At rb tb T cap xs w2 (i + 1) (o + 1) (c + 2) ts' := HA.out.moved hr2 (B2.block _ HA.out.row.1 HA.out.ne.symm) B2.size Htl.out hE (by omega) (by omega)
    have hlq := (Array.getElem?_eq_some_iff.1 q1).1
    have q2 : w2.heap[w.heap.size]? = some Z5 := (hb2.block _ (by simp; omega) (by omega)).trans ((Below.heap_alloc _ _ _ hlq).trans q1)
    have HB2 : Hid (But rb w w2) := B2
    clear hb1 hb2 hr1 q1 hlq
    go_wp2_with fail
    refine (HL.out w2 (i + 1) (o + 1) (c + 2) ts' A2 hN).mono ?_
    rw [HX.out]
    rintro e' w3 ⟨hb3, k3, n3, t3, s3, d3, kv, hf, rfl, hr3, hT3⟩
    cases hf
    have hlq := (Array.getElem?_eq_some_iff.1 q2).1
    have q3 : w3.heap[w.heap.size]? = some Z5 := (hb3.block _ hlq (by omega)).trans q2
    obtain ⟨z0, z1, z2, z3, z4, zf⟩ := cells5 q3
    have zf0 := zf 0
    have zf1 := zf 1
    have zf2 := zf 2
    have zf3 := zf 3
    have zf4 := zf 4
    obtain ⟨ra3, cap3, rfl⟩ := hT3.slice
    have HQ3 : Hid _ := q3
    have HB3 : Hid (ButB w2.heap.size rb w2 w3) := hb3
    have HT3 : Hid (Tree w3 w2.heap.size (.slice ra3 (Fo.cons 2 0 quoteT .nil false f).len cap3) (.cons 2 0 quoteT .nil false f)) := hT3
    clear q2 q3 hb3 hT3 A2 zf
    go_wp2_with fail
    have h5 := five_at HQ3.out (.int .u8 5) (.int .i64 0) (.string ⟨#[]⟩) (.slice ra3 (Fo.cons 2 0 quoteT .nil false f).len cap3) (.bool false)
    have o5 : ∀ g, g ≠ w.heap.size → (five w.heap.size w3 (.int .u8 5) (.int .i64 0) (.string ⟨#[]⟩) (.slice ra3 (Fo.cons 2 0 quoteT .nil false f).len cap3) (.bool false)).heap[g]? = w3.heap[g]? := fun g hg => five_other hg _ _ _ _ _
    have s5 : (five w.heap.size w3 (.int .u8 5) (.int .i64 0) (.string ⟨#[]⟩) (.slice ra3 (Fo.cons 2 0 quoteT .nil false f).len cap3) (.bool false)).heap.size = w3.heap.size := five_size _ _ _ _ _
    have b5 : ButB w.heap.size rb w3 (five w.heap.size w3 (.int .u8 5) (.int .i64 0) (.string ⟨#[]⟩) (.slice ra3 (Fo.cons 2 0 quoteT .nil false f).len cap3) (.bool false)) := ⟨rfl, rfl, rfl, by omega, fun g hg _ => o5 g (by omega)⟩
    change bodyPostD _ _ _ _ _ (five w.heap.size w3 (.int .u8 5) (.int .i64 0) (.string ⟨#[]⟩) (.slice ra3 (Fo.cons 2 0 quoteT .nil false f).len cap3) (.bool false))
    obtain ⟨W5, hW5⟩ : ∃ W5, five w.heap.size w3 (.int .u8 5) (.int .i64 0) (.string ⟨#[]⟩) (.slice ra3 (Fo.cons 2 0 quoteT .nil false f).len cap3) (.bool false) = W5 := ⟨_, rfl⟩
    rw [hW5] at h5 o5 s5 b5 ⊢
    clear hW5 z0 z1 z2 z3 z4 zf0 zf1 zf2 zf3 zf4
    refine leaves_cons (f := 81) (args := #[.pointer (some ⟨rb, 0, none⟩)]) (by simp) (by simp [go_sem]) ?_
    refine (leave_any rb tb T cap (T - r.length) o c' _ W5 (hr3.kept (o5 _ (by omega))) (by omega)).mono ?_
    rintro e' u' w4 ⟨rfl, ⟨v', rfl⟩, hb4, hr4⟩
    have hl3 : w.heap.size < w3.heap.size := Nat.lt_of_lt_of_le hlq HB3.out.size
    have q4 := (hb4.block w.heap.size (by omega) (by omega)).trans h5
    obtain ⟨y0, y1, y2, y3, y4, _⟩ := cells5 q4
    refine ⟨.agg #[.int .u8 5, .int .i64 0, .string ⟨#[]⟩, .slice ra3 (Fo.cons 2 0 quoteT .nil false f).len cap3, .bool false], by simp [results, Tryz.results64, go_sem, y0, y1, y2, y3, y4], ?_⟩
    refine ⟨(((HB2.out.b (Nat.le_refl _)).trans (HB3.out.mono HB2.out.size)).trans b5).trans (hb4.b (by omega)), 5, 0, [], .cons 2 0 quoteT .nil false f, false, _, rfl, rfl, hr4, ?_⟩
    exact (HT3.out.kept (fun g hg hg' => (hb4.block g (by omega) (by have := HB2.out.size; omega)).trans (o5 g (by omega)))).mono HB2.out.size
end Go.Proofs.YtlpdfifjdlfpdaaGreatDoor
