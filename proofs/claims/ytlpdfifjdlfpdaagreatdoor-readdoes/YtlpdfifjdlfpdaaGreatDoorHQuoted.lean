/- The reader's quoted. -/
import Derived.Test.YtlpdfifjdlfpdaaGreatDoorGE
namespace Go.Proofs.YtlpdfifjdlfpdaaGreatDoor
open Go.RowKit

set_option maxRecDepth 100000 in
set_option maxHeartbeats 4000000 in
theorem quoted_of {rb tb T cap : Nat} {xs : List (Tok × Int)} {N : Nat} (hD : DatumC rb tb T cap xs N) : QuotedC rb tb T cap xs N := by
  intro w i o c ts hA hN
  have HA : Hid (At rb tb T cap xs w i o c ts) := hA
  have HD : Hid (DatumC rb tb T cap xs N) := hD
  have hlt := hA.reader.lt
  clear hA hD
  cases hX : rdf 0 ts o c with
  | bad e p =>
    have HX : Hid _ := hX
    clear hX
    go_enter Tryz.func83, Tryz.ntmps83
    go_wp2_with fail
    refine (symbol_any _ _).mono ?_
    rintro e' w1 ⟨rfl, hb1⟩
    have A1 := (HA.out.alloc Z5).same hb1
    go_wp2_with fail
    refine (HD.out w1 i o c ts A1 hN).mono ?_
    rw [HX.out]
    rintro e' w2 ⟨hb2, rfl, i', c', hr2⟩
    go_wp2_with fail
    exact ⟨rfl, (((But.refl rb w).alloc Z5).trans (But.of_below hb1)).trans hb2.but |>.b (Nat.le_refl _), rfl, i', c', hr2⟩
  | ok f d r c' =>
    have HX : Hid _ := hX
    clear hX
    go_enter Tryz.func83, Tryz.ntmps83
    go_wp2_with fail
    refine (symbol_any _ _).mono ?_
    rintro e' w1 ⟨rfl, hb1⟩
    have A1 := (HA.out.alloc Z5).same hb1
    have q1 : w1.heap[w.heap.size]? = some Z5 := (hb1.block _ (by simp)).trans (World.alloc_heap_new _ _)
    have B1 : But rb w w1 := ((But.refl rb w).alloc Z5).trans (But.of_below hb1)
    have l1 : w.heap.size < w1.heap.size := (Array.getElem?_eq_some_iff.1 q1).1
    have HB1 : Hid (But rb w w1) := B1
    clear hb1 B1
    go_wp2_with fail
    refine (HD.out w1 i o c ts A1 hN).mono ?_
    rw [HX.out]
    rintro e' w2 ⟨hb2, k, n, t, s, d', kv, rfl, rfl, hr2, hT2⟩
    obtain ⟨ra2, cap2, rfl⟩ := hT2.slice
    have q2 : w2.heap[w.heap.size]? = some Z5 := (hb2.block _ l1 (by omega)).trans q1
    have HQ2 : Hid _ := q2
    have HB2 : Hid (ButB w1.heap.size rb w1 w2) := hb2
    have HT2 : Hid (Tree w2 w1.heap.size (.slice ra2 s.len cap2) s) := hT2
    clear q1 q2 hb2 hT2 A1
    go_wp2_with fail
    have e2 : w1.heap.size ≤ w2.heap.size := HB2.out.size
    have T3 : Tree (w2.alloc (.cells #[.int .u8 2, .int .i64 0, .string ⟨#[113, 117, 111, 116, 101]⟩, .slice none 0 0, .bool false, .int .u8 k, .int .i64 n, S t, .slice ra2 s.len cap2, .bool d'] 58)) w1.heap.size (.slice (some ⟨w2.heap.size, 0, none⟩) 2 2) (.cons 2 0 quoteT .nil false (.cons k n t s d' .nil)) := by
      obtain ⟨cs, bs, ho, hr, hn⟩ := HT2.out.ex
      have R1 : Row w2 w1.heap.size (.cons 2 0 quoteT .nil false .nil) [.int .u8 2, .int .i64 0, S quoteT, .slice none 0 0, .bool false] (own1 (.slice none 0 0) ++ []) := Row.single (World.ownsRow_nil _ _ _ _) ⟨rfl, rfl⟩
      have R2 : Row w2 w1.heap.size (.cons k n t s d' .nil) [.int .u8 k, .int .i64 n, S t, .slice ra2 s.len cap2, .bool d'] (own1 (.slice ra2 s.len cap2) ++ bs) := Row.single ho hr
      have R3 := R1.app R2
      exact tree_new (f := .cons 2 0 quoteT .nil false (.cons k n t s d' .nil)) R3 (by simpa [own1, Value.ownBlock] using hn) (by omega) (by simp [Fo.len]) _ rfl
    have HT3 : Hid _ := T3
    clear T3
    refine (list_any _ 2 2 _).mono ?_
    rintro e' w3 ⟨rfl, hb3⟩
    have l2 : w.heap.size < w2.heap.size := by omega
    have q3 : w3.heap[w.heap.size]? = some Z5 := (hb3.block _ (by simp; omega)).trans ((Below.heap_alloc _ _ _ l2).trans HQ2.out)
    have HT4 : Hid (Tree w3 w1.heap.size (.slice (some ⟨w2.heap.size, 0, none⟩) 2 2) (.cons 2 0 quoteT .nil false (.cons k n t s d' .nil))) := HT3.out.kept (fun g _ hg => hb3.block g hg)
    have hr3 := (hr2.kept (Below.heap_alloc _ _ _ hr2.lt)).kept (hb3.block _ (by have := hr2.lt; simp; omega))
    have HB3 : Hid (ButB w.heap.size rb w w3) := ((HB1.out.b (Nat.le_refl _)).trans (HB2.out.mono (by omega))).trans ((((But.refl rb w2).alloc _).trans (But.of_below hb3)).b (by omega))
    have l3 : w2.heap.size < w3.heap.size := by have := hb3.size; simp at this; omega
    obtain ⟨z0, z1, z2, z3, z4, zf⟩ := cells5 q3
    have zf0 := zf 0
    have zf1 := zf 1
    have zf2 := zf 2
    have zf3 := zf 3
    have zf4 := zf 4
    have HQ3 : Hid _ := q3
    clear q3 zf hb3 HT3 HT2
    go_wp2_with fail
    have h5 := five_at HQ3.out (.int .u8 5) (.int .i64 0) (.string ⟨#[]⟩) (.slice (some ⟨w2.heap.size, 0, none⟩) 2 2) (.bool false)
    have o5 : ∀ g, g ≠ w.heap.size → (five w.heap.size w3 (.int .u8 5) (.int .i64 0) (.string ⟨#[]⟩) (.slice (some ⟨w2.heap.size, 0, none⟩) 2 2) (.bool false)).heap[g]? = w3.heap[g]? := fun g hg => five_other hg _ _ _ _ _
    have s5 : (five w.heap.size w3 (.int .u8 5) (.int .i64 0) (.string ⟨#[]⟩) (.slice (some ⟨w2.heap.size, 0, none⟩) 2 2) (.bool false)).heap.size = w3.heap.size := five_size _ _ _ _ _
    have b5 : ButB w.heap.size rb w3 (five w.heap.size w3 (.int .u8 5) (.int .i64 0) (.string ⟨#[]⟩) (.slice (some ⟨w2.heap.size, 0, none⟩) 2 2) (.bool false)) := ⟨rfl, rfl, rfl, by omega, fun g hg _ => o5 g (by omega)⟩
    change bodyPost _ _ _ _ _ (five w.heap.size w3 (.int .u8 5) (.int .i64 0) (.string ⟨#[]⟩) (.slice (some ⟨w2.heap.size, 0, none⟩) 2 2) (.bool false))
    obtain ⟨W5, hW5⟩ : ∃ W5, five w.heap.size w3 (.int .u8 5) (.int .i64 0) (.string ⟨#[]⟩) (.slice (some ⟨w2.heap.size, 0, none⟩) 2 2) (.bool false) = W5 := ⟨_, rfl⟩
    rw [hW5] at h5 o5 s5 b5 ⊢
    clear hW5 z0 z1 z2 z3 z4 zf0 zf1 zf2 zf3 zf4
    obtain ⟨y0, y1, y2, y3, y4, _⟩ := cells5 h5
    refine bodyPost_ret (v := .agg #[.int .u8 5, .int .i64 0, .string ⟨#[]⟩, .slice (some ⟨w2.heap.size, 0, none⟩) 2 2, .bool false]) (by simp [results, Tryz.results83, go_sem, y0, y1, y2, y3, y4]) rfl ?_
    refine ⟨HB3.out.trans b5, 5, 0, [], _, false, _, rfl, rfl, hr3.kept (o5 _ (by omega)), ?_⟩
    exact (HT4.out.kept (fun g hg _ => o5 g (by omega))).mono (by omega)
end Go.Proofs.YtlpdfifjdlfpdaaGreatDoor
