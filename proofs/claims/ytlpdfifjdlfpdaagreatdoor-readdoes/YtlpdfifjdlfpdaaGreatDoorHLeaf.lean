/- The reader's datum: what is no list, and what can't stand there. -/
import Derived.Test.YtlpdfifjdlfpdaaGreatDoorGE
namespace Go.Proofs.YtlpdfifjdlfpdaaGreatDoor
open Go.RowKit

set_option maxRecDepth 100000 in
set_option maxHeartbeats 4000000 in
theorem datum_leaf5 {rb tb T cap : Nat} {xs : List (Tok × Int)} (w : World) (i o c : Nat) (text : List UInt8) (n pos er : Int) (ts' : List Tok) (hA : At rb tb T cap xs w i o c (⟨5, text, n, pos⟩ :: ts')) (hx : xs[i]? = some (⟨5, text, n, pos⟩, er)) (hl' : ts'.length + i + 1 = T) :
    Calls Tryz.prog 64 #[.pointer (some ⟨rb, 0, none⟩)] w (PostD w.heap.size rb tb T cap o w (rdf 0 (⟨5, text, n, pos⟩ :: ts') o c)) := by
  have HA : Hid (At rb tb T cap xs w i o c (⟨5, text, n, pos⟩ :: ts')) := hA
  have Hx : Hid _ := hx
  have hlt := hA.reader.lt
  have hc1 := hA.hc
  clear hA hx
  by_cases hc : 10000 < c + 1
  · have hR : rdf 0 (⟨5, text, n, pos⟩ :: ts') o c = .bad 62 pos := by rw [rdf_one]; simp [one, isLeaf, hc]
    rw [hR]
    clear hR
    go_enter_defers Tryz.func64, Tryz.ntmps64
    go_wp2_with fail
    refine (take_any rb tb T cap i o c xs _ _ (HA.out.alloc _).reader HA.out.hT (by have := HA.out.hTm; omega) (HA.out.alloc _).row Hx.out).mono ?_
    rintro e w1 ⟨rfl, hr1, hb1⟩
    have hl1 := hr1.lt
    go_wp2_with fail
    refine (add_bad rb tb T cap (i + 1) o c 1 ⟨5, text, n, pos⟩ _ (hr1.kept (Below.heap_alloc _ _ _ hl1)) hc1 (by omega) hc).mono ?_
    rintro e w2 ⟨rfl, hb2, hr2⟩
    go_wp2_with fail
    exact ⟨((((But.refl _ _).alloc _).trans hb1).alloc _ |>.trans hb2).b (Nat.le_refl _), rfl, _, _, hr2⟩
  · have hR : rdf 0 (⟨5, text, n, pos⟩ :: ts') o c = .ok (.cons 1 n [] .nil false .nil) false ts' (c + 1) := by rw [rdf_one]; simp [one, isLeaf, leafOf]; omega
    rw [hR]
    clear hR
    go_enter_defers Tryz.func64, Tryz.ntmps64
    go_wp2_with fail
    refine (take_any rb tb T cap i o c xs _ _ (HA.out.alloc _).reader HA.out.hT (by have := HA.out.hTm; omega) (HA.out.alloc _).row Hx.out).mono ?_
    rintro e' w1 ⟨rfl, hr1, hb1⟩
    have hl1 := hr1.lt
    have q1 : w1.heap[w.heap.size]? = some Z5 := (hb1.block _ (by simp) (by omega)).trans (World.alloc_heap_new _ _)
    go_wp2_with fail
    refine (add_ok rb tb T cap (i + 1) o c 1 ⟨5, text, n, pos⟩ _ (hr1.kept (Below.heap_alloc _ _ _ hl1)) hc1 (by omega) hc).mono ?_
    rintro e' w2 ⟨⟨v, rfl⟩, hb2, hr2⟩
    have B2 : But rb w w2 := (((But.refl _ _).alloc _).trans hb1).alloc _ |>.trans hb2
    have hlq := (Array.getElem?_eq_some_iff.1 q1).1
    have q2 : w2.heap[w.heap.size]? = some Z5 := (hb2.block _ (by simp; omega) (by omega)).trans ((Below.heap_alloc _ _ _ hlq).trans q1)
    have HB2 : Hid (But rb w w2) := B2
    have hb1l := hb1.size
    have tk := World.alloc_heap_new w1 (.cells #[.int .u8 5, S text, .int .i64 n, .int .i64 pos] 71)
    have tk2 := (hb2.block w1.heap.size (by simp) (by omega)).trans tk
    have tx1 : w2.cell? ⟨w1.heap.size, 1, none⟩ = some (S text) := by simp [World.cell?, tk2]
    have tx2 : w2.cell? ⟨w1.heap.size, 2, none⟩ = some (.int .i64 n) := by simp [World.cell?, tk2]
    clear tk tk2
    clear hb1 hb2 hr1 q1 hlq B2
    obtain ⟨z0, z1, z2, z3, z4, zf⟩ := cells5 q2
    have zf0 := zf 0
    have zf1 := zf 1
    have zf2 := zf 2
    have zf3 := zf 3
    have zf4 := zf 4
    have HQ3 : Hid _ := q2
    clear q2 zf
    go_wp2_with fail
    have h5 := five_at HQ3.out (.int .u8 1) (.int .i64 n) (.string ⟨#[]⟩) (.slice none 0 0) (.bool false)
    have o5 : ∀ g, g ≠ w.heap.size → (five w.heap.size w2 (.int .u8 1) (.int .i64 n) (.string ⟨#[]⟩) (.slice none 0 0) (.bool false)).heap[g]? = w2.heap[g]? := fun g hg => five_other hg _ _ _ _ _
    have s5 : (five w.heap.size w2 (.int .u8 1) (.int .i64 n) (.string ⟨#[]⟩) (.slice none 0 0) (.bool false)).heap.size = w2.heap.size := five_size _ _ _ _ _
    have b5 : ButB w.heap.size rb w2 (five w.heap.size w2 (.int .u8 1) (.int .i64 n) (.string ⟨#[]⟩) (.slice none 0 0) (.bool false)) := ⟨rfl, rfl, rfl, by omega, fun g hg _ => o5 g (by omega)⟩
    change bodyPostD _ _ _ _ _ (five w.heap.size w2 (.int .u8 1) (.int .i64 n) (.string ⟨#[]⟩) (.slice none 0 0) (.bool false))
    obtain ⟨W5, hW5⟩ : ∃ W5, five w.heap.size w2 (.int .u8 1) (.int .i64 n) (.string ⟨#[]⟩) (.slice none 0 0) (.bool false) = W5 := ⟨_, rfl⟩
    rw [hW5] at h5 o5 s5 b5 ⊢
    clear hW5 z0 z1 z2 z3 z4 zf0 zf1 zf2 zf3 zf4
    obtain ⟨y0, y1, y2, y3, y4, _⟩ := cells5 h5
    refine ⟨.agg #[.int .u8 1, .int .i64 n, .string ⟨#[]⟩, .slice none 0 0, .bool false], by simp [results, Tryz.results64, go_sem, y0, y1, y2, y3, y4], ?_⟩
    refine ⟨(HB2.out.b (Nat.le_refl _)).trans b5, 1, n, [], .nil, false, _, rfl, rfl, ?_, Tree.nil _ _⟩
    rw [show T - ts'.length = i + 1 by omega]
    exact hr2.kept (o5 _ (by omega))

set_option maxRecDepth 100000 in
set_option maxHeartbeats 4000000 in
theorem datum_leaf6 {rb tb T cap : Nat} {xs : List (Tok × Int)} (w : World) (i o c : Nat) (text : List UInt8) (n pos er : Int) (ts' : List Tok) (hA : At rb tb T cap xs w i o c (⟨6, text, n, pos⟩ :: ts')) (hx : xs[i]? = some (⟨6, text, n, pos⟩, er)) (hl' : ts'.length + i + 1 = T) :
    Calls Tryz.prog 64 #[.pointer (some ⟨rb, 0, none⟩)] w (PostD w.heap.size rb tb T cap o w (rdf 0 (⟨6, text, n, pos⟩ :: ts') o c)) := by
  have HA : Hid (At rb tb T cap xs w i o c (⟨6, text, n, pos⟩ :: ts')) := hA
  have Hx : Hid _ := hx
  have hlt := hA.reader.lt
  have hc1 := hA.hc
  clear hA hx
  by_cases hc : 10000 < c + 1
  · have hR : rdf 0 (⟨6, text, n, pos⟩ :: ts') o c = .bad 62 pos := by rw [rdf_one]; simp [one, isLeaf, hc]
    rw [hR]
    clear hR
    go_enter_defers Tryz.func64, Tryz.ntmps64
    go_wp2_with fail
    refine (take_any rb tb T cap i o c xs _ _ (HA.out.alloc _).reader HA.out.hT (by have := HA.out.hTm; omega) (HA.out.alloc _).row Hx.out).mono ?_
    rintro e w1 ⟨rfl, hr1, hb1⟩
    have hl1 := hr1.lt
    go_wp2_with fail
    refine (add_bad rb tb T cap (i + 1) o c 1 ⟨6, text, n, pos⟩ _ (hr1.kept (Below.heap_alloc _ _ _ hl1)) hc1 (by omega) hc).mono ?_
    rintro e w2 ⟨rfl, hb2, hr2⟩
    go_wp2_with fail
    exact ⟨((((But.refl _ _).alloc _).trans hb1).alloc _ |>.trans hb2).b (Nat.le_refl _), rfl, _, _, hr2⟩
  · have hR : rdf 0 (⟨6, text, n, pos⟩ :: ts') o c = .ok (.cons 2 0 text .nil false .nil) false ts' (c + 1) := by rw [rdf_one]; simp [one, isLeaf, leafOf]; omega
    rw [hR]
    clear hR
    go_enter_defers Tryz.func64, Tryz.ntmps64
    go_wp2_with fail
    refine (take_any rb tb T cap i o c xs _ _ (HA.out.alloc _).reader HA.out.hT (by have := HA.out.hTm; omega) (HA.out.alloc _).row Hx.out).mono ?_
    rintro e' w1 ⟨rfl, hr1, hb1⟩
    have hl1 := hr1.lt
    have q1 : w1.heap[w.heap.size]? = some Z5 := (hb1.block _ (by simp) (by omega)).trans (World.alloc_heap_new _ _)
    go_wp2_with fail
    refine (add_ok rb tb T cap (i + 1) o c 1 ⟨6, text, n, pos⟩ _ (hr1.kept (Below.heap_alloc _ _ _ hl1)) hc1 (by omega) hc).mono ?_
    rintro e' w2 ⟨⟨v, rfl⟩, hb2, hr2⟩
    have B2 : But rb w w2 := (((But.refl _ _).alloc _).trans hb1).alloc _ |>.trans hb2
    have hlq := (Array.getElem?_eq_some_iff.1 q1).1
    have q2 : w2.heap[w.heap.size]? = some Z5 := (hb2.block _ (by simp; omega) (by omega)).trans ((Below.heap_alloc _ _ _ hlq).trans q1)
    have HB2 : Hid (But rb w w2) := B2
    have hb1l := hb1.size
    have tk := World.alloc_heap_new w1 (.cells #[.int .u8 6, S text, .int .i64 n, .int .i64 pos] 71)
    have tk2 := (hb2.block w1.heap.size (by simp) (by omega)).trans tk
    have tx1 : w2.cell? ⟨w1.heap.size, 1, none⟩ = some (S text) := by simp [World.cell?, tk2]
    have tx2 : w2.cell? ⟨w1.heap.size, 2, none⟩ = some (.int .i64 n) := by simp [World.cell?, tk2]
    clear tk tk2
    clear hb1 hb2 hr1 q1 hlq B2
    go_wp2_with fail
    refine (symbol_any ⟨text.toArray⟩ _).mono ?_
    rintro e' w3 ⟨rfl, hb3⟩
    have q3 : w3.heap[w.heap.size]? = some Z5 := (hb3.block _ (Array.getElem?_eq_some_iff.1 q2).1).trans q2
    have hr3 := hr2.kept (hb3.block _ hr2.lt)
    have B3 : But rb w w3 := HB2.out.trans (But.of_below hb3)
    have HB3 : Hid (But rb w w3) := B3
    obtain ⟨z0, z1, z2, z3, z4, zf⟩ := cells5 q3
    have zf0 := zf 0
    have zf1 := zf 1
    have zf2 := zf 2
    have zf3 := zf 3
    have zf4 := zf 4
    have HQ3 : Hid _ := q3
    clear q2 q3 zf B3 hb3
    go_wp2_with fail
    have h5 := five_at HQ3.out (.int .u8 2) (.int .i64 0) (.string ⟨text.toArray⟩) (.slice none 0 0) (.bool false)
    have o5 : ∀ g, g ≠ w.heap.size → (five w.heap.size w3 (.int .u8 2) (.int .i64 0) (.string ⟨text.toArray⟩) (.slice none 0 0) (.bool false)).heap[g]? = w3.heap[g]? := fun g hg => five_other hg _ _ _ _ _
    have s5 : (five w.heap.size w3 (.int .u8 2) (.int .i64 0) (.string ⟨text.toArray⟩) (.slice none 0 0) (.bool false)).heap.size = w3.heap.size := five_size _ _ _ _ _
    have b5 : ButB w.heap.size rb w3 (five w.heap.size w3 (.int .u8 2) (.int .i64 0) (.string ⟨text.toArray⟩) (.slice none 0 0) (.bool false)) := ⟨rfl, rfl, rfl, by omega, fun g hg _ => o5 g (by omega)⟩
    change bodyPostD _ _ _ _ _ (five w.heap.size w3 (.int .u8 2) (.int .i64 0) (.string ⟨text.toArray⟩) (.slice none 0 0) (.bool false))
    obtain ⟨W5, hW5⟩ : ∃ W5, five w.heap.size w3 (.int .u8 2) (.int .i64 0) (.string ⟨text.toArray⟩) (.slice none 0 0) (.bool false) = W5 := ⟨_, rfl⟩
    rw [hW5] at h5 o5 s5 b5 ⊢
    clear hW5 z0 z1 z2 z3 z4 zf0 zf1 zf2 zf3 zf4
    obtain ⟨y0, y1, y2, y3, y4, _⟩ := cells5 h5
    refine ⟨.agg #[.int .u8 2, .int .i64 0, .string ⟨text.toArray⟩, .slice none 0 0, .bool false], by simp [results, Tryz.results64, go_sem, y0, y1, y2, y3, y4], ?_⟩
    refine ⟨(HB3.out.b (Nat.le_refl _)).trans b5, 2, 0, text, .nil, false, _, rfl, rfl, ?_, Tree.nil _ _⟩
    rw [show T - ts'.length = i + 1 by omega]
    exact hr3.kept (o5 _ (by omega))

set_option maxRecDepth 100000 in
set_option maxHeartbeats 4000000 in
theorem datum_leaf7 {rb tb T cap : Nat} {xs : List (Tok × Int)} (w : World) (i o c : Nat) (text : List UInt8) (n pos er : Int) (ts' : List Tok) (hA : At rb tb T cap xs w i o c (⟨7, text, n, pos⟩ :: ts')) (hx : xs[i]? = some (⟨7, text, n, pos⟩, er)) (hl' : ts'.length + i + 1 = T) :
    Calls Tryz.prog 64 #[.pointer (some ⟨rb, 0, none⟩)] w (PostD w.heap.size rb tb T cap o w (rdf 0 (⟨7, text, n, pos⟩ :: ts') o c)) := by
  have HA : Hid (At rb tb T cap xs w i o c (⟨7, text, n, pos⟩ :: ts')) := hA
  have Hx : Hid _ := hx
  have hlt := hA.reader.lt
  have hc1 := hA.hc
  clear hA hx
  by_cases hc : 10000 < c + 1
  · have hR : rdf 0 (⟨7, text, n, pos⟩ :: ts') o c = .bad 62 pos := by rw [rdf_one]; simp [one, isLeaf, hc]
    rw [hR]
    clear hR
    go_enter_defers Tryz.func64, Tryz.ntmps64
    go_wp2_with fail
    refine (take_any rb tb T cap i o c xs _ _ (HA.out.alloc _).reader HA.out.hT (by have := HA.out.hTm; omega) (HA.out.alloc _).row Hx.out).mono ?_
    rintro e w1 ⟨rfl, hr1, hb1⟩
    have hl1 := hr1.lt
    go_wp2_with fail
    refine (add_bad rb tb T cap (i + 1) o c 1 ⟨7, text, n, pos⟩ _ (hr1.kept (Below.heap_alloc _ _ _ hl1)) hc1 (by omega) hc).mono ?_
    rintro e w2 ⟨rfl, hb2, hr2⟩
    go_wp2_with fail
    exact ⟨((((But.refl _ _).alloc _).trans hb1).alloc _ |>.trans hb2).b (Nat.le_refl _), rfl, _, _, hr2⟩
  · have hR : rdf 0 (⟨7, text, n, pos⟩ :: ts') o c = .ok (.cons 3 0 [] .nil false .nil) false ts' (c + 1) := by rw [rdf_one]; simp [one, isLeaf, leafOf]; omega
    rw [hR]
    clear hR
    go_enter_defers Tryz.func64, Tryz.ntmps64
    go_wp2_with fail
    refine (take_any rb tb T cap i o c xs _ _ (HA.out.alloc _).reader HA.out.hT (by have := HA.out.hTm; omega) (HA.out.alloc _).row Hx.out).mono ?_
    rintro e' w1 ⟨rfl, hr1, hb1⟩
    have hl1 := hr1.lt
    have q1 : w1.heap[w.heap.size]? = some Z5 := (hb1.block _ (by simp) (by omega)).trans (World.alloc_heap_new _ _)
    go_wp2_with fail
    refine (add_ok rb tb T cap (i + 1) o c 1 ⟨7, text, n, pos⟩ _ (hr1.kept (Below.heap_alloc _ _ _ hl1)) hc1 (by omega) hc).mono ?_
    rintro e' w2 ⟨⟨v, rfl⟩, hb2, hr2⟩
    have B2 : But rb w w2 := (((But.refl _ _).alloc _).trans hb1).alloc _ |>.trans hb2
    have hlq := (Array.getElem?_eq_some_iff.1 q1).1
    have q2 : w2.heap[w.heap.size]? = some Z5 := (hb2.block _ (by simp; omega) (by omega)).trans ((Below.heap_alloc _ _ _ hlq).trans q1)
    have HB2 : Hid (But rb w w2) := B2
    have hb1l := hb1.size
    have tk := World.alloc_heap_new w1 (.cells #[.int .u8 7, S text, .int .i64 n, .int .i64 pos] 71)
    have tk2 := (hb2.block w1.heap.size (by simp) (by omega)).trans tk
    have tx1 : w2.cell? ⟨w1.heap.size, 1, none⟩ = some (S text) := by simp [World.cell?, tk2]
    have tx2 : w2.cell? ⟨w1.heap.size, 2, none⟩ = some (.int .i64 n) := by simp [World.cell?, tk2]
    clear tk tk2
    clear hb1 hb2 hr1 q1 hlq B2
    obtain ⟨z0, z1, z2, z3, z4, zf⟩ := cells5 q2
    have zf0 := zf 0
    have zf1 := zf 1
    have zf2 := zf 2
    have zf3 := zf 3
    have zf4 := zf 4
    have HQ3 : Hid _ := q2
    clear q2 zf
    go_wp2_with fail
    have h5 := five_at HQ3.out (.int .u8 3) (.int .i64 0) (.string ⟨#[]⟩) (.slice none 0 0) (.bool false)
    have o5 : ∀ g, g ≠ w.heap.size → (five w.heap.size w2 (.int .u8 3) (.int .i64 0) (.string ⟨#[]⟩) (.slice none 0 0) (.bool false)).heap[g]? = w2.heap[g]? := fun g hg => five_other hg _ _ _ _ _
    have s5 : (five w.heap.size w2 (.int .u8 3) (.int .i64 0) (.string ⟨#[]⟩) (.slice none 0 0) (.bool false)).heap.size = w2.heap.size := five_size _ _ _ _ _
    have b5 : ButB w.heap.size rb w2 (five w.heap.size w2 (.int .u8 3) (.int .i64 0) (.string ⟨#[]⟩) (.slice none 0 0) (.bool false)) := ⟨rfl, rfl, rfl, by omega, fun g hg _ => o5 g (by omega)⟩
    change bodyPostD _ _ _ _ _ (five w.heap.size w2 (.int .u8 3) (.int .i64 0) (.string ⟨#[]⟩) (.slice none 0 0) (.bool false))
    obtain ⟨W5, hW5⟩ : ∃ W5, five w.heap.size w2 (.int .u8 3) (.int .i64 0) (.string ⟨#[]⟩) (.slice none 0 0) (.bool false) = W5 := ⟨_, rfl⟩
    rw [hW5] at h5 o5 s5 b5 ⊢
    clear hW5 z0 z1 z2 z3 z4 zf0 zf1 zf2 zf3 zf4
    obtain ⟨y0, y1, y2, y3, y4, _⟩ := cells5 h5
    refine ⟨.agg #[.int .u8 3, .int .i64 0, .string ⟨#[]⟩, .slice none 0 0, .bool false], by simp [results, Tryz.results64, go_sem, y0, y1, y2, y3, y4], ?_⟩
    refine ⟨(HB2.out.b (Nat.le_refl _)).trans b5, 3, 0, [], .nil, false, _, rfl, rfl, ?_, Tree.nil _ _⟩
    rw [show T - ts'.length = i + 1 by omega]
    exact hr2.kept (o5 _ (by omega))

set_option maxRecDepth 100000 in
set_option maxHeartbeats 4000000 in
theorem datum_leaf8 {rb tb T cap : Nat} {xs : List (Tok × Int)} (w : World) (i o c : Nat) (text : List UInt8) (n pos er : Int) (ts' : List Tok) (hA : At rb tb T cap xs w i o c (⟨8, text, n, pos⟩ :: ts')) (hx : xs[i]? = some (⟨8, text, n, pos⟩, er)) (hl' : ts'.length + i + 1 = T) :
    Calls Tryz.prog 64 #[.pointer (some ⟨rb, 0, none⟩)] w (PostD w.heap.size rb tb T cap o w (rdf 0 (⟨8, text, n, pos⟩ :: ts') o c)) := by
  have HA : Hid (At rb tb T cap xs w i o c (⟨8, text, n, pos⟩ :: ts')) := hA
  have Hx : Hid _ := hx
  have hlt := hA.reader.lt
  have hc1 := hA.hc
  clear hA hx
  by_cases hc : 10000 < c + 1
  · have hR : rdf 0 (⟨8, text, n, pos⟩ :: ts') o c = .bad 62 pos := by rw [rdf_one]; simp [one, isLeaf, hc]
    rw [hR]
    clear hR
    go_enter_defers Tryz.func64, Tryz.ntmps64
    go_wp2_with fail
    refine (take_any rb tb T cap i o c xs _ _ (HA.out.alloc _).reader HA.out.hT (by have := HA.out.hTm; omega) (HA.out.alloc _).row Hx.out).mono ?_
    rintro e w1 ⟨rfl, hr1, hb1⟩
    have hl1 := hr1.lt
    go_wp2_with fail
    refine (add_bad rb tb T cap (i + 1) o c 1 ⟨8, text, n, pos⟩ _ (hr1.kept (Below.heap_alloc _ _ _ hl1)) hc1 (by omega) hc).mono ?_
    rintro e w2 ⟨rfl, hb2, hr2⟩
    go_wp2_with fail
    exact ⟨((((But.refl _ _).alloc _).trans hb1).alloc _ |>.trans hb2).b (Nat.le_refl _), rfl, _, _, hr2⟩
  · have hR : rdf 0 (⟨8, text, n, pos⟩ :: ts') o c = .ok (.cons 4 0 [] .nil false .nil) false ts' (c + 1) := by rw [rdf_one]; simp [one, isLeaf, leafOf]; omega
    rw [hR]
    clear hR
    go_enter_defers Tryz.func64, Tryz.ntmps64
    go_wp2_with fail
    refine (take_any rb tb T cap i o c xs _ _ (HA.out.alloc _).reader HA.out.hT (by have := HA.out.hTm; omega) (HA.out.alloc _).row Hx.out).mono ?_
    rintro e' w1 ⟨rfl, hr1, hb1⟩
    have hl1 := hr1.lt
    have q1 : w1.heap[w.heap.size]? = some Z5 := (hb1.block _ (by simp) (by omega)).trans (World.alloc_heap_new _ _)
    go_wp2_with fail
    refine (add_ok rb tb T cap (i + 1) o c 1 ⟨8, text, n, pos⟩ _ (hr1.kept (Below.heap_alloc _ _ _ hl1)) hc1 (by omega) hc).mono ?_
    rintro e' w2 ⟨⟨v, rfl⟩, hb2, hr2⟩
    have B2 : But rb w w2 := (((But.refl _ _).alloc _).trans hb1).alloc _ |>.trans hb2
    have hlq := (Array.getElem?_eq_some_iff.1 q1).1
    have q2 : w2.heap[w.heap.size]? = some Z5 := (hb2.block _ (by simp; omega) (by omega)).trans ((Below.heap_alloc _ _ _ hlq).trans q1)
    have HB2 : Hid (But rb w w2) := B2
    have hb1l := hb1.size
    have tk := World.alloc_heap_new w1 (.cells #[.int .u8 8, S text, .int .i64 n, .int .i64 pos] 71)
    have tk2 := (hb2.block w1.heap.size (by simp) (by omega)).trans tk
    have tx1 : w2.cell? ⟨w1.heap.size, 1, none⟩ = some (S text) := by simp [World.cell?, tk2]
    have tx2 : w2.cell? ⟨w1.heap.size, 2, none⟩ = some (.int .i64 n) := by simp [World.cell?, tk2]
    clear tk tk2
    clear hb1 hb2 hr1 q1 hlq B2
    obtain ⟨z0, z1, z2, z3, z4, zf⟩ := cells5 q2
    have zf0 := zf 0
    have zf1 := zf 1
    have zf2 := zf 2
    have zf3 := zf 3
    have zf4 := zf 4
    have HQ3 : Hid _ := q2
    clear q2 zf
    go_wp2_with fail
    have h5 := five_at HQ3.out (.int .u8 4) (.int .i64 0) (.string ⟨#[]⟩) (.slice none 0 0) (.bool false)
    have o5 : ∀ g, g ≠ w.heap.size → (five w.heap.size w2 (.int .u8 4) (.int .i64 0) (.string ⟨#[]⟩) (.slice none 0 0) (.bool false)).heap[g]? = w2.heap[g]? := fun g hg => five_other hg _ _ _ _ _
    have s5 : (five w.heap.size w2 (.int .u8 4) (.int .i64 0) (.string ⟨#[]⟩) (.slice none 0 0) (.bool false)).heap.size = w2.heap.size := five_size _ _ _ _ _
    have b5 : ButB w.heap.size rb w2 (five w.heap.size w2 (.int .u8 4) (.int .i64 0) (.string ⟨#[]⟩) (.slice none 0 0) (.bool false)) := ⟨rfl, rfl, rfl, by omega, fun g hg _ => o5 g (by omega)⟩
    change bodyPostD _ _ _ _ _ (five w.heap.size w2 (.int .u8 4) (.int .i64 0) (.string ⟨#[]⟩) (.slice none 0 0) (.bool false))
    obtain ⟨W5, hW5⟩ : ∃ W5, five w.heap.size w2 (.int .u8 4) (.int .i64 0) (.string ⟨#[]⟩) (.slice none 0 0) (.bool false) = W5 := ⟨_, rfl⟩
    rw [hW5] at h5 o5 s5 b5 ⊢
    clear hW5 z0 z1 z2 z3 z4 zf0 zf1 zf2 zf3 zf4
    obtain ⟨y0, y1, y2, y3, y4, _⟩ := cells5 h5
    refine ⟨.agg #[.int .u8 4, .int .i64 0, .string ⟨#[]⟩, .slice none 0 0, .bool false], by simp [results, Tryz.results64, go_sem, y0, y1, y2, y3, y4], ?_⟩
    refine ⟨(HB2.out.b (Nat.le_refl _)).trans b5, 4, 0, [], .nil, false, _, rfl, rfl, ?_, Tree.nil _ _⟩
    rw [show T - ts'.length = i + 1 by omega]
    exact hr2.kept (o5 _ (by omega))

set_option maxRecDepth 100000 in
set_option maxHeartbeats 4000000 in
theorem datum_other {rb tb T cap : Nat} {xs : List (Tok × Int)} (w : World) (i o c : Nat) (x : Tok × Int) (ts' : List Tok) (hA : At rb tb T cap xs w i o c (x.1 :: ts')) (hx : xs[i]? = some x)
    (h1 : ¬ x.1.kind = 1) (h3 : ¬ x.1.kind = 3) (h5 : ¬ x.1.kind = 5) (h6 : ¬ x.1.kind = 6) (h7 : ¬ x.1.kind = 7) (h8 : ¬ x.1.kind = 8) :
    Calls Tryz.prog 64 #[.pointer (some ⟨rb, 0, none⟩)] w (PostD w.heap.size rb tb T cap o w (rdf 0 (x.1 :: ts') o c)) := by
  have HA : Hid (At rb tb T cap xs w i o c (x.1 :: ts')) := hA
  have Hx : Hid _ := hx
  have hlt := hA.reader.lt
  clear hA hx
  have b1 : (x.1.kind == 1) = false := beq_eq_false_iff_ne.2 h1
  have b3 : (x.1.kind == 3) = false := beq_eq_false_iff_ne.2 h3
  have b5 : (x.1.kind == 5) = false := beq_eq_false_iff_ne.2 h5
  have b6 : (x.1.kind == 6) = false := beq_eq_false_iff_ne.2 h6
  have b7 : (x.1.kind == 7) = false := beq_eq_false_iff_ne.2 h7
  have b8 : (x.1.kind == 8) = false := beq_eq_false_iff_ne.2 h8
  have hR : rdf 0 (x.1 :: ts') o c = .bad 60 x.1.pos := by rw [rdf_one]; simp [one, isLeaf, h1, h3, h5, h6, h7, h8]
  rw [hR]
  clear hR h1 h3 h5 h6 h7 h8
  go_enter_defers Tryz.func64, Tryz.ntmps64
  go_wp2_with fail
  refine (take_any rb tb T cap i o c xs _ _ (HA.out.alloc _).reader HA.out.hT (by have := HA.out.hTm; omega) (HA.out.alloc _).row Hx.out).mono ?_
  rintro e w1 ⟨rfl, hr1, hb1⟩
  have hl1 := hr1.lt
  go_wp2_with fail
  exact ⟨((((But.refl _ _).alloc _).trans hb1).alloc _).b (Nat.le_refl _), rfl, _, _, hr1.kept (Below.heap_alloc _ _ _ hl1)⟩
end Go.Proofs.YtlpdfifjdlfpdaaGreatDoor
