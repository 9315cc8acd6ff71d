/- The document's reader: what a call of it ends in. -/
import Derived.Test.YtlpdfifjdlfpdaaGreatDoorHDocRdr
namespace Go.Proofs.YtlpdfifjdlfpdaaGreatDoor
open Go.RowKit

/-- Where the document's reader stands. -/
structure AtQ (rb tb T cap : Nat) (xs : List (Tok × Int)) (w : World) (i o c : Nat) (ts : List Tok) : Prop where
  reader : Rn w rb tb T cap i o c
  row : TRow w tb xs
  toks : (xs.drop i).map Prod.fst = ts
  ended : Ended ts
  ho : o ≤ 100
  hc : c ≤ 10000
  ne : rb ≠ tb
  hT : xs.length = T
  hTm : T ≤ 100000
  kinds : ∀ x ∈ xs, 1 ≤ x.1.kind ∧ x.1.kind ≤ 9
theorem AtQ.head {rb tb T cap : Nat} {xs : List (Tok × Int)} {w : World} {i o c : Nat} {ts : List Tok} (h : AtQ rb tb T cap xs w i o c ts) : ∃ x ts', xs[i]? = some x ∧ ts = x.1 :: ts' ∧ (xs.drop (i + 1)).map Prod.fst = ts' ∧ ts'.length + i + 1 = T ∧ 1 ≤ x.1.kind ∧ x.1.kind ≤ 9 := by
  have hne : xs.drop i ≠ [] := fun e => h.ended.ne (by rw [← h.toks, e]; rfl)
  have hi : i < xs.length := by
    rcases Nat.lt_or_ge i xs.length with h' | h'
    · exact h'
    · exact absurd (List.drop_eq_nil_of_le h') hne
  refine ⟨xs[i], (xs.drop (i + 1)).map Prod.fst, List.getElem?_eq_getElem hi, ?_, rfl, ?_, h.kinds _ (List.getElem_mem hi)⟩
  · rw [← h.toks, List.drop_eq_getElem_cons hi]; rfl
  · rw [List.length_map, List.length_drop, ← h.hT]; omega
theorem AtQ.moved {rb tb T cap : Nat} {xs : List (Tok × Int)} {w w' : World} {i o c i' o' c' : Nat} {ts ts' : List Tok} (h : AtQ rb tb T cap xs w i o c ts) (hr : Rn w' rb tb T cap i' o' c') (hb : w'.heap[tb]? = w.heap[tb]?) (hs : w.heap.size ≤ w'.heap.size)
    (ht : (xs.drop i').map Prod.fst = ts') (he : Ended ts') (ho : o' ≤ 100) (hc : c' ≤ 10000) : AtQ rb tb T cap xs w' i' o' c' ts' := ⟨hr, h.row.kept hb hs, ht, he, ho, hc, h.ne, h.hT, h.hTm, h.kinds⟩
theorem AtQ.same {rb tb T cap : Nat} {xs : List (Tok × Int)} {w w' : World} {i o c : Nat} {ts : List Tok} (h : AtQ rb tb T cap xs w i o c ts) (hb : Below w.heap.size w w') : AtQ rb tb T cap xs w' i o c ts :=
  h.moved (h.reader.kept (hb.block _ h.reader.lt)) (hb.block _ h.row.1) hb.size h.toks h.ended h.ho h.hc
theorem AtQ.alloc {rb tb T cap : Nat} {xs : List (Tok × Int)} {w : World} {i o c : Nat} {ts : List Tok} (h : AtQ rb tb T cap xs w i o c ts) (x : Obj) : AtQ rb tb T cap xs (w.alloc x) i o c ts := h.same ((Below.refl _ _).alloc (Nat.le_refl _) _)
theorem AtQ.drew {rb tb T cap : Nat} {xs : List (Tok × Int)} {w : World} {i o c : Nat} {ts : List Tok} (h : AtQ rb tb T cap xs w i o c ts) : AtQ rb tb T cap xs w.drew i o c ts := h.same (Below.refl _ _).drew
/-- What is left of the tokens behind a reading. -/
theorem AtQ.rest {rb tb T cap : Nat} {xs : List (Tok × Int)} {w : World} {i o c : Nat} {ts q r : List Tok} (h : AtQ rb tb T cap xs w i o c ts) (e : ts = q ++ r) : (xs.drop (T - r.length)).map Prod.fst = r ∧ T - r.length = i + q.length := by
  have hl : ts.length = T - i := by rw [← h.toks, List.length_map, List.length_drop, h.hT]
  have hne : 0 < ts.length := List.length_pos_iff.2 h.ended.ne
  have hq : ts.length = q.length + r.length := by rw [e, List.length_append]
  have e2 : T - r.length = i + q.length := by omega
  refine ⟨?_, e2⟩
  rw [e2, ← List.drop_drop, List.map_drop, h.toks, e]
  simp

/-- What a call of the document's reader ends in; L: at most so many kids where an error is met. -/
def PostQ (base rb tb T cap o L : Nat) (w : World) : Res → Ending → World → Prop
  | .ok f _ r c', e, w' => ButB base rb w w' ∧ ∃ k n t s d kv, f = .cons k n t s d .nil ∧ e = .returned (.agg #[.int .u8 k, .int .i64 n, S t, kv, .bool d]) ∧ Rn w' rb tb T cap (T - r.length) o c' ∧ Tree w' base kv s
  | .bad er p, e, w' => ButB base rb w w' ∧ ∃ k n t s d kv, e = .returned (.agg #[.int .u8 k, .int .i64 n, S t, kv, .bool d]) ∧ Rx w' rb er p ∧ Tree w' base kv s ∧ s.len ≤ L
def DocD (rb tb T cap : Nat) (xs : List (Tok × Int)) (N : Nat) : Prop := ∀ (w : World) (i o c : Nat) (ts : List Tok), AtQ rb tb T cap xs w i o c ts → ts.length ≤ N →
  Calls Tryz.prog 22 #[.pointer (some ⟨rb, 0, none⟩)] w (PostQ w.heap.size rb tb T cap o ts.length w (rdf 0 ts o c))
def DocL (rb tb T cap : Nat) (xs : List (Tok × Int)) (N : Nat) : Prop := ∀ (w : World) (i o c : Nat) (t : Tok) (ts : List Tok), t.kind = 1 → AtQ rb tb T cap xs w i o c (t :: ts) → ts.length ≤ N →
  Calls Tryz.prog 58 #[.pointer (some ⟨rb, 0, none⟩)] w (PostQ w.heap.size rb tb T cap o (ts.length + 1) w (rdf 0 (t :: ts) o c))
theorem Re.rx {W : World} {rb g : Nat} {sl : Value} {i o c e p : Int} (h : Re W rb g sl i o c e p) : Rx W rb e p := ⟨g, sl, i, o, c, h⟩

abbrev T4 (k : Int) (x : Tok) : Obj := .cells #[.int .u8 k, S x.text, .int .i64 x.n, .int .i64 x.pos] 71
theorem but2 (rb : Nat) (w : World) (a b : Obj) : But rb w ((w.alloc a).alloc b).drew := (((But.refl rb w).alloc _).alloc _).drew
theorem at_z5 {rb : Nat} {w w1 : World} {tk : Obj} (hlt : rb < w.heap.size) (hb : But rb ((w.alloc Z5).alloc tk).drew w1) : w1.heap[w.heap.size]? = some Z5 :=
  (hb.block _ (show w.heap.size < ((w.alloc Z5).alloc tk).heap.size by simp; omega) (by omega)).trans ((Below.heap_alloc (w.alloc Z5) tk _ (by simp)).trans (World.alloc_heap_new w Z5))
theorem at_t4 {rb : Nat} {w w1 : World} {z : Obj} {k : Int} {x : Tok} (hlt : rb < w.heap.size) (hb : But rb ((w.alloc z).alloc (T4 k x)).drew w1) : w1.heap[w.heap.size + 1]? = some (.cells #[.int .u8 k, S x.text, .int .i64 x.n, .int .i64 x.pos] 71 (0, 0)) := by
  refine (hb.block _ (show w.heap.size + 1 < ((w.alloc z).alloc (T4 k x)).heap.size by simp) (by omega)).trans ?_
  have := World.alloc_heap_new (w.alloc z) (T4 k x)
  rwa [World.size_alloc] at this
theorem cells4t {W : World} {b : Nat} {a0 a1 a2 a3 : Value} {t : TypeId} (h : W.heap[b]? = some (.cells #[a0, a1, a2, a3] t (0, 0))) :
    W.cell? ⟨b, 0, none⟩ = some a0 ∧ W.cell? ⟨b, 1, none⟩ = some a1 ∧ W.cell? ⟨b, 2, none⟩ = some a2 ∧ W.cell? ⟨b, 3, none⟩ = some a3 := by
  refine ⟨?_, ?_, ?_, ?_⟩ <;> simp [World.cell?, h]

set_option maxRecDepth 100000 in
set_option maxHeartbeats 4000000 in
theorem doc_bad {rb tb T cap : Nat} {xs : List (Tok × Int)} (w : World) (i o c : Nat) (x : Tok × Int) (ts : List Tok) (hA : AtQ rb tb T cap xs w i o c (x.1 :: ts)) (hx : xs[i]? = some x) (hk : x.1.kind = 2 ∨ x.1.kind = 4 ∨ x.1.kind = 9) :
    Calls Tryz.prog 22 #[.pointer (some ⟨rb, 0, none⟩)] w (PostQ w.heap.size rb tb T cap o (ts.length + 1) w (rdf 0 (x.1 :: ts) o c)) := by
  have hR : rdf 0 (x.1 :: ts) o c = .bad 60 x.1.pos := by
    rw [rdf_one]; unfold one
    rcases hk with h | h | h <;> simp [h, isLeaf]
  rw [hR]
  clear hR
  obtain ⟨k0, k1, k2, k3⟩ := hA.row.2 i x hx
  have c0 := hA.reader.c0
  have c1 := hA.reader.c1
  have hT := hA.hTm
  have hi : i < T := by rw [← hA.hT]; exact (List.getElem?_eq_some_iff.1 hx).1
  have hi' : (i : Int) < (T : Int) := by omega
  have hlt := hA.reader.lt
  have htb := hA.row.1
  have l1 : rb < w.heap.size + 1 := by omega
  have l2 : tb < w.heap.size + 1 := by omega
  have l3 : rb < w.heap.size + 1 + 1 := by omega
  have l4 : tb < w.heap.size + 1 + 1 := by omega
  have HA : Hid (AtQ rb tb T cap xs w i o c (x.1 :: ts)) := hA
  have HX : Hid (xs[i]? = some x) := hx
  clear hA hx
  obtain ⟨kk, hkk⟩ : ∃ kk, x.1.kind = kk := ⟨_, rfl⟩
  rw [hkk] at k0 hk
  rcases hk with rfl | rfl | rfl
  all_goals
    go_enter Tryz.func22, Tryz.ntmps22
    go_wp2_with fail
    go_region
    go_wp2_with fail
    refine (fails_new rb tb T cap i o c 60 xs x _ ((HA.out.alloc _).alloc _).drew.reader HA.out.hT (by omega) ((HA.out.alloc _).alloc _).drew.row HX.out).mono ?_
    rintro en w1 ⟨⟨v, rfl⟩, hb, g, hg⟩
    have q := at_z5 hlt hb
    obtain ⟨z0, z1, z2, z3, z4, zf⟩ := cells5 q
    have zf0 := zf 0
    have zf1 := zf 1
    have zf2 := zf 2
    have zf3 := zf 3
    have zf4 := zf 4
    have HQ : Hid _ := q
    have HB : Hid (But rb w w1) := (but2 rb w _ _).trans hb
    have HG : Hid _ := hg
    clear q hb hg zf
    go_wp2_with fail
    refine bodyPost_five (s := 2) rfl rfl rfl HQ.out fun W5 o5 b5 => ?_
    exact ⟨(HB.out.b (Nat.le_refl _)).trans (b5 _ _ (Nat.le_refl _)), 0, 0, [], .nil, false, _, rfl, (HG.out.kept (o5 _ (by omega)) (o5 _ (fun e => by have := HG.out.wrong; rw [e, HQ.out] at this; simp at this))).rx, Tree.nil _ _, Nat.zero_le _⟩

def kdOf (x : Tok) : Int := x.kind - 4
set_option maxRecDepth 100000 in
set_option maxHeartbeats 8000000 in
theorem doc_leaf {rb tb T cap : Nat} {xs : List (Tok × Int)} (w : World) (i o c : Nat) (x : Tok × Int) (ts : List Tok) (hA : AtQ rb tb T cap xs w i o c (x.1 :: ts)) (hx : xs[i]? = some x) (hlen : ts.length + i + 1 = T) (hk : x.1.kind = 5 ∨ x.1.kind = 6 ∨ x.1.kind = 7 ∨ x.1.kind = 8) :
    Calls Tryz.prog 22 #[.pointer (some ⟨rb, 0, none⟩)] w (PostQ w.heap.size rb tb T cap o (ts.length + 1) w (rdf 0 (x.1 :: ts) o c)) := by
  have hR : rdf 0 (x.1 :: ts) o c = if 10000 < c + 1 then .bad 62 x.1.pos else .ok (leafOf x.1) false ts (c + 1) := by
    rw [rdf_one]; unfold one
    rcases hk with h | h | h | h <;> simp [h, isLeaf]
  rw [hR]
  clear hR
  obtain ⟨k0, k1, k2, k3⟩ := hA.row.2 i x hx
  have c0 := hA.reader.c0
  have c1 := hA.reader.c1
  have hT := hA.hTm
  have hi : i < T := by rw [← hA.hT]; exact (List.getElem?_eq_some_iff.1 hx).1
  have hi' : (i : Int) < (T : Int) := by omega
  have hlt := hA.reader.lt
  have htb := hA.row.1
  have l1 : rb < w.heap.size + 1 := by omega
  have l2 : tb < w.heap.size + 1 := by omega
  have l3 : rb < w.heap.size + 1 + 1 := by omega
  have l4 : tb < w.heap.size + 1 + 1 := by omega
  have n1 : ¬ w.heap.size = rb := by omega
  have n2 : ¬ w.heap.size + 1 = rb := by omega
  have n1' : ¬ rb = w.heap.size := by omega
  have n2' : ¬ rb = w.heap.size + 1 := by omega
  have HA : Hid (AtQ rb tb T cap xs w i o c (x.1 :: ts)) := hA
  have HX : Hid (xs[i]? = some x) := hx
  have hc1 := hA.hc
  clear hA hx
  obtain ⟨kk, hkk⟩ : ∃ kk, x.1.kind = kk := ⟨_, rfl⟩
  have HK : Hid _ := hkk
  rw [hkk] at k0 hk
  clear hkk
  by_cases hc : 10000 < c + 1
  · rw [if_pos hc]
    rcases hk with rfl | rfl | rfl | rfl
    all_goals
      go_enter Tryz.func22, Tryz.ntmps22
      go_wp2_with fail
      go_region
      go_wp2_with fail
      refine (counts_new rb tb T cap i o c 1 xs x _ ((HA.out.alloc _).alloc _).drew.reader hc1 (by omega) hc HA.out.hT (by omega) ((HA.out.alloc _).alloc _).drew.row HA.out.ne HX.out).mono ?_
      rintro en w1 ⟨⟨v, rfl⟩, hb, g, hg⟩
      have q := at_z5 hlt hb
      obtain ⟨z0, z1, z2, z3, z4, zf⟩ := cells5 q
      obtain ⟨t0, t1, t2, t3⟩ := cells4t (at_t4 hlt hb)
      have zf0 := zf 0
      have zf1 := zf 1
      have zf2 := zf 2
      have zf3 := zf 3
      have zf4 := zf 4
      have d1 := hg.c1
      have df := hg.fr 1
      have HQ : Hid _ := q
      have HB : Hid (But rb w w1) := (but2 rb w _ _).trans hb
      have HG : Hid _ := hg
      clear q hb hg zf
      go_wp2_with fail
      refine bodyPost_five (s := 2) rfl rfl rfl ((Below.heap_setCell _ _ _ _ (by show w.heap.size ≠ rb; omega)).trans HQ.out) fun W5 o5 b5 => ?_
      exact ⟨((HB.out.set _).b (Nat.le_refl _)).trans (b5 _ _ (Nat.le_refl _)), _, _, _, .nil, false, _, rfl, ((HG.out.set1 _).kept (o5 _ (by omega)) (o5 _ (fun e => by have := HG.out.wrong; rw [e, HQ.out] at this; simp at this))).rx, Tree.nil _ _, Nat.zero_le _⟩
  · rw [if_neg hc]
    rcases hk with rfl | rfl | rfl | rfl
    all_goals
      go_enter Tryz.func22, Tryz.ntmps22
      go_wp2_with fail
      go_region
      go_wp2_with fail
      refine (counts_ok rb tb T cap i o c 1 _ ((HA.out.alloc _).alloc _).drew.reader (by omega)).mono ?_
      rintro en w1 ⟨⟨v, rfl⟩, hb, hg⟩
      have q := at_z5 hlt hb
      obtain ⟨z0, z1, z2, z3, z4, zf⟩ := cells5 q
      obtain ⟨t0, t1, t2, t3⟩ := cells4t (at_t4 hlt hb)
      have zf0 := zf 0
      have zf1 := zf 1
      have zf2 := zf 2
      have zf3 := zf 3
      have zf4 := zf 4
      have d1 := hg.c1
      have df := hg.fr 1
      have HQ : Hid _ := q
      have HB : Hid (But rb w w1) := (but2 rb w _ _).trans hb
      have HG : Hid _ := hg
      clear q hb hg zf
      go_wp2_with fail
      refine bodyPost_five (s := 2) rfl rfl rfl ((Below.heap_setCell _ _ _ _ (by show w.heap.size ≠ rb; omega)).trans HQ.out) fun W5 o5 b5 => ?_
      refine ⟨((HB.out.set _).b (Nat.le_refl _)).trans (b5 _ _ (Nat.le_refl _)), _, _, _, .nil, false, _, by unfold leafOf; rw [HK.out]; rfl, rfl, ?_, Tree.nil _ _⟩
      rw [show T - ts.length = i + 1 by omega]
      exact (HG.out.set1 (i + 1)).kept (o5 _ (by omega))
end Go.Proofs.YtlpdfifjdlfpdaaGreatDoor
