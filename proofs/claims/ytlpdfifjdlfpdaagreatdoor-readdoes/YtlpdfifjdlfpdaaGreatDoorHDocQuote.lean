/- The document's reader: a list's, and a quote's datum. -/
import Derived.Test.YtlpdfifjdlfpdaaGreatDoorHDocC
import Derived.Test.YtlpdfifjdlfpdaaGreatDoorGF
namespace Go.Proofs.YtlpdfifjdlfpdaaGreatDoor
open Go.RowKit

theorem rx_kept {W W' : World} {rb b e p : _} {v0 v1 v2 v3 v4 : Value} (h : Rx W rb e p) (hb : W.heap[b]? = some (.cells #[v0, v1, v2, v3, v4] 58 (0, 0))) (hne : rb ≠ b) (o5 : ∀ g, g ≠ b → W'.heap[g]? = W.heap[g]?) : Rx W' rb e p := by
  obtain ⟨g, sl, i, o, c, h⟩ := h
  exact ⟨g, sl, i, o, c, h.kept (o5 _ hne) (o5 _ (fun e => by have := h.wrong; rw [e, hb] at this; simp at this))⟩

/-- A function whose result lies in five cells, at its end; two new blocks besides. -/
theorem bodyPost_five2 {fn : Func} {R : Ending → World → Prop} {a : Act} {s b : Nat} {w6 : World} {tk tr : Obj} {a0 a1 a2 a3 a4 v0 v1 v2 v3 v4 : Value} (hres : fn.results = #[.cell s 58]) (hs : a.tmps[s]? = some (.pointer (some ⟨b, 0, none⟩))) (hd : a.defers = [])
    (h : w6.heap[b]? = some (.cells #[a0, a1, a2, a3, a4] 58 (0, 0)))
    (hR : ∀ X : World, (∀ g, g < w6.heap.size → g ≠ b → X.heap[g]? = w6.heap[g]?) → X.heap.size = w6.heap.size + 1 → (∀ B rb, B ≤ b → ButB B rb w6 X) → R (.returned (.agg #[v0, v1, v2, v3, v4])) (X.alloc tr)) :
    bodyPost Tryz.prog fn R .ret a ((((((w6.setCell ⟨b, 0, none⟩ v0).setCell ⟨b, 1, none⟩ v1).setCell ⟨b, 2, none⟩ v2).setCell ⟨b, 3, none⟩ v3).setCell ⟨b, 4, none⟩ v4).alloc tk |>.alloc tr) := by
  have hlt := (Array.getElem?_eq_some_iff.1 h).1
  have h5 := five_at h v0 v1 v2 v3 v4
  have o5 : ∀ g, g ≠ b → (five b w6 v0 v1 v2 v3 v4).heap[g]? = w6.heap[g]? := fun g hg => five_other hg _ _ _ _ _
  have s5 : (five b w6 v0 v1 v2 v3 v4).heap.size = w6.heap.size := five_size _ _ _ _ _
  have b5 : ∀ B rb, B ≤ b → ButB B rb w6 (five b w6 v0 v1 v2 v3 v4) := fun B rb hB => (((((ButB.refl B rb w6).set hB v0).set hB v1).set hB v2).set hB v3).set hB v4
  unfold five at h5 o5 b5 s5
  generalize ((((w6.setCell ⟨b, 0, none⟩ v0).setCell ⟨b, 1, none⟩ v1).setCell ⟨b, 2, none⟩ v2).setCell ⟨b, 3, none⟩ v3).setCell ⟨b, 4, none⟩ v4 = W5 at h5 o5 b5 s5 ⊢
  have k : ∀ g, g < W5.heap.size → (W5.alloc tk).heap[g]? = W5.heap[g]? := fun g hg => Below.heap_alloc _ _ _ hg
  have k2 : ∀ g, g < W5.heap.size → ((W5.alloc tk).alloc tr).heap[g]? = W5.heap[g]? := fun g hg => (Below.heap_alloc _ _ _ (by simp; omega)).trans (k g hg)
  exact ⟨hd, _, results5 hres hs ((k2 b (by omega)).trans h5), hR _ (fun g hg hne => (k g (by omega)).trans (o5 g hne)) (by simp [s5]) (fun B rb hB => (b5 B rb hB).trans (((But.refl rb W5).alloc tk).b (by omega)))⟩
theorem quote_tree {X : World} {base : Nat} {k n : Int} {t : List UInt8} {s : Fo} {d : Bool} {kv : Value} (h : Tree X base kv s) (hb : base ≤ X.heap.size) :
    Tree (X.alloc (.cells #[.int .u8 2, .int .i64 0, .string ⟨#[113, 117, 111, 116, 101]⟩, .slice none 0 0, .bool false, .int .u8 k, .int .i64 n, S t, kv, .bool d] 58)) base (.slice (some ⟨X.heap.size, 0, none⟩) 2 2) (.cons 2 0 quoteT .nil false (.cons k n t s d .nil)) := by
  obtain ⟨cs, bs, ho, hr, hn⟩ := h.ex
  have R1 : Row X base (.cons 2 0 quoteT .nil false .nil) [.int .u8 2, .int .i64 0, S quoteT, .slice none 0 0, .bool false] (own1 (.slice none 0 0) ++ []) := Row.single (World.ownsRow_nil _ _ _ _) ⟨rfl, rfl⟩
  have R2 : Row X base (.cons k n t s d .nil) [.int .u8 k, .int .i64 n, S t, kv, .bool d] (own1 kv ++ bs) := Row.single ho hr
  exact tree_new (f := .cons 2 0 quoteT .nil false (.cons k n t s d .nil)) (R1.app R2) (by simpa [own1, Value.ownBlock] using hn) hb (by simp [Fo.len]) _ rfl

set_option maxRecDepth 100000 in
set_option maxHeartbeats 8000000 in
theorem doc_open {rb tb T cap : Nat} {xs : List (Tok × Int)} {N : Nat} (hL : DocL rb tb T cap xs N) (w : World) (i o c : Nat) (x : Tok × Int) (ts : List Tok) (hA : AtQ rb tb T cap xs w i o c (x.1 :: ts)) (hx : xs[i]? = some x) (hN : ts.length ≤ N) (hk : x.1.kind = 1) :
    Calls Tryz.prog 22 #[.pointer (some ⟨rb, 0, none⟩)] w (PostQ w.heap.size rb tb T cap o (ts.length + 1) w (rdf 0 (x.1 :: ts) o c)) := by
  obtain ⟨k0, k1, k2, k3⟩ := hA.row.2 i x hx
  have c0 := hA.reader.c0
  have c1 := hA.reader.c1
  have hT := hA.hTm
  have hi : i < T := by rw [← hA.hT]; exact (List.getElem?_eq_some_iff.1 hx).1
  have hi' : (i : Int) < (T : Int) := by omega
  have hlt := hA.reader.lt
  have htb := hA.row.1
  have l1 : rb < w.heap.size + 1 := by omega
  have l2 : tb < w.heap.size + 1 := by omega
  have l3 : rb < w.heap.size + 1 + 1 := by omega
  have l4 : tb < w.heap.size + 1 + 1 := by omega
  have HA : Hid (AtQ rb tb T cap xs w i o c (x.1 :: ts)) := hA
  have HL : Hid (DocL rb tb T cap xs N) := hL
  have HK : Hid (x.1.kind = 1) := hk
  clear hA hx hL
  rw [hk] at k0
  clear hk
  cases hX : rdf 0 (x.1 :: ts) o c with
  | bad e p =>
    have HX : Hid (rdf 0 (x.1 :: ts) o c = _) := hX
    clear hX
    go_enter Tryz.func22, Tryz.ntmps22
    go_wp2_with fail
    go_region
    go_wp2_with fail
    refine (HL.out _ i o c x.1 ts HK.out ((HA.out.alloc _).alloc _).drew hN).mono ?_
    rw [HX.out]
    rintro en w1 ⟨hb, k, n, t, s, d, kv, rfl, hr, hT1, hs1⟩
    obtain ⟨ra1, cap1, rfl⟩ := hT1.slice
    have q : w1.heap[w.heap.size]? = some Z5 := at_z5 hlt hb.but
    obtain ⟨z0, z1, z2, z3, z4, zf⟩ := cells5 q
    have zf0 := zf 0
    have zf1 := zf 1
    have zf2 := zf 2
    have zf3 := zf 3
    have zf4 := zf 4
    have HQ : Hid _ := q
    have HB : Hid (But rb w w1) := (but2 rb w _ _).trans hb.but
    have HR : Hid _ := hr
    have HT1 : Hid (Tree w1 (w.heap.size + 1 + 1) _ s) := hT1.mono (by simp)
    clear q hb hr hT1 zf
    go_wp2_with fail
    refine bodyPost_five (s := 2) rfl rfl rfl HQ.out fun W5 o5 b5 => ?_
    exact ⟨(HB.out.b (Nat.le_refl _)).trans (b5 _ _ (Nat.le_refl _)), k, n, t, s, d, _, rfl, rx_kept HR.out HQ.out (by omega) o5, (HT1.out.kept (fun g hg _ => o5 g (by omega))).mono (by omega), hs1⟩
  | ok f d r c' =>
    have HX : Hid (rdf 0 (x.1 :: ts) o c = _) := hX
    clear hX
    go_enter Tryz.func22, Tryz.ntmps22
    go_wp2_with fail
    go_region
    go_wp2_with fail
    refine (HL.out _ i o c x.1 ts HK.out ((HA.out.alloc _).alloc _).drew hN).mono ?_
    rw [HX.out]
    rintro en w1 ⟨hb, k, n, t, s, d, kv, rfl, rfl, hr, hT1⟩
    obtain ⟨ra1, cap1, rfl⟩ := hT1.slice
    have q : w1.heap[w.heap.size]? = some Z5 := at_z5 hlt hb.but
    obtain ⟨z0, z1, z2, z3, z4, zf⟩ := cells5 q
    have zf0 := zf 0
    have zf1 := zf 1
    have zf2 := zf 2
    have zf3 := zf 3
    have zf4 := zf 4
    have HQ : Hid _ := q
    have HB : Hid (But rb w w1) := (but2 rb w _ _).trans hb.but
    have HR : Hid _ := hr
    have HT1 : Hid (Tree w1 (w.heap.size + 1 + 1) _ s) := hT1.mono (by simp)
    clear q hb hr hT1 zf
    go_wp2_with fail
    refine bodyPost_five (s := 2) rfl rfl rfl HQ.out fun W5 o5 b5 => ?_
    exact ⟨(HB.out.b (Nat.le_refl _)).trans (b5 _ _ (Nat.le_refl _)), k, n, t, s, d, _, rfl, rfl, HR.out.kept (o5 _ (by omega)), (HT1.out.kept (fun g hg _ => o5 g (by omega))).mono (by omega)⟩

set_option maxRecDepth 100000 in
set_option maxHeartbeats 8000000 in
theorem doc_quote {rb tb T cap : Nat} {xs : List (Tok × Int)} {N : Nat} (hD : DocD rb tb T cap xs N) (w : World) (i o c : Nat) (x : Tok × Int) (ts : List Tok) (hA : AtQ rb tb T cap xs w i o c (x.1 :: ts)) (hx : xs[i]? = some x) (htl : (xs.drop (i + 1)).map Prod.fst = ts) (hN : ts.length ≤ N) (hk : x.1.kind = 3) :
    Calls Tryz.prog 22 #[.pointer (some ⟨rb, 0, none⟩)] w (PostQ w.heap.size rb tb T cap o (ts.length + 1) w (rdf 0 (x.1 :: ts) o c)) := by
  have hR : rdf 0 (x.1 :: ts) o c = if o = 100 then .bad 61 x.1.pos else if 10000 < c + 2 then .bad 62 x.1.pos else (rdf 0 ts (o + 1) (c + 2)).quote := by
    rw [rdf_one]; unfold one; simp [hk]
  rw [hR]
  clear hR
  obtain ⟨k0, k1, k2, k3⟩ := hA.row.2 i x hx
  have c0 := hA.reader.c0
  have c1 := hA.reader.c1
  have hT := hA.hTm
  have hi : i < T := by rw [← hA.hT]; exact (List.getElem?_eq_some_iff.1 hx).1
  have hi' : (i : Int) < (T : Int) := by omega
  have hlt := hA.reader.lt
  have htb := hA.row.1
  have hc1 := hA.hc
  have ho1 := hA.ho
  have l1 : rb < w.heap.size + 1 := by omega
  have l2 : tb < w.heap.size + 1 := by omega
  have l3 : rb < w.heap.size + 1 + 1 := by omega
  have l4 : tb < w.heap.size + 1 + 1 := by omega
  have n1 : ¬ w.heap.size = rb := by omega
  have n1' : ¬ rb = w.heap.size := by omega
  have hE : Ended ts := hA.ended.tail (by rw [hk]; decide)
  have hpos : 1 ≤ ts.length := List.length_pos_iff.2 hE.ne
  have HEd : Hid (Ended ts) := hE
  have HA : Hid (AtQ rb tb T cap xs w i o c (x.1 :: ts)) := hA
  have HD : Hid (DocD rb tb T cap xs N) := hD
  have HX : Hid (xs[i]? = some x) := hx
  have Htl : Hid ((xs.drop (i + 1)).map Prod.fst = ts) := htl
  clear hA hx hD htl hE
  rw [hk] at k0
  clear hk
  by_cases ho : o = 100
  · rw [if_pos ho]
    subst ho
    go_enter Tryz.func22, Tryz.ntmps22
    go_wp2_with fail
    go_region
    go_wp2_with fail
    refine (opens_deep rb tb T cap i c 2 xs x _ ((HA.out.alloc _).alloc _).drew.reader HA.out.hT (by omega) ((HA.out.alloc _).alloc _).drew.row HX.out).mono ?_
    rintro en w1 ⟨⟨v, rfl⟩, hb, g, o', c', hg⟩
    have q := at_z5 hlt hb
    obtain ⟨z0, z1, z2, z3, z4, zf⟩ := cells5 q
    have zf0 := zf 0
    have zf1 := zf 1
    have zf2 := zf 2
    have zf3 := zf 3
    have zf4 := zf 4
    have d1 := hg.c1
    have d4 := hg.c4
    have df := hg.fr 1
    have HQ : Hid _ := q
    have HB : Hid (But rb w w1) := (but2 rb w _ _).trans hb
    have HG : Hid _ := hg
    clear q hb hg zf
    go_wp2_with fail
    refine bodyPost_five (s := 2) rfl rfl rfl ((Below.heap_setCell _ _ _ _ (by show w.heap.size ≠ rb; omega)).trans HQ.out) fun W5 o5 b5 => ?_
    exact ⟨((HB.out.set _).b (Nat.le_refl _)).trans (b5 _ _ (Nat.le_refl _)), _, _, [], .nil, false, _, rfl, ((HG.out.set1 _).kept (o5 _ (by omega)) (o5 _ (fun e => by have := HG.out.wrong; rw [e, HQ.out] at this; simp at this))).rx, Tree.nil _ _, Nat.zero_le _⟩
  rw [if_neg ho]
  by_cases hc : 10000 < c + 2
  · rw [if_pos hc]
    go_enter Tryz.func22, Tryz.ntmps22
    go_wp2_with fail
    go_region
    go_wp2_with fail
    refine (opens_much rb tb T cap i o c 2 xs x _ ((HA.out.alloc _).alloc _).drew.reader (by omega) hc1 (by omega) hc HA.out.hT (by omega) ((HA.out.alloc _).alloc _).drew.row HA.out.ne HX.out).mono ?_
    rintro en w1 ⟨⟨v, rfl⟩, hb, g, o', c', hg⟩
    have q := at_z5 hlt hb
    obtain ⟨z0, z1, z2, z3, z4, zf⟩ := cells5 q
    have zf0 := zf 0
    have zf1 := zf 1
    have zf2 := zf 2
    have zf3 := zf 3
    have zf4 := zf 4
    have d1 := hg.c1
    have d4 := hg.c4
    have df := hg.fr 1
    have HQ : Hid _ := q
    have HB : Hid (But rb w w1) := (but2 rb w _ _).trans hb
    have HG : Hid _ := hg
    clear q hb hg zf
    go_wp2_with fail
    refine bodyPost_five (s := 2) rfl rfl rfl ((Below.heap_setCell _ _ _ _ (by show w.heap.size ≠ rb; omega)).trans HQ.out) fun W5 o5 b5 => ?_
    exact ⟨((HB.out.set _).b (Nat.le_refl _)).trans (b5 _ _ (Nat.le_refl _)), _, _, [], .nil, false, _, rfl, ((HG.out.set1 _).kept (o5 _ (by omega)) (o5 _ (fun e => by have := HG.out.wrong; rw [e, HQ.out] at this; simp at this))).rx, Tree.nil _ _, Nat.zero_le _⟩
  rw [if_neg hc]
  go_enter Tryz.func22, Tryz.ntmps22
  go_wp2_with fail
  go_region
  go_wp2_with fail
  refine (opens_ok rb tb T cap i o c 2 _ ((HA.out.alloc _).alloc _).drew.reader (by omega) (by omega)).mono ?_
  rintro en w1 ⟨⟨v, rfl⟩, hb, hg⟩
  have q := at_z5 hlt hb
  have d1 := hg.c1
  have d4 := hg.c4
  have df := hg.fr 1
  have s1 : w.heap.size + 1 + 1 ≤ w1.heap.size := by have := hb.size; simpa using this
  have hb1 : But rb w w1 := (but2 rb w _ _).trans hb
  have A1 : AtQ rb tb T cap xs (w1.setCell ⟨rb, 1, none⟩ (.int .i64 (i + 1 : Nat))) (i + 1) (o + 1) (c + 2) ts :=
    HA.out.moved (hg.set1 (i + 1)) ((Below.heap_setCell _ _ _ _ HA.out.ne.symm).trans (hb1.block _ htb HA.out.ne.symm)) (by rw [World.size_setCell]; exact hb1.size) Htl.out HEd.out (by omega) (by omega)
  have HA1 : Hid _ := A1
  have HQ : Hid (w1.heap[w.heap.size]? = some Z5) := q
  have HB : Hid (But rb w w1) := hb1
  clear q hb hg hb1 A1
  go_wp2_with fail
  refine (HD.out _ (i + 1) (o + 1) (c + 2) ts HA1.out hN).mono ?_
  cases hX : rdf 0 ts (o + 1) (c + 2) with
  | bad e p =>
    have HX2 : Hid (rdf 0 ts (o + 1) (c + 2) = _) := hX
    clear hX
    rintro en w2 ⟨hb2, k, n, t, s, d, kv, rfl, ⟨gx, slx, ix, ox, cx, hr2⟩, hT2, hs2⟩
    obtain ⟨ra2, cap2, rfl⟩ := hT2.slice
    have B2 : But rb w1 w2 := ((But.refl rb w1).set _).trans hb2.but
    have q2 : w2.heap[w.heap.size]? = some Z5 := (B2.block _ (by omega) (by omega)).trans HQ.out
    obtain ⟨z0, z1, z2, z3, z4, zf⟩ := cells5 q2
    have zf0 := zf 0
    have zf1 := zf 1
    have zf2 := zf 2
    have zf3 := zf 3
    have zf4 := zf 4
    have e2 := hr2.c2
    have ef := hr2.fr 2
    have hl2 := hr2.lt
    have s2 := B2.size
    have l5 : w.heap.size < w2.heap.size := by omega
    have l6 : w.heap.size < w2.heap.size + 1 := by omega
    have l7 : rb < w2.heap.size + 1 := by omega
    have l8 : w.heap.size < w2.heap.size + 1 + 1 := by omega
    have n6 : ¬ w2.heap.size = rb := by omega
    have n6' : ¬ rb = w2.heap.size := by omega
    have HQ2 : Hid (w2.heap[w.heap.size]? = some Z5) := q2
    have HB2 : Hid (But rb w w2) := HB.out.trans B2
    have HR2 : Hid _ := hr2
    have HT2 : Hid (Tree w2 w1.heap.size (.slice ra2 s.len cap2) s) := by have := hT2; rwa [World.size_setCell] at this
    clear q2 hb2 B2 hr2 hT2 zf
    go_wp2_with fail
    refine bodyPost_five2 (s := 2) rfl rfl rfl ((Below.heap_setCell _ _ _ _ (by show w.heap.size ≠ rb; omega)).trans HQ2.out) fun X oX sX bX => ?_
    rw [World.size_setCell] at sX
    have tX : Tree X w1.heap.size (.slice ra2 s.len cap2) s := HT2.out.kept (fun g hg hg' => (oX g (by rw [World.size_setCell]; exact hg') (by omega)).trans (Below.heap_setCell _ _ _ _ (by show g ≠ rb; omega)))
    have tQ := quote_tree (k := k) (n := n) (t := t) (d := d) tX (by omega)
    rw [sX] at tQ
    rw [HX2.out]
    change ButB _ _ _ _ ∧ _
    refine ⟨(((HB2.out.set _).b (Nat.le_refl _)).trans (bX _ _ (Nat.le_refl _))).trans (((But.refl rb X).alloc _).b (by omega)), 5, 0, [], .cons 2 0 quoteT .nil false (.cons k n t s d .nil), false, _, rfl, ?_, ?_, by simp [Fo.len]; omega⟩
    · have hgn : gx ≠ w.heap.size := fun e => by have := HR2.out.wrong; rw [e, HQ2.out] at this; simp at this
      refine ((HR2.out.set2 (wrap64 (ox - 1))).kept ((Below.heap_alloc _ _ _ (by omega)).trans (oX rb (by rw [World.size_setCell]; omega) (by omega))) ((Below.heap_alloc _ _ _ (by have := HR2.out.ltg; omega)).trans (oX gx (by rw [World.size_setCell]; exact HR2.out.ltg) hgn))).rx
    · exact tQ.mono (by omega)
  | ok f d0 r c' =>
    have HX2 : Hid (rdf 0 ts (o + 1) (c + 2) = _) := hX
    clear hX
    rintro en w2 ⟨hb2, k, n, t, s, d, kv, rfl, rfl, hr2, hT2⟩
    obtain ⟨ra2, cap2, rfl⟩ := hT2.slice
    have B2 : But rb w1 w2 := ((But.refl rb w1).set _).trans hb2.but
    have q2 : w2.heap[w.heap.size]? = some Z5 := (B2.block _ (by omega) (by omega)).trans HQ.out
    obtain ⟨z0, z1, z2, z3, z4, zf⟩ := cells5 q2
    have zf0 := zf 0
    have zf1 := zf 1
    have zf2 := zf 2
    have zf3 := zf 3
    have zf4 := zf 4
    have e2 := hr2.c2
    have ef := hr2.fr 2
    have hl2 := hr2.lt
    have s2 := B2.size
    have l5 : w.heap.size < w2.heap.size := by omega
    have l6 : w.heap.size < w2.heap.size + 1 := by omega
    have l7 : rb < w2.heap.size + 1 := by omega
    have l8 : w.heap.size < w2.heap.size + 1 + 1 := by omega
    have n6 : ¬ w2.heap.size = rb := by omega
    have n6' : ¬ rb = w2.heap.size := by omega
    have HQ2 : Hid (w2.heap[w.heap.size]? = some Z5) := q2
    have HB2 : Hid (But rb w w2) := HB.out.trans B2
    have HR2 : Hid _ := hr2
    have HT2 : Hid (Tree w2 w1.heap.size (.slice ra2 s.len cap2) s) := by have := hT2; rwa [World.size_setCell] at this
    clear q2 hb2 B2 hr2 hT2 zf
    go_wp2_with fail
    refine bodyPost_five2 (s := 2) rfl rfl rfl ((Below.heap_setCell _ _ _ _ (by show w.heap.size ≠ rb; omega)).trans HQ2.out) fun X oX sX bX => ?_
    rw [World.size_setCell] at sX
    have tX : Tree X w1.heap.size (.slice ra2 s.len cap2) s := HT2.out.kept (fun g hg hg' => (oX g (by rw [World.size_setCell]; exact hg') (by omega)).trans (Below.heap_setCell _ _ _ _ (by show g ≠ rb; omega)))
    have tQ := quote_tree (k := k) (n := n) (t := t) (d := d) tX (by omega)
    rw [sX] at tQ
    rw [HX2.out]
    change ButB _ _ _ _ ∧ _
    refine ⟨(((HB2.out.set _).b (Nat.le_refl _)).trans (bX _ _ (Nat.le_refl _))).trans (((But.refl rb X).alloc _).b (by omega)), 5, 0, [], .cons 2 0 quoteT .nil false (.cons k n t s d .nil), false, _, rfl, rfl, (HR2.out.set2 o).kept ((Below.heap_alloc _ _ _ (by omega)).trans (oX rb (by rw [World.size_setCell]; omega) (by omega))), ?_⟩
    exact tQ.mono (by omega)
end Go.Proofs.YtlpdfifjdlfpdaaGreatDoor
