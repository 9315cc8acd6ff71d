/- The document's reader: a list. -/
import Derived.Test.YtlpdfifjdlfpdaaGreatDoorHDocApp
import Derived.Test.YtlpdfifjdlfpdaaGreatDoorGF
namespace Go.Proofs.YtlpdfifjdlfpdaaGreatDoor
open Go.RowKit

theorem opens_all (rb tb T cap i o c : Nat) (xs : List (Tok × Int)) (x : Tok × Int) (w : World) (h : Rn w rb tb T cap i o c) (ho : o ≤ 100) (hc : c ≤ 10000) (hT : xs.length = T) (hTm : T ≤ 1000000) (hr : TRow w tb xs) (hne : rb ≠ tb) (hx : xs[i]? = some x) :
    Calls Tryz.prog 59 #[.pointer (some ⟨rb, 0, none⟩), .int .i64 1] w fun en w' => (∃ v, en = .returned v) ∧ But rb w w' ∧ ((o ≠ 100 ∧ ¬ 10000 < c + 1 ∧ Rn w' rb tb T cap i (o + 1) (c + 1)) ∨
      ∃ g o' c' e, Re w' rb g (.slice (some ⟨tb, 0, none⟩) T cap) i o' c' e x.1.pos ∧ ((o = 100 ∧ e = 61) ∨ (o ≠ 100 ∧ 10000 < c + 1 ∧ e = 62))) := by
  by_cases h1 : o = 100
  · subst h1
    refine (opens_deep rb tb T cap i c 1 xs x w h hT hTm hr hx).mono ?_
    rintro en w' ⟨h1, h2, g, o', c', h3⟩
    exact ⟨h1, h2, .inr ⟨g, o', c', 61, h3, .inl ⟨rfl, rfl⟩⟩⟩
  by_cases h2 : 10000 < c + 1
  · refine (opens_much rb tb T cap i o c 1 xs x w h (by omega) hc (by omega) h2 hT hTm hr hne hx).mono ?_
    rintro en w' ⟨h3, h4, g, o', c', h5⟩
    exact ⟨h3, h4, .inr ⟨g, o', c', 62, h5, .inr ⟨h1, h2, rfl⟩⟩⟩
  · refine (opens_ok rb tb T cap i o c 1 w h (by omega) (by omega)).mono ?_
    rintro en w' ⟨h3, h4, h5⟩
    exact ⟨h3, h4, .inl ⟨h1, h2, h5⟩⟩
/-- What is left to be gone through. -/
def msr (rb T : Nat) (w : World) : Nat := match w.cell? ⟨rb, 4, none⟩ with | some (.pointer none) => 1 + leftAt rb T w | _ => 0
theorem msr_n {W : World} {rb tb T cap i o c : Nat} (h : Rn W rb tb T cap i o c) : msr rb T W = 1 + (T - i) := by unfold msr leftAt; rw [h.c4, h.c1]; simp
theorem msr_e {W : World} {rb T : Nat} {e p : Int} (h : Rx W rb e p) : msr rb T W = 0 := by obtain ⟨g, sl, i, o, c, h⟩ := h; unfold msr; rw [h.c4]
theorem But.drewN {rb : Nat} {w w' : World} (h : But rb w w') (n : Nat) : But rb w (w'.drewN n) := h.trans ⟨rfl, rfl, rfl, Nat.le_refl _, fun _ _ _ => rfl⟩
theorem AtQ.drewN {rb tb T cap : Nat} {xs : List (Tok × Int)} {w : World} {i o c : Nat} {ts : List Tok} (h : AtQ rb tb T cap xs w i o c ts) (n : Nat) : AtQ rb tb T cap xs (w.drewN n) i o c ts := h.same (w' := w.drewN n) ⟨rfl, rfl, rfl, Nat.le_refl _, fun _ _ => rfl⟩
theorem AtQ.step {rb tb T cap : Nat} {xs : List (Tok × Int)} {w : World} {i o c : Nat} {t : Tok} {ts : List Tok} (h : AtQ rb tb T cap xs w i o c (t :: ts)) (htl : (xs.drop (i + 1)).map Prod.fst = ts) (ht : t.kind ≠ 9) (n : Nat) : AtQ rb tb T cap xs ((w.drewN n).setCell ⟨rb, 1, none⟩ (.int .i64 (i + 1 : Nat))) (i + 1) o c ts :=
  h.moved (Rn.set1 (Rn.kept (W' := w.drewN n) h.reader rfl) (i + 1)) (Below.heap_setCell _ _ _ _ h.ne.symm) (by rw [World.size_setCell]; exact Nat.le_refl _) htl (h.ended.tail ht) h.ho h.hc
theorem tree_down {W : World} {v : Value} {f : Fo} (a b : Nat) (hab : a + 1 ≤ b) (h : Tree W (b + 1) v f) : Tree W a v f := h.mono (by omega)
/-- The error stays where only a row of data turns. -/
theorem re_far {W W' : World} {rb g base n : Nat} {sl : Value} {i o c e p : Int} {v : Value} {cs : List Value} (h : Re W rb g sl i o c e p) (ho : W.ownsRow base 58 5 v n cs) (hrb : rb < base)
    (hk : ∀ y, y < W.heap.size → v.ownBlock ≠ some y → W'.heap[y]? = W.heap[y]?) : Re W' rb g sl i o c e p := by
  refine h.kept (hk _ h.lt (fun e => by have := (ho.lt rb e).1; omega)) (hk _ h.ltg (fun e => ?_))
  rcases ho.2 with ⟨rfl, _⟩ | ⟨g', cap', cur, rfl, _, hg, _⟩
  · cases e
  · have : g' = g := by simpa [Value.ownBlock] using e
    subst this
    rw [h.wrong] at hg
    simp at hg
theorem set2_other {w : World} {rb a b g : Nat} {u v : Value} (hg : g ≠ rb) : ((w.setCell ⟨rb, a, none⟩ u).setCell ⟨rb, b, none⟩ v).heap[g]? = w.heap[g]? := (Below.heap_setCell _ _ _ _ hg).trans (Below.heap_setCell _ _ _ _ hg)
theorem sets_but {w w6 : World} {B D rb a b c d : Nat} {u v x y : Value} (h : ButB B rb w w6) (hD : B ≤ D) (hs : B ≤ w6.heap.size) : ButB B rb w ((((w6.setCell ⟨D, a, none⟩ u).setCell ⟨D, b, none⟩ v).setCell ⟨rb, c, none⟩ x).setCell ⟨rb, d, none⟩ y) :=
  ((h.set hD u).set hD v).trans ((((But.refl rb ((w6.setCell ⟨D, a, none⟩ u).setCell ⟨D, b, none⟩ v)).set x).set y).b (by rw [World.size_setCell, World.size_setCell]; exact hs))
theorem set4_other {w : World} {D rb a b c d g : Nat} {u v x y : Value} (hD : g ≠ D) (hg : g ≠ rb) : ((((w.setCell ⟨D, a, none⟩ u).setCell ⟨D, b, none⟩ v).setCell ⟨rb, c, none⟩ x).setCell ⟨rb, d, none⟩ y).heap[g]? = w.heap[g]? := (set2_other hg).trans ((Below.heap_setCell _ _ _ _ hD).trans (Below.heap_setCell _ _ _ _ hD))
abbrev X5d (k n : Int) (t : List UInt8) (v : Value) (d : Bool) : Obj := .cells #[.int .u8 k, .int .i64 n, S t, v, .bool d] 58
abbrev X5v (v : Value) (d : Bool) : Obj := .cells #[.int .u8 5, .int .i64 0, .string ⟨#[]⟩, v, .bool d] 58
/-- How the document's list stands at its loop: it has met no error, or one. -/
def Stand (rb tb T cap : Nat) (xs : List (Tok × Int)) (N i o L : Nat) (res : Res) (wr : World) (f : Fo) : Prop :=
  (∃ i' c' ts', AtQ rb tb T cap xs wr i' (o + 1) c' ts' ∧ ts'.length ≤ N ∧ f.len + (i + 1) ≤ i' ∧ res = ((rdf (md f) ts' (o + 1) c').behind f).list) ∨ ∃ e p, Rx wr rb e p ∧ res = .bad e p ∧ f.len ≤ L
/-- A row of data made longer by one. -/
theorem tree_snoc {W w' : World} {base n gg cap6 nb : Nat} {k m : Int} {t : List UInt8} {s : Fo} {d : Bool} {v kv : Value} {f : Fo} {cs : List Value} {bs : List Nat} (h : W.ownsRow base 58 5 v n cs ∧ Row W base f cs bs ∧ (own1 v ++ bs).Nodup) (hf : f.len = n)
    (hT : Tree W nb kv s) (hbn : base ≤ nb) (hold : ∀ y ∈ own1 v ++ bs, y < nb) (hown : w'.ownsRow base 58 5 (.slice (some ⟨gg, 0, none⟩) (n + 1) cap6) (n + 1) (cs ++ [.int .u8 k, .int .i64 m, S t, kv, .bool d])) (hgr : W.grownBy w' v.ownBlock) (hat : v.ownBlock = some gg ∨ gg = W.heap.size) :
    Tree w' base (.slice (some ⟨gg, 0, none⟩) (n + 1) cap6) (f.app (.cons k m t s d .nil)) := by
  obtain ⟨ncs, nbs, nho, nhr, nnd⟩ := hT.ex
  have := tree_append h.1 h.2.1 h.2.2 ((Row.single (k := k) (n := m) (t := t) (d := d) nho nhr).mono hbn) nnd (fun y hy hm => by
    have h1 := ((Row.single (k := k) (n := m) (t := t) (d := d) nho nhr).lt y hy).1
    have := hold y hm
    omega) hf rfl hown hgr (hat.imp (fun h => h.symm) (fun h => by rw [h]; rfl))
  exact ⟨_, _, this⟩

/-- An error that was met stays, whatever becomes of rows of data. -/
theorem rx_far {W W' : World} {rb D base n : Nat} {e p : Int} {v : Value} {cs : List Value} {v0 v1 v2 v3 v4 : Value} (h : Rx W rb e p) (ho : W.ownsRow base 58 5 v n cs) (hD : W.heap[D]? = some (.cells #[v0, v1, v2, v3, v4] 58 (0, 0))) (hr : rb ≠ D) (hrb : rb < base)
    (hk : ∀ g, g < W.heap.size → g ≠ D → v.ownBlock ≠ some g → W'.heap[g]? = W.heap[g]?) : Rx W' rb e p := by
  obtain ⟨g, sl, i, o, c, h⟩ := h
  refine ⟨g, sl, i, o, c, h.kept (hk _ h.lt hr (fun e => by have := (ho.lt rb e).1; omega)) (hk _ h.ltg (fun e => ?_) (fun e => ?_))⟩
  · have := h.wrong
    rw [e, hD] at this
    simp at this
  · rcases ho.2 with ⟨rfl, _⟩ | ⟨g', cap', cur, rfl, _, hg, _⟩
    · cases e
    · have : g' = g := by simpa [Value.ownBlock] using e
      subst this
      rw [h.wrong] at hg
      simp at hg

set_option maxRecDepth 100000 in
set_option maxHeartbeats 16000000 in
theorem docL_of {rb tb T cap : Nat} {xs : List (Tok × Int)} {N : Nat} (hD : DocD rb tb T cap xs N) : DocL rb tb T cap xs N := by
  intro w i o c t ts hk hA hN
  obtain ⟨x, ts0, hx, hx1, htl, hlen, _⟩ := hA.head
  cases hx1
  have hR : rdf 0 (x.1 :: ts) o c = if o = 100 then .bad 61 x.1.pos else if 10000 < c + 1 then .bad 62 x.1.pos else (rdf 1 ts (o + 1) (c + 1)).list := by
    rw [rdf_one]; unfold one; simp [hk]
  have HRR : Hid _ := hR
  obtain ⟨i0, hi0, hz0, hz1, hz2⟩ := info_parts infoDat
  have hlt := hA.reader.lt
  have htb := hA.row.1
  have hT := hA.hTm
  have hEd : Ended ts := hA.ended.tail (by rw [hk]; decide)
  have HEd : Hid (Ended ts) := hEd
  have HA : Hid (AtQ rb tb T cap xs w i o c (x.1 :: ts)) := hA
  have HD : Hid (DocD rb tb T cap xs N) := hD
  have HX : Hid (xs[i]? = some x) := hx
  have Htl : Hid ((xs.drop (i + 1)).map Prod.fst = ts) := htl
  have hc1 := hA.hc
  have ho1 := hA.ho
  clear hA hx hD htl hEd hR hk
  generalize hres : rdf 0 (x.1 :: ts) o c = res at HRR ⊢
  clear hres
  go_enter Tryz.func58, Tryz.ntmps58
  go_wp2_with fail
  refine (opens_all rb tb T cap i o c xs x _ (HA.out.alloc _).reader ho1 hc1 HA.out.hT (by omega) (HA.out.alloc _).row HA.out.ne HX.out).mono ?_
  rintro en w1 ⟨⟨v, rfl⟩, hb1, hst⟩
  have hd1 : w1.cell? ⟨rb, 1, none⟩ = some (.int .i64 i) ∧ w1.frozen? ⟨rb, 1, none⟩ = false := by
    rcases hst with ⟨_, _, h⟩ | ⟨g, o', c', e, h, _⟩
    · exact ⟨h.c1, h.fr 1⟩
    · exact ⟨h.c1, h.fr 1⟩
  obtain ⟨d1, df⟩ := hd1
  have s1 : w.heap.size + 1 ≤ w1.heap.size := by have := hb1.size; simpa using this
  have HQ1 : Hid (w1.heap[w.heap.size]? = some Z5) := (hb1.block _ (by simp) (by omega)).trans (World.alloc_heap_new _ _)
  have HB1 : Hid (But rb w w1) := ((But.refl rb w).alloc _).trans hb1
  have Hst : Hid _ := hst
  clear hst hb1
  have hrl : rb < w1.heap.size := by omega
  have htl1 : tb < w1.heap.size := by omega
  go_wp2
  go_loopw [4] (fun _ wr => ∃ (v : Value) (f : Fo), Hid (wr.heap[w1.heap.size]? = some (.cells #[.int .u8 5, .int .i64 0, .string ⟨#[]⟩, v, .bool false] 58 (0, 0))) ∧ Hid (Tree wr (w1.heap.size + 1) v f) ∧ Hid (ButB w.heap.size rb w wr) ∧ Hid (wr.heap[w.heap.size]? = some Z5) ∧ Hid (Stand rb tb T cap xs N i o (ts.length + 1) res wr f)) (fun _ wr => msr rb T wr)
  case atStart =>
    have ks : ∀ g, g < w1.heap.size → g ≠ rb → ((w1.setCell ⟨rb, 1, none⟩ (.int .i64 (i + 1 : Nat))).alloc (X5v (.slice none 0 0) false)).heap[g]? = w1.heap[g]? := fun g hg hne => (Below.heap_alloc _ _ _ (by simpa [World.setCell] using hg)).trans (Below.heap_setCell _ _ _ _ hne)
    refine ⟨.slice none 0 0, .nil, ?_, Tree.nil _ _, (((HB1.out.set _).alloc _).b (Nat.le_refl _)), (ks _ (by omega) (by omega)).trans HQ1.out, ?_⟩
    · have := World.alloc_heap_new (w1.setCell ⟨rb, 1, none⟩ (.int .i64 (i + 1 : Nat))) (X5v (.slice none 0 0) false)
      rw [World.size_setCell] at this
      exact this
    · rcases Hst.out with ⟨h1, h2, h⟩ | ⟨g, o', c', e, h, he⟩
      · refine .inl ⟨i + 1, c + 1, ts, ?_, hN, by simp [Fo.len], ?_⟩
        · exact HA.out.moved ((h.set1 (i + 1)).kept (Below.heap_alloc _ _ _ (by simpa [World.setCell] using hrl))) ((ks _ htl1 HA.out.ne.symm).trans (HB1.out.block _ htb HA.out.ne.symm)) (by simp [World.setCell]; omega) Htl.out HEd.out (by omega) (by omega)
        · rw [HRR.out, if_neg h1, if_neg h2, Res.behind_nil]; rfl
      · refine .inr ⟨e, x.1.pos, ((h.set1 _).kept (Below.heap_alloc _ _ _ (by simpa [World.setCell] using hrl)) (Below.heap_alloc _ _ _ (by simpa [World.setCell] using h.ltg))).rx, ?_, Nat.zero_le _⟩
        rcases he with ⟨h1, rfl⟩ | ⟨h1, h2, rfl⟩
        · rw [HRR.out, if_pos h1]
        · rw [HRR.out, if_neg h1, if_pos h2]
  case round =>
    obtain ⟨v, f, HV, HT, HB, HQ, HS⟩ := hrel
    obtain ⟨ra, cv, rfl⟩ := HT.out.slice
    have hDl : w1.heap.size < wr.heap.size := (Array.getElem?_eq_some_iff.1 HV.out).1
    have hrl2 : rb < wr.heap.size := by omega
    have htl2 : tb < wr.heap.size := by omega
    have hwl : w.heap.size < wr.heap.size := by omega
    have na : ¬ w.heap.size = rb := by omega
    have nb : ¬ rb = w.heap.size := by omega
    have nc : ¬ w1.heap.size = rb := by omega
    have nd : ¬ rb = w1.heap.size := by omega
    have ne : ¬ w.heap.size = w1.heap.size := by omega
    have nf : ¬ w1.heap.size = w.heap.size := by omega
    obtain ⟨y0, y1, y2, y3, y4, yf⟩ := cells5 HV.out
    have yf3 := yf 3
    have yf4 := yf 4
    obtain ⟨z0, z1, z2, z3, z4, zf⟩ := cells5 HQ.out
    have zf0 := zf 0
    have zf1 := zf 1
    have zf2 := zf 2
    have zf3 := zf 3
    have zf4 := zf 4
    clear yf zf
    rcases HS.out with ⟨i', c', ts', hA', hN', hfl, hres⟩ | ⟨e, p, hrx, hres, hfl⟩
    · obtain ⟨x2, ts2, hx2, hxe, htl3, hlen2, hk1, hk9⟩ := hA'.head
      subst hxe
      obtain ⟨k0, k1, k2, k3⟩ := hA'.row.2 i' x2 hx2
      have r0 := hA'.reader.c0
      have r1 := hA'.reader.c1
      have r2 := hA'.reader.c2
      have r4 := hA'.reader.c4
      have rf1 := hA'.reader.fr 1
      have rf2 := hA'.reader.fr 2
      have hi2 : (i' : Int) < (T : Int) := by omega
      have hc2 := hA'.hc
      have HA' : Hid (AtQ rb tb T cap xs wr i' (o + 1) c' (x2.1 :: ts2)) := hA'
      have HX2 : Hid (xs[i']? = some x2) := hx2
      have Htl2 : Hid ((xs.drop (i' + 1)).map Prod.fst = ts2) := htl3
      have HRs : Hid _ := hres
      have hm0 : md f ≠ 0 := by unfold md; split <;> decide
      have hm3 : ¬ md f = 3 := by unfold md; split <;> decide
      clear hA' hx2 htl3 hres HS
      by_cases h2 : x2.1.kind = 2
      · have hR2 : res = .ok (.cons 5 0 [] f false .nil) false ts2 c' := by rw [HRs.out, rdf_lst hm0]; unfold lst; rw [if_neg hm3, if_pos h2]; simp [Res.behind, Res.list, Fo.app_nil]
        have HR2 : Hid _ := hR2
        rw [h2] at k0
        clear h2 hR2 hm0 hm3
        go_wp2_with fail
        go_quiet (fail)
        go_wp2_with fail
        go_quiet (fail)
        go_wp2_with fail
        refine bodyPost_five (s := 2) rfl rfl rfl ((set2_other na).trans HQ.out) fun W5 o5 b5 => ?_
        rw [HR2.out]
        change ButB _ _ _ _ ∧ _
        refine ⟨(HB.out.trans (((((But.refl rb wr).drewN _).set _).set _).b (by omega))).trans (b5 _ _ (Nat.le_refl _)), 5, 0, [], f, false, _, rfl, rfl, ?_, ?_⟩
        · rw [show T - ts2.length = i' + 1 by omega]
          exact (((Rn.kept (W' := wr.drewN _) HA'.out.reader rfl).set1 (i' + 1)).set2 o).kept (o5 _ nb)
        · exact (HT.out.kept (fun y hy _ => (o5 y (by omega)).trans (set2_other (by omega)))).mono (by omega)
      have b2 : (x2.1.kind == 2) = false := beq_eq_false_iff_ne.2 h2
      have b2' : (x2.1.kind != 2) = true := by simp [bne, b2]
      by_cases h4 : x2.1.kind = 4
      · rw [h4] at k0
        have H4 : Hid (x2.1.kind = 4) := h4
        by_cases hf0 : f.len = 0
        · have hR2 : res = .bad 60 x2.1.pos := by
            rw [HRs.out, rdf_lst hm0]; unfold lst
            rw [if_neg hm3, if_neg h2, if_pos h4, if_pos (show md f = 1 by unfold md; rw [if_pos hf0])]; rfl
          have HR2 : Hid _ := hR2
          have hf1 : ((f.len : Int) == 0) = true := by simp [hf0]
          clear h2 h4 hR2 hm0 hm3
          go_wp2_with fail
          go_quiet (fail)
          go_wp2_with fail
          go_quiet (fail)
          go_wp2_with fail
          refine (fails_new rb tb T cap i' (o + 1) c' 60 xs x2 _ (HA'.out.drewN _).reader HA'.out.hT (by omega) (HA'.out.drewN _).row HX2.out).mono ?_
          rintro en w3 ⟨⟨v3, rfl⟩, hb3, g3, hg3⟩
          have B3 : But rb wr w3 := ((But.refl rb wr).drewN _).trans hb3
          have q3 : w3.heap[w1.heap.size]? = some (.cells #[.int .u8 5, .int .i64 0, .string ⟨#[]⟩, .slice ra f.len cv, .bool false] 58 (0, 0)) := (B3.block _ hDl nc).trans HV.out
          have qr : w3.heap[w.heap.size]? = some Z5 := (B3.block _ hwl na).trans HQ.out
          have HB3 : Hid (But rb wr w3) := B3
          have HQ3 : Hid (w3.heap[w.heap.size]? = some Z5) := qr
          have HG3 : Hid _ := hg3
          clear B3 y0 y1 y2 y3 y4 yf3 yf4 z0 z1 z2 z3 z4 zf0 zf1 zf2 zf3 zf4 hb3 hg3 r0 r1 r2 r4 rf1 rf2 k0 k1 k2 k3
          obtain ⟨y0, y1, y2, y3, y4, yf⟩ := cells5 q3
          obtain ⟨z0, z1, z2, z3, z4, zf⟩ := cells5 qr
          have zf0 := zf 0
          have zf1 := zf 1
          have zf2 := zf 2
          have zf3 := zf 3
          have zf4 := zf 4
          clear yf zf q3 qr
          go_wp2_with fail
          refine bodyPost_five (s := 2) rfl rfl rfl HQ3.out fun W5 o5 b5 => ?_
          rw [HR2.out]
          change ButB _ _ _ _ ∧ _
          refine ⟨(HB.out.trans (HB3.out.b (by omega))).trans (b5 _ _ (Nat.le_refl _)), 5, 0, [], f, false, _, rfl, rx_kept HG3.out.rx HQ3.out nb o5, ?_, by omega⟩
          have hTT := tree_down w.heap.size w1.heap.size s1 (HT.out.kept (w' := W5) (fun y hy hy' => (o5 y (by omega)).trans (HB3.out.block y hy' (by omega))))
          rw [hf0] at hTT
          exact hTT
        have hf1 : ((f.len : Int) == 0) = false := by simp; omega
        have hmd : md f = 2 := by unfold md; rw [if_neg hf0]
        have hD2 : res = ((rdf 0 ts2 (o + 1) c').tail.behind f).list := by
          rw [HRs.out, rdf_lst hm0]; unfold lst
          rw [if_neg hm3, if_neg h2, if_pos h4, if_neg (show ¬ md f = 1 by rw [hmd]; decide)]
        have HD2 : Hid _ := hD2
        clear h2 h4 hD2 hm0 hm3 hmd HRs
        go_wp2_with fail
        go_quiet (fail)
        go_wp2_with fail
        go_quiet (fail)
        go_wp2_with fail
        cases hX : rdf 0 ts2 (o + 1) c' with
        | bad e p =>
          have hR2 : res = .bad e p := by rw [HD2.out, hX]; rfl
          have HR2 : Hid (res = .bad e p) := hR2
          have HX3 : Hid (rdf 0 ts2 (o + 1) c' = .bad e p) := hX
          clear hX hR2
          refine (HD.out _ (i' + 1) (o + 1) c' ts2 (HA'.out.step Htl2.out (by rw [H4.out]; decide) _) (by simp at hN'; omega)).mono ?_
          rw [HX3.out]
          rintro en w3 ⟨hb3, k, n, t, s, d, kv, rfl, ⟨gx, slx, ix, ox, cx, hr3⟩, hT3, hs3⟩
          obtain ⟨ra3, cap3, rfl⟩ := hT3.slice
          have B3 : But rb wr w3 := (((But.refl rb wr).drewN _).set _).trans hb3.but
          have HB3 : Hid (But rb wr w3) := B3
          have HT3 : Hid (Tree w3 wr.heap.size (.slice ra3 s.len cap3) s) := by have := hT3; rwa [World.size_setCell] at this
          have s3 := B3.size
          clear B3 y0 y1 y2 y3 y4 yf3 yf4 z0 z1 z2 z3 z4 zf0 zf1 zf2 zf3 zf4 hb3 hT3 r0 r1 r2 r4 rf1 rf2 k0 k1 k2 k3
          go_wp2_with fail
          have KA : ∀ g, g < w3.heap.size → (w3.alloc (X5d k n t (.slice ra3 s.len cap3) d)).heap[g]? = w3.heap[g]? := fun g hg => Below.heap_alloc _ _ _ hg
          have QX : (w3.alloc (X5d k n t (.slice ra3 s.len cap3) d)).heap[w3.heap.size]? = some (.cells #[.int .u8 k, .int .i64 n, S t, .slice ra3 s.len cap3, .bool d] 58 (0, 0)) := World.alloc_heap_new _ _
          have KW : ∀ g, w1.heap.size + 1 ≤ g → g < wr.heap.size → (w3.alloc (X5d k n t (.slice ra3 s.len cap3) d)).heap[g]? = wr.heap[g]? := fun g h1 h2 => (KA g (by omega)).trans (HB3.out.block g h2 (by omega))
          have QD : (w3.alloc (X5d k n t (.slice ra3 s.len cap3) d)).heap[w1.heap.size]? = some (.cells #[.int .u8 5, .int .i64 0, .string ⟨#[]⟩, .slice ra f.len cv, .bool false] 58 (0, 0)) := (KA _ (by omega)).trans ((HB3.out.block _ hDl nc).trans HV.out)
          have QR : (w3.alloc (X5d k n t (.slice ra3 s.len cap3) d)).heap[w.heap.size]? = some Z5 := (KA _ (by omega)).trans ((HB3.out.block _ hwl na).trans HQ.out)
          have TS : Tree (w3.alloc (X5d k n t (.slice ra3 s.len cap3) d)) wr.heap.size (.slice ra3 s.len cap3) s := HT3.out.kept (fun g _ hg => KA g hg)
          have BB : ButB w.heap.size rb w (w3.alloc (X5d k n t (.slice ra3 s.len cap3) d)) := HB.out.trans ((HB3.out.alloc _).b (by omega))
          have SX : w3.heap.size < (w3.alloc (X5d k n t (.slice ra3 s.len cap3) d)).heap.size := by simp
          have hre : Re (w3.alloc (X5d k n t (.slice ra3 s.len cap3) d)) rb gx slx ix ox cx e p := hr3.kept (KA _ hr3.lt) (KA _ hr3.ltg)
          clear hr3
          generalize w3.alloc (X5d k n t (.slice ra3 s.len cap3) d) = wB at *
          clear HB3 HT3
          have e4 := hre.c4
          have e1 := hre.c1
          have e2 := hre.c2
          have ef1 := hre.fr 1
          have ef2 := hre.fr 2
          have HRe : Hid _ := hre
          clear hre
          obtain ⟨y0, y1, y2, y3, y4, yf⟩ := cells5 QD
          have yf3 := yf 3
          have yf4 := yf 4
          obtain ⟨p0, p1, p2, p3, p4, _⟩ := cells5 QX
          have HQD : Hid _ := QD
          have HQX : Hid _ := QX
          have HQR : Hid (wB.heap[w.heap.size]? = some Z5) := QR
          have HKW : Hid (∀ g, w1.heap.size + 1 ≤ g → g < wr.heap.size → wB.heap[g]? = wr.heap[g]?) := KW
          have HTS : Hid (Tree wB wr.heap.size (.slice ra3 s.len cap3) s) := TS
          have HBB : Hid (ButB w.heap.size rb w wB) := BB
          clear yf KA QD QX QR KW TS BB
          by_cases hk5 : k = 5
          · have b5 : (k == 5) = true := beq_iff_eq.2 hk5
            go_wp2_with fail
            go_quiet (fail)
            go_wp2_with (at_builtin; refine stop_of ?_)
            unfold Hid
            obtain ⟨cs, bs, ho1, hrr1, hnd⟩ := HT.out.ex
            obtain ⟨ncs, nbs, nho, nhr, nnd⟩ := HTS.out.ex
            have hold : ∀ y ∈ own1 (.slice ra f.len cv) ++ bs, y < wr.heap.size := by
              intro y hy
              rcases List.mem_append.1 hy with h | h
              · exact (ho1.lt y (mem_own1.1 h)).2
              · exact (hrr1.lt y h).2
            have hoB := own_same ho1 (fun g hg => HKW.out g (ho1.lt g hg).1 (ho1.lt g hg).2)
            have hrB := hrr1.kept (fun g hg => HKW.out g (hrr1.lt g hg).1 (hrr1.lt g hg).2)
            have vb : ∀ g, (Value.slice ra f.len cv).ownBlock = some g → w1.heap.size + 1 ≤ g ∧ g < wr.heap.size := fun g hg => ho1.lt g hg
            refine wpList_append_tree _ rfl _ _ rfl (w1.heap.size + 1) wr.heap.size f s ra cv rfl cs bs ⟨own_same hoB (fun g hg => rfl), hrB.kept (fun g hg => rfl), hnd⟩ hold ra3 cap3 rfl ncs nbs (nhr.kept (fun g hg => rfl)) (List.nodup_append.1 nnd).2.1 (fun ad h j u hj => by subst h; exact (own_same nho (fun _ _ => rfl)).cells_some j u hj) (own_ne nho) (by omega) (by omega) (by show w1.heap.size + 1 ≤ wB.heap.size; omega) ?_
            intro ra6 cap6 w6 hT6 hk6 hs6 ho6 ht6 hu6
            have hkB : ∀ y, y < wB.heap.size → (Value.slice ra f.len cv).ownBlock ≠ some y → w6.heap[y]? = wB.heap[y]? := fun y hy hv => (hk6 y hy hv).trans (rfl)
            have sB6 : wB.heap.size ≤ w6.heap.size := hs6
            have QD6 := (hkB w1.heap.size (by omega) (fun e => by have := (vb _ e).1; omega)).trans HQD.out
            have QX6 := (hkB w3.heap.size SX (fun e => by have := (vb _ e).2; omega)).trans HQX.out
            have QR6 : w6.heap[w.heap.size]? = some Z5 := (hkB w.heap.size (by omega) (fun e => by have := (vb _ e).1; omega)).trans HQR.out
            have HB6 : Hid (ButB w.heap.size rb w w6) := HBB.out.trans ⟨ho6, ht6, hu6, sB6, fun y hy _ => hkB y (by omega) (fun e => by have := (vb _ e).1; omega)⟩
            have HT6 : Hid (Tree w6 (w1.heap.size + 1) (.slice ra6 (f.len + Fo.len s) cap6) (f.app s)) := hT6
            clear y0 y1 y2 y3 y4 yf3 yf4 p0 p1 p2 p3 p4 e4 e1 e2 ef1 ef2
            obtain ⟨y0, y1, y2, y3, y4, yf⟩ := cells5 QD6
            have yf3 := yf 3
            have yf4 := yf 4
            obtain ⟨p0, p1, p2, p3, p4, _⟩ := cells5 QX6
            obtain ⟨z0, z1, z2, z3, z4, zf⟩ := cells5 QR6
            have zf0 := zf 0
            have zf1 := zf 1
            have zf2 := zf 2
            have zf3 := zf 3
            have zf4 := zf 4
            have nx : ¬ w3.heap.size = w1.heap.size := by omega
            have nx' : ¬ w1.heap.size = w3.heap.size := by omega
            have nw : ¬ w3.heap.size = rb := by omega
            have nw' : ¬ rb = w3.heap.size := by omega
            have ny : ¬ w3.heap.size = w.heap.size := by omega
            have ny' : ¬ w.heap.size = w3.heap.size := by omega
            have hre := re_far HRe.out hoB (by omega) hkB
            have e1 := hre.c1
            have e2 := hre.c2
            have ef1 := hre.fr 1
            have ef2 := hre.fr 2
            have HRe6 : Hid _ := hre
            have HQR6 : Hid _ := QR6
            have HQD6 : Hid _ := QD6
            clear hT6 hk6 hs6 ho6 ht6 hu6 hkB vb hoB hrB hold ho1 hrr1 hnd nho nhr nnd yf zf QD6 QX6 QR6 hre
            go_wp2_with fail
            refine bodyPost_five (s := 2) rfl rfl rfl ((set4_other ne na).trans HQR6.out) fun W5 o5 b5 => ?_
            rw [HR2.out]
            change ButB _ _ _ _ ∧ _
            refine ⟨(sets_but HB6.out (by omega) (by omega)).trans (b5 _ _ (Nat.le_refl _)), 5, 0, [], f.app s, d, _, rfl, ?_, tree_down w.heap.size w1.heap.size s1 (HT6.out.kept (fun y hy _ => (o5 y (by omega)).trans (set4_other (by omega) (by omega)))), by rw [Fo.len_app]; omega⟩
            have hgD : gx ≠ w1.heap.size := fun e => by have := HRe6.out.wrong; rw [e, HQD6.out] at this; simp at this
            exact rx_kept (((HRe6.out.kept (W' := (w6.setCell ⟨w1.heap.size, 3, none⟩ _).setCell ⟨w1.heap.size, 4, none⟩ _) ((Below.heap_setCell _ _ _ _ nd).trans (Below.heap_setCell _ _ _ _ nd)) ((Below.heap_setCell _ _ _ _ hgD).trans (Below.heap_setCell _ _ _ _ hgD))).set1 _).set2 _).rx ((set4_other ne na).trans HQR6.out) nb o5
          · have b5 : (k == 5) = false := beq_eq_false_iff_ne.2 hk5
            go_wp2_with fail
            go_quiet (fail)
            go_wp2_with (at_builtin; refine stop_of ?_)
            unfold Hid
            obtain ⟨cs, bs, ho1, hrr1, hnd⟩ := HT.out.ex
            obtain ⟨ncs, nbs, nho, nhr, nnd⟩ := HTS.out.ex
            have hold : ∀ y ∈ own1 (.slice ra f.len cv) ++ bs, y < wr.heap.size := by
              intro y hy
              rcases List.mem_append.1 hy with h | h
              · exact (ho1.lt y (mem_own1.1 h)).2
              · exact (hrr1.lt y h).2
            have hoB := own_same ho1 (fun g hg => HKW.out g (ho1.lt g hg).1 (ho1.lt g hg).2)
            have hrB := hrr1.kept (fun g hg => HKW.out g (hrr1.lt g hg).1 (hrr1.lt g hg).2)
            have vb : ∀ g, (Value.slice ra f.len cv).ownBlock = some g → w1.heap.size + 1 ≤ g ∧ g < wr.heap.size := fun g hg => ho1.lt g hg
            refine wpList_append_tree _ rfl _ _ rfl (w1.heap.size + 1) wr.heap.size f (.cons k n t s d .nil) ra cv rfl cs bs ⟨own_same hoB (fun g hg => Below.heap_alloc _ _ _ ((hoB.lt g hg).2)), hrB.kept (fun g hg => Below.heap_alloc _ _ _ ((hrB.lt g hg).2)), hnd⟩ hold (some ⟨_, 0, none⟩) 1 rfl [.int .u8 k, .int .i64 n, S t, .slice ra3 s.len cap3, .bool d] _ (Row.single (own_same nho (fun g hg => Below.heap_alloc _ _ _ (nho.lt g hg).2)) (nhr.kept (fun g hg => Below.heap_alloc _ _ _ (nhr.lt g hg).2))) nnd (fun ad h => by cases h; exact cell_five_at _ _ rfl _ _ _ _ _ _) (fun _ h => by cases h) (by omega) (by simp [Fo.len]; omega) (by rw [World.size_alloc]; show w1.heap.size + 1 ≤ wB.heap.size + 1; omega) ?_
            intro ra6 cap6 w6 hT6 hk6 hs6 ho6 ht6 hu6
            have hkB : ∀ y, y < wB.heap.size → (Value.slice ra f.len cv).ownBlock ≠ some y → w6.heap[y]? = wB.heap[y]? := fun y hy hv => (hk6 y (by rw [World.size_alloc]; exact Nat.lt_succ_of_lt hy) hv).trans (Below.heap_alloc _ _ _ (hy))
            have sB6 : wB.heap.size ≤ w6.heap.size := Nat.le_trans (by rw [World.size_alloc]; exact Nat.le_succ _) hs6
            have QD6 := (hkB w1.heap.size (by omega) (fun e => by have := (vb _ e).1; omega)).trans HQD.out
            have QX6 := (hkB w3.heap.size SX (fun e => by have := (vb _ e).2; omega)).trans HQX.out
            have QR6 : w6.heap[w.heap.size]? = some Z5 := (hkB w.heap.size (by omega) (fun e => by have := (vb _ e).1; omega)).trans HQR.out
            have HB6 : Hid (ButB w.heap.size rb w w6) := HBB.out.trans ⟨ho6, ht6, hu6, sB6, fun y hy _ => hkB y (by omega) (fun e => by have := (vb _ e).1; omega)⟩
            have HT6 : Hid (Tree w6 (w1.heap.size + 1) (.slice ra6 (f.len + Fo.len (.cons k n t s d .nil)) cap6) (f.app (.cons k n t s d .nil))) := hT6
            clear y0 y1 y2 y3 y4 yf3 yf4 p0 p1 p2 p3 p4 e4 e1 e2 ef1 ef2
            obtain ⟨y0, y1, y2, y3, y4, yf⟩ := cells5 QD6
            have yf3 := yf 3
            have yf4 := yf 4
            obtain ⟨p0, p1, p2, p3, p4, _⟩ := cells5 QX6
            obtain ⟨z0, z1, z2, z3, z4, zf⟩ := cells5 QR6
            have zf0 := zf 0
            have zf1 := zf 1
            have zf2 := zf 2
            have zf3 := zf 3
            have zf4 := zf 4
            have nx : ¬ w3.heap.size = w1.heap.size := by omega
            have nx' : ¬ w1.heap.size = w3.heap.size := by omega
            have nw : ¬ w3.heap.size = rb := by omega
            have nw' : ¬ rb = w3.heap.size := by omega
            have ny : ¬ w3.heap.size = w.heap.size := by omega
            have ny' : ¬ w.heap.size = w3.heap.size := by omega
            have hre := re_far HRe.out hoB (by omega) hkB
            have e1 := hre.c1
            have e2 := hre.c2
            have ef1 := hre.fr 1
            have ef2 := hre.fr 2
            have HRe6 : Hid _ := hre
            have HQR6 : Hid _ := QR6
            have HQD6 : Hid _ := QD6
            clear hT6 hk6 hs6 ho6 ht6 hu6 hkB vb hoB hrB hold ho1 hrr1 hnd nho nhr nnd yf zf QD6 QX6 QR6 hre
            go_wp2_with fail
            refine bodyPost_five (s := 2) rfl rfl rfl ((set4_other ne na).trans HQR6.out) fun W5 o5 b5 => ?_
            rw [HR2.out]
            change ButB _ _ _ _ ∧ _
            refine ⟨(sets_but HB6.out (by omega) (by omega)).trans (b5 _ _ (Nat.le_refl _)), 5, 0, [], f.app (.cons k n t s d .nil), true, _, rfl, ?_, tree_down w.heap.size w1.heap.size s1 (HT6.out.kept (fun y hy _ => (o5 y (by omega)).trans (set4_other (by omega) (by omega)))), by rw [Fo.len_app]; simp [Fo.len]; omega⟩
            have hgD : gx ≠ w1.heap.size := fun e => by have := HRe6.out.wrong; rw [e, HQD6.out] at this; simp at this
            exact rx_kept (((HRe6.out.kept (W' := (w6.setCell ⟨w1.heap.size, 3, none⟩ _).setCell ⟨w1.heap.size, 4, none⟩ _) ((Below.heap_setCell _ _ _ _ nd).trans (Below.heap_setCell _ _ _ _ nd)) ((Below.heap_setCell _ _ _ _ hgD).trans (Below.heap_setCell _ _ _ _ hgD))).set1 _).set2 _).rx ((set4_other ne na).trans HQR6.out) nb o5
        | ok f1 d1 r c1 =>
          have hg := rdf_good hX
          obtain ⟨qq, eqq, hqpos, hone, _⟩ := hg.suf
          obtain ⟨k, n, t, s, d, rfl, hsl⟩ := hone rfl
          have hrl3 : r.length + qq.length = ts2.length := by have := congrArg List.length eqq; simp at this; omega
          have hs3 : s.len ≤ ts2.length := by omega
          have HX3 : Hid (rdf 0 ts2 (o + 1) c' = .ok (.cons k n t s d .nil) d1 r c1) := hX
          have HG : Hid (Good 0 ts2 (.cons k n t s d .nil) r c' c1) := hg
          have Heqq : Hid (ts2 = qq ++ r) := eqq
          clear hX hg eqq
          have h9 : x2.1.kind ≠ 9 := by rw [H4.out]; decide
          have H9 : Hid (x2.1.kind ≠ 9) := h9
          clear h9
          refine (HD.out _ (i' + 1) (o + 1) c' ts2 (HA'.out.step Htl2.out H9.out _) (by simp at hN'; omega)).mono ?_
          rw [HX3.out]
          rintro en w3 ⟨hb3, k', n', t', s', d', kv, hfe, rfl, hr3, hT3⟩
          cases hfe
          obtain ⟨j3, hj3⟩ : ∃ j3, j3 = T - r.length := ⟨_, rfl⟩
          have A3 : AtQ rb tb T cap xs w3 j3 (o + 1) c1 r := by rw [hj3]; exact (HA'.out.step Htl2.out H9.out 0).moved hr3 ((hb3.block _ (show tb < _ by rw [World.size_setCell]; exact htl2) HA'.out.ne.symm).trans ((Below.heap_setCell _ _ _ _ HA'.out.ne.symm).trans (Below.heap_setCell _ _ _ _ HA'.out.ne.symm).symm)) (by have := hb3.size; rw [World.size_setCell] at this ⊢; exact this) ((HA'.out.step Htl2.out H9.out 0).rest Heqq.out).1 (HG.out.ended (by decide) (HA'.out.step Htl2.out H9.out 0).ended) HA'.out.ho (HG.out.much hc2)
          obtain ⟨x3, rr1, hx3, hxe3, _, hlen3, _, _⟩ := A3.head
          clear hj3
          have Hxe3 : Hid (r = x3.1 :: rr1) := hxe3
          have Hx3 : Hid (xs[j3]? = some x3) := hx3
          clear hxe3 hx3
          obtain ⟨ra3, cap3, rfl⟩ := hT3.slice
          have B3 : But rb wr w3 := (((But.refl rb wr).drewN _).set _).trans hb3.but
          have HB3 : Hid (But rb wr w3) := B3
          have HT3 : Hid (Tree w3 wr.heap.size (.slice ra3 s.len cap3) s) := by have := hT3; rwa [World.size_setCell] at this
          have s3 := B3.size
          clear B3 y0 y1 y2 y3 y4 yf3 yf4 z0 z1 z2 z3 z4 zf0 zf1 zf2 zf3 zf4 hb3 hT3 r0 r1 r2 r4 rf1 rf2 k0 k1 k2 k3
          go_wp2_with fail
          have KA : ∀ g, g < w3.heap.size → (w3.alloc (X5d k n t (.slice ra3 s.len cap3) d)).heap[g]? = w3.heap[g]? := fun g hg => Below.heap_alloc _ _ _ hg
          have QX : (w3.alloc (X5d k n t (.slice ra3 s.len cap3) d)).heap[w3.heap.size]? = some (.cells #[.int .u8 k, .int .i64 n, S t, .slice ra3 s.len cap3, .bool d] 58 (0, 0)) := World.alloc_heap_new _ _
          have KW : ∀ g, w1.heap.size + 1 ≤ g → g < wr.heap.size → (w3.alloc (X5d k n t (.slice ra3 s.len cap3) d)).heap[g]? = wr.heap[g]? := fun g h1 h2 => (KA g (by omega)).trans (HB3.out.block g h2 (by omega))
          have QD : (w3.alloc (X5d k n t (.slice ra3 s.len cap3) d)).heap[w1.heap.size]? = some (.cells #[.int .u8 5, .int .i64 0, .string ⟨#[]⟩, .slice ra f.len cv, .bool false] 58 (0, 0)) := (KA _ (by omega)).trans ((HB3.out.block _ hDl nc).trans HV.out)
          have QR : (w3.alloc (X5d k n t (.slice ra3 s.len cap3) d)).heap[w.heap.size]? = some Z5 := (KA _ (by omega)).trans ((HB3.out.block _ hwl na).trans HQ.out)
          have TS : Tree (w3.alloc (X5d k n t (.slice ra3 s.len cap3) d)) wr.heap.size (.slice ra3 s.len cap3) s := HT3.out.kept (fun g _ hg => KA g hg)
          have BB : ButB w.heap.size rb w (w3.alloc (X5d k n t (.slice ra3 s.len cap3) d)) := HB.out.trans ((HB3.out.alloc _).b (by omega))
          have SX : w3.heap.size < (w3.alloc (X5d k n t (.slice ra3 s.len cap3) d)).heap.size := by simp
          have hrn : Rn (w3.alloc (X5d k n t (.slice ra3 s.len cap3) d)) rb tb T cap j3 (o + 1) c1 := A3.reader.kept (KA _ A3.reader.lt)
          have hrow : TRow (w3.alloc (X5d k n t (.slice ra3 s.len cap3) d)) tb xs := A3.row.kept (KA _ A3.row.1) (by simp)
          clear hr3 A3
          generalize w3.alloc (X5d k n t (.slice ra3 s.len cap3) d) = wB at *
          clear HB3 HT3
          obtain ⟨g0, g1, g2, g3⟩ := hrow.2 _ x3 Hx3.out
          have e0 := hrn.c0
          have e4 := hrn.c4
          have e1 := hrn.c1
          have e2 := hrn.c2
          have ef1 := hrn.fr 1
          have ef2 := hrn.fr 2
          have hi3 : (j3 : Int) < (T : Int) := by omega
          have HRn : Hid (Rn wB rb tb T cap j3 (o + 1) c1) := hrn
          have HRw : Hid (TRow wB tb xs) := hrow
          clear hrn hrow
          obtain ⟨y0, y1, y2, y3, y4, yf⟩ := cells5 QD
          have yf3 := yf 3
          have yf4 := yf 4
          obtain ⟨p0, p1, p2, p3, p4, _⟩ := cells5 QX
          have HQD : Hid _ := QD
          have HQX : Hid _ := QX
          have HQR : Hid (wB.heap[w.heap.size]? = some Z5) := QR
          have HKW : Hid (∀ g, w1.heap.size + 1 ≤ g → g < wr.heap.size → wB.heap[g]? = wr.heap[g]?) := KW
          have HTS : Hid (Tree wB wr.heap.size (.slice ra3 s.len cap3) s) := TS
          have HBB : Hid (ButB w.heap.size rb w wB) := BB
          clear yf KA QD QX QR KW TS BB
          by_cases h32 : x3.1.kind = 2
          · have hTl : rdf 0 ts2 (o + 1) c' = .ok (.cons k n t s d .nil) d1 (x3.1 :: rr1) c1 := by rw [HX3.out, Hxe3.out]
            rw [h32] at g0
            have H32 : Hid (x3.1.kind = 2) := h32
            have HTl : Hid _ := hTl
            clear h32 hTl
            by_cases hk5 : k = 5
            · have b5 : (k == 5) = true := beq_iff_eq.2 hk5
              have hR2 : res = .ok (.cons 5 0 [] (f.app s) d .nil) false rr1 c1 := by
                rw [HD2.out, HTl.out]; simp [Res.tail, H32.out, tailOf, hk5, Res.behind, Res.list]
              have HR2 : Hid _ := hR2
              clear hR2
              go_wp2_with fail
              go_quiet (fail)
              go_wp2_with (at_builtin; refine stop_of ?_)
              unfold Hid
              obtain ⟨cs, bs, ho1, hrr1, hnd⟩ := HT.out.ex
              obtain ⟨ncs, nbs, nho, nhr, nnd⟩ := HTS.out.ex
              have hold : ∀ y ∈ own1 (.slice ra f.len cv) ++ bs, y < wr.heap.size := by
                intro y hy
                rcases List.mem_append.1 hy with h | h
                · exact (ho1.lt y (mem_own1.1 h)).2
                · exact (hrr1.lt y h).2
              have hoB := own_same ho1 (fun g hg => HKW.out g (ho1.lt g hg).1 (ho1.lt g hg).2)
              have hrB := hrr1.kept (fun g hg => HKW.out g (hrr1.lt g hg).1 (hrr1.lt g hg).2)
              have vb : ∀ g, (Value.slice ra f.len cv).ownBlock = some g → w1.heap.size + 1 ≤ g ∧ g < wr.heap.size := fun g hg => ho1.lt g hg
              refine wpList_append_tree _ rfl _ _ rfl (w1.heap.size + 1) wr.heap.size f s ra cv rfl cs bs ⟨own_same hoB (fun g hg => rfl), hrB.kept (fun g hg => rfl), hnd⟩ hold ra3 cap3 rfl ncs nbs (nhr.kept (fun g hg => rfl)) (List.nodup_append.1 nnd).2.1 (fun ad h j u hj => by subst h; exact (own_same nho (fun _ _ => rfl)).cells_some j u hj) (own_ne nho) (by omega) (by omega) (by show w1.heap.size + 1 ≤ wB.heap.size; omega) ?_
              intro ra6 cap6 w6 hT6 hk6 hs6 ho6 ht6 hu6
              have hkB : ∀ y, y < wB.heap.size → (Value.slice ra f.len cv).ownBlock ≠ some y → w6.heap[y]? = wB.heap[y]? := fun y hy hv => (hk6 y hy hv).trans (rfl)
              have sB6 : wB.heap.size ≤ w6.heap.size := hs6
              have QD6 := (hkB w1.heap.size (by omega) (fun e => by have := (vb _ e).1; omega)).trans HQD.out
              have QX6 := (hkB w3.heap.size SX (fun e => by have := (vb _ e).2; omega)).trans HQX.out
              have QR6 : w6.heap[w.heap.size]? = some Z5 := (hkB w.heap.size (by omega) (fun e => by have := (vb _ e).1; omega)).trans HQR.out
              have HB6 : Hid (ButB w.heap.size rb w w6) := HBB.out.trans ⟨ho6, ht6, hu6, sB6, fun y hy _ => hkB y (by omega) (fun e => by have := (vb _ e).1; omega)⟩
              have HT6 : Hid (Tree w6 (w1.heap.size + 1) (.slice ra6 (f.len + Fo.len s) cap6) (f.app s)) := hT6
              clear g0 g1 g2 g3 e0 y0 y1 y2 y3 y4 yf3 yf4 p0 p1 p2 p3 p4 e4 e1 e2 ef1 ef2
              obtain ⟨y0, y1, y2, y3, y4, yf⟩ := cells5 QD6
              have yf3 := yf 3
              have yf4 := yf 4
              obtain ⟨p0, p1, p2, p3, p4, _⟩ := cells5 QX6
              obtain ⟨z0, z1, z2, z3, z4, zf⟩ := cells5 QR6
              have zf0 := zf 0
              have zf1 := zf 1
              have zf2 := zf 2
              have zf3 := zf 3
              have zf4 := zf 4
              have nx : ¬ w3.heap.size = w1.heap.size := by omega
              have nx' : ¬ w1.heap.size = w3.heap.size := by omega
              have nw : ¬ w3.heap.size = rb := by omega
              have nw' : ¬ rb = w3.heap.size := by omega
              have ny : ¬ w3.heap.size = w.heap.size := by omega
              have ny' : ¬ w.heap.size = w3.heap.size := by omega
              have hre : Rn w6 rb tb T cap j3 (o + 1) c1 := HRn.out.kept (hkB rb HRn.out.lt (fun e => by have := (vb _ e).1; omega))
              have e1 := hre.c1
              have e2 := hre.c2
              have ef1 := hre.fr 1
              have ef2 := hre.fr 2
              have HRe6 : Hid _ := hre
              have HQR6 : Hid _ := QR6
              clear hT6 hk6 hs6 ho6 ht6 hu6 hkB vb hoB hrB hold ho1 hrr1 hnd nho nhr nnd yf zf QD6 QX6 QR6 hre
              go_wp2_with fail
              refine bodyPost_five (s := 2) rfl rfl rfl ((set4_other ne na).trans HQR6.out) fun W5 o5 b5 => ?_
              rw [HR2.out]
              change ButB _ _ _ _ ∧ _
              refine ⟨(sets_but HB6.out (by omega) (by omega)).trans (b5 _ _ (Nat.le_refl _)), 5, 0, [], f.app s, d, _, rfl, rfl, ?_, tree_down w.heap.size w1.heap.size s1 (HT6.out.kept (fun y hy _ => (o5 y (by omega)).trans (set4_other (by omega) (by omega))))⟩
              rw [show T - rr1.length = j3 + 1 by omega]
              exact (((HRe6.out.kept (W' := (w6.setCell ⟨w1.heap.size, 3, none⟩ _).setCell ⟨w1.heap.size, 4, none⟩ _) ((Below.heap_setCell _ _ _ _ nd).trans (Below.heap_setCell _ _ _ _ nd))).set1 (j3 + 1)).set2 o).kept (o5 _ nb)
            · have b5 : (k == 5) = false := beq_eq_false_iff_ne.2 hk5
              have hR2 : res = .ok (.cons 5 0 [] (f.app (.cons k n t s d .nil)) true .nil) false rr1 c1 := by
                rw [HD2.out, HTl.out]; simp [Res.tail, H32.out, tailOf, hk5, Res.behind, Res.list]
              have HR2 : Hid _ := hR2
              clear hR2
              go_wp2_with fail
              go_quiet (fail)
              go_wp2_with (at_builtin; refine stop_of ?_)
              unfold Hid
              obtain ⟨cs, bs, ho1, hrr1, hnd⟩ := HT.out.ex
              obtain ⟨ncs, nbs, nho, nhr, nnd⟩ := HTS.out.ex
              have hold : ∀ y ∈ own1 (.slice ra f.len cv) ++ bs, y < wr.heap.size := by
                intro y hy
                rcases List.mem_append.1 hy with h | h
                · exact (ho1.lt y (mem_own1.1 h)).2
                · exact (hrr1.lt y h).2
              have hoB := own_same ho1 (fun g hg => HKW.out g (ho1.lt g hg).1 (ho1.lt g hg).2)
              have hrB := hrr1.kept (fun g hg => HKW.out g (hrr1.lt g hg).1 (hrr1.lt g hg).2)
              have vb : ∀ g, (Value.slice ra f.len cv).ownBlock = some g → w1.heap.size + 1 ≤ g ∧ g < wr.heap.size := fun g hg => ho1.lt g hg
              refine wpList_append_tree _ rfl _ _ rfl (w1.heap.size + 1) wr.heap.size f (.cons k n t s d .nil) ra cv rfl cs bs ⟨own_same hoB (fun g hg => Below.heap_alloc _ _ _ ((hoB.lt g hg).2)), hrB.kept (fun g hg => Below.heap_alloc _ _ _ ((hrB.lt g hg).2)), hnd⟩ hold (some ⟨_, 0, none⟩) 1 rfl [.int .u8 k, .int .i64 n, S t, .slice ra3 s.len cap3, .bool d] _ (Row.single (own_same nho (fun g hg => Below.heap_alloc _ _ _ (nho.lt g hg).2)) (nhr.kept (fun g hg => Below.heap_alloc _ _ _ (nhr.lt g hg).2))) nnd (fun ad h => by cases h; exact cell_five_at _ _ rfl _ _ _ _ _ _) (fun _ h => by cases h) (by omega) (by simp [Fo.len]; omega) (by rw [World.size_alloc]; show w1.heap.size + 1 ≤ wB.heap.size + 1; omega) ?_
              intro ra6 cap6 w6 hT6 hk6 hs6 ho6 ht6 hu6
              have hkB : ∀ y, y < wB.heap.size → (Value.slice ra f.len cv).ownBlock ≠ some y → w6.heap[y]? = wB.heap[y]? := fun y hy hv => (hk6 y (by rw [World.size_alloc]; exact Nat.lt_succ_of_lt hy) hv).trans (Below.heap_alloc _ _ _ (hy))
              have sB6 : wB.heap.size ≤ w6.heap.size := Nat.le_trans (by rw [World.size_alloc]; exact Nat.le_succ _) hs6
              have QD6 := (hkB w1.heap.size (by omega) (fun e => by have := (vb _ e).1; omega)).trans HQD.out
              have QX6 := (hkB w3.heap.size SX (fun e => by have := (vb _ e).2; omega)).trans HQX.out
              have QR6 : w6.heap[w.heap.size]? = some Z5 := (hkB w.heap.size (by omega) (fun e => by have := (vb _ e).1; omega)).trans HQR.out
              have HB6 : Hid (ButB w.heap.size rb w w6) := HBB.out.trans ⟨ho6, ht6, hu6, sB6, fun y hy _ => hkB y (by omega) (fun e => by have := (vb _ e).1; omega)⟩
              have HT6 : Hid (Tree w6 (w1.heap.size + 1) (.slice ra6 (f.len + Fo.len (.cons k n t s d .nil)) cap6) (f.app (.cons k n t s d .nil))) := hT6
              clear g0 g1 g2 g3 e0 y0 y1 y2 y3 y4 yf3 yf4 p0 p1 p2 p3 p4 e4 e1 e2 ef1 ef2
              obtain ⟨y0, y1, y2, y3, y4, yf⟩ := cells5 QD6
              have yf3 := yf 3
              have yf4 := yf 4
              obtain ⟨p0, p1, p2, p3, p4, _⟩ := cells5 QX6
              obtain ⟨z0, z1, z2, z3, z4, zf⟩ := cells5 QR6
              have zf0 := zf 0
              have zf1 := zf 1
              have zf2 := zf 2
              have zf3 := zf 3
              have zf4 := zf 4
              have nx : ¬ w3.heap.size = w1.heap.size := by omega
              have nx' : ¬ w1.heap.size = w3.heap.size := by omega
              have nw : ¬ w3.heap.size = rb := by omega
              have nw' : ¬ rb = w3.heap.size := by omega
              have ny : ¬ w3.heap.size = w.heap.size := by omega
              have ny' : ¬ w.heap.size = w3.heap.size := by omega
              have hre : Rn w6 rb tb T cap j3 (o + 1) c1 := HRn.out.kept (hkB rb HRn.out.lt (fun e => by have := (vb _ e).1; omega))
              have e1 := hre.c1
              have e2 := hre.c2
              have ef1 := hre.fr 1
              have ef2 := hre.fr 2
              have HRe6 : Hid _ := hre
              have HQR6 : Hid _ := QR6
              clear hT6 hk6 hs6 ho6 ht6 hu6 hkB vb hoB hrB hold ho1 hrr1 hnd nho nhr nnd yf zf QD6 QX6 QR6 hre
              go_wp2_with fail
              refine bodyPost_five (s := 2) rfl rfl rfl ((set4_other ne na).trans HQR6.out) fun W5 o5 b5 => ?_
              rw [HR2.out]
              change ButB _ _ _ _ ∧ _
              refine ⟨(sets_but HB6.out (by omega) (by omega)).trans (b5 _ _ (Nat.le_refl _)), 5, 0, [], f.app (.cons k n t s d .nil), true, _, rfl, rfl, ?_, tree_down w.heap.size w1.heap.size s1 (HT6.out.kept (fun y hy _ => (o5 y (by omega)).trans (set4_other (by omega) (by omega))))⟩
              rw [show T - rr1.length = j3 + 1 by omega]
              exact (((HRe6.out.kept (W' := (w6.setCell ⟨w1.heap.size, 3, none⟩ _).setCell ⟨w1.heap.size, 4, none⟩ _) ((Below.heap_setCell _ _ _ _ nd).trans (Below.heap_setCell _ _ _ _ nd))).set1 (j3 + 1)).set2 o).kept (o5 _ nb)
          · have b32 : (x3.1.kind == 2) = false := beq_eq_false_iff_ne.2 h32
            have b32' : (x3.1.kind != 2) = true := by simp [bne, b32]
            have hR2 : res = .bad 60 x3.1.pos := by rw [HD2.out, HX3.out, Hxe3.out]; simp [Res.tail, h32, Res.behind, Res.list]
            have HR2 : Hid _ := hR2
            clear h32 hR2
            go_wp2_with fail
            go_quiet (fail)
            go_wp2_with fail
            refine (fails_new rb tb T cap j3 (o + 1) c1 60 xs x3 _ (Rn.kept (W' := wB.drewN _) HRn.out rfl) HA'.out.hT (by omega) (TRow.kept (w' := wB.drewN _) HRw.out rfl (Nat.le_refl _)) Hx3.out).mono ?_
            rintro en w4 ⟨⟨v4, rfl⟩, hb4, gx, hre⟩
            have KA : ∀ g, g < wB.heap.size → g ≠ rb → w4.heap[g]? = wB.heap[g]? := fun g hg hne => hb4.block g hg hne
            have s4 : wB.heap.size ≤ w4.heap.size := hb4.size
            have QD := (KA w1.heap.size (by omega) nc).trans HQD.out
            have QX := (KA w3.heap.size SX (by omega)).trans HQX.out
            have QR : w4.heap[w.heap.size]? = some Z5 := (KA w.heap.size (by omega) na).trans HQR.out
            have KW : ∀ g, w1.heap.size + 1 ≤ g → g < wr.heap.size → w4.heap[g]? = wr.heap[g]? := fun g h1 h2 => (KA g (by omega) (by omega)).trans (HKW.out g h1 h2)
            have TS : Tree w4 wr.heap.size (.slice ra3 s.len cap3) s := HTS.out.kept (fun g hg hg' => KA g hg' (by omega))
            have BB : ButB w.heap.size rb w w4 := HBB.out.trans ((((But.refl rb wB).drewN _).trans hb4).b (by omega))
            have SX4 : w3.heap.size < w4.heap.size := by omega
            clear hb4 g0 g1 g2 g3 e0 e4 e1 e2 ef1 ef2 y0 y1 y2 y3 y4 yf3 yf4 p0 p1 p2 p3 p4 HQD HQX HQR HKW HTS HBB SX HRn HRw
            have SX := SX4
            clear SX4 s4
            have e4 := hre.c4
            have e1 := hre.c1
            have e2 := hre.c2
            have ef1 := hre.fr 1
            have ef2 := hre.fr 2
            have HRe : Hid _ := hre
            clear hre
            obtain ⟨y0, y1, y2, y3, y4, yf⟩ := cells5 QD
            have yf3 := yf 3
            have yf4 := yf 4
            obtain ⟨p0, p1, p2, p3, p4, _⟩ := cells5 QX
            have HQD : Hid _ := QD
            have HQX : Hid _ := QX
            have HQR : Hid (w4.heap[w.heap.size]? = some Z5) := QR
            have HKW : Hid (∀ g, w1.heap.size + 1 ≤ g → g < wr.heap.size → w4.heap[g]? = wr.heap[g]?) := KW
            have HTS : Hid (Tree w4 wr.heap.size (.slice ra3 s.len cap3) s) := TS
            have HBB : Hid (ButB w.heap.size rb w w4) := BB
            clear yf KA QD QX QR KW TS BB
            by_cases hk5 : k = 5
            · have b5 : (k == 5) = true := beq_iff_eq.2 hk5
              go_wp2_with (at_builtin; refine stop_of ?_)
              unfold Hid
              obtain ⟨cs, bs, ho1, hrr1, hnd⟩ := HT.out.ex
              obtain ⟨ncs, nbs, nho, nhr, nnd⟩ := HTS.out.ex
              have hold : ∀ y ∈ own1 (.slice ra f.len cv) ++ bs, y < wr.heap.size := by
                intro y hy
                rcases List.mem_append.1 hy with h | h
                · exact (ho1.lt y (mem_own1.1 h)).2
                · exact (hrr1.lt y h).2
              have hoB := own_same ho1 (fun g hg => HKW.out g (ho1.lt g hg).1 (ho1.lt g hg).2)
              have hrB := hrr1.kept (fun g hg => HKW.out g (hrr1.lt g hg).1 (hrr1.lt g hg).2)
              have vb : ∀ g, (Value.slice ra f.len cv).ownBlock = some g → w1.heap.size + 1 ≤ g ∧ g < wr.heap.size := fun g hg => ho1.lt g hg
              refine wpList_append_tree _ rfl _ _ rfl (w1.heap.size + 1) wr.heap.size f s ra cv rfl cs bs ⟨own_same hoB (fun g hg => rfl), hrB.kept (fun g hg => rfl), hnd⟩ hold ra3 cap3 rfl ncs nbs (nhr.kept (fun g hg => rfl)) (List.nodup_append.1 nnd).2.1 (fun ad h j u hj => by subst h; exact (own_same nho (fun _ _ => rfl)).cells_some j u hj) (own_ne nho) (by omega) (by omega) (by show w1.heap.size + 1 ≤ w4.heap.size; omega) ?_
              intro ra6 cap6 w6 hT6 hk6 hs6 ho6 ht6 hu6
              have hkB : ∀ y, y < w4.heap.size → (Value.slice ra f.len cv).ownBlock ≠ some y → w6.heap[y]? = w4.heap[y]? := fun y hy hv => (hk6 y hy hv).trans (rfl)
              have sB6 : w4.heap.size ≤ w6.heap.size := hs6
              have QD6 := (hkB w1.heap.size (by omega) (fun e => by have := (vb _ e).1; omega)).trans HQD.out
              have QX6 := (hkB w3.heap.size SX (fun e => by have := (vb _ e).2; omega)).trans HQX.out
              have QR6 : w6.heap[w.heap.size]? = some Z5 := (hkB w.heap.size (by omega) (fun e => by have := (vb _ e).1; omega)).trans HQR.out
              have HB6 : Hid (ButB w.heap.size rb w w6) := HBB.out.trans ⟨ho6, ht6, hu6, sB6, fun y hy _ => hkB y (by omega) (fun e => by have := (vb _ e).1; omega)⟩
              have HT6 : Hid (Tree w6 (w1.heap.size + 1) (.slice ra6 (f.len + Fo.len s) cap6) (f.app s)) := hT6
              clear y0 y1 y2 y3 y4 yf3 yf4 p0 p1 p2 p3 p4 e4 e1 e2 ef1 ef2
              obtain ⟨y0, y1, y2, y3, y4, yf⟩ := cells5 QD6
              have yf3 := yf 3
              have yf4 := yf 4
              obtain ⟨p0, p1, p2, p3, p4, _⟩ := cells5 QX6
              obtain ⟨z0, z1, z2, z3, z4, zf⟩ := cells5 QR6
              have zf0 := zf 0
              have zf1 := zf 1
              have zf2 := zf 2
              have zf3 := zf 3
              have zf4 := zf 4
              have nx : ¬ w3.heap.size = w1.heap.size := by omega
              have nx' : ¬ w1.heap.size = w3.heap.size := by omega
              have nw : ¬ w3.heap.size = rb := by omega
              have nw' : ¬ rb = w3.heap.size := by omega
              have ny : ¬ w3.heap.size = w.heap.size := by omega
              have ny' : ¬ w.heap.size = w3.heap.size := by omega
              have hre := re_far HRe.out hoB (by omega) hkB
              have e1 := hre.c1
              have e2 := hre.c2
              have ef1 := hre.fr 1
              have ef2 := hre.fr 2
              have HRe6 : Hid _ := hre
              have HQR6 : Hid _ := QR6
              have HQD6 : Hid _ := QD6
              clear hT6 hk6 hs6 ho6 ht6 hu6 hkB vb hoB hrB hold ho1 hrr1 hnd nho nhr nnd yf zf QD6 QX6 QR6 hre
              go_wp2_with fail
              refine bodyPost_five (s := 2) rfl rfl rfl ((set4_other ne na).trans HQR6.out) fun W5 o5 b5 => ?_
              rw [HR2.out]
              change ButB _ _ _ _ ∧ _
              refine ⟨(sets_but HB6.out (by omega) (by omega)).trans (b5 _ _ (Nat.le_refl _)), 5, 0, [], f.app s, d, _, rfl, ?_, tree_down w.heap.size w1.heap.size s1 (HT6.out.kept (fun y hy _ => (o5 y (by omega)).trans (set4_other (by omega) (by omega)))), by rw [Fo.len_app]; omega⟩
              have hgD : gx ≠ w1.heap.size := fun e => by have := HRe6.out.wrong; rw [e, HQD6.out] at this; simp at this
              exact rx_kept (((HRe6.out.kept (W' := (w6.setCell ⟨w1.heap.size, 3, none⟩ _).setCell ⟨w1.heap.size, 4, none⟩ _) ((Below.heap_setCell _ _ _ _ nd).trans (Below.heap_setCell _ _ _ _ nd)) ((Below.heap_setCell _ _ _ _ hgD).trans (Below.heap_setCell _ _ _ _ hgD))).set1 _).set2 _).rx ((set4_other ne na).trans HQR6.out) nb o5
            · have b5 : (k == 5) = false := beq_eq_false_iff_ne.2 hk5
              go_wp2_with (at_builtin; refine stop_of ?_)
              unfold Hid
              obtain ⟨cs, bs, ho1, hrr1, hnd⟩ := HT.out.ex
              obtain ⟨ncs, nbs, nho, nhr, nnd⟩ := HTS.out.ex
              have hold : ∀ y ∈ own1 (.slice ra f.len cv) ++ bs, y < wr.heap.size := by
                intro y hy
                rcases List.mem_append.1 hy with h | h
                · exact (ho1.lt y (mem_own1.1 h)).2
                · exact (hrr1.lt y h).2
              have hoB := own_same ho1 (fun g hg => HKW.out g (ho1.lt g hg).1 (ho1.lt g hg).2)
              have hrB := hrr1.kept (fun g hg => HKW.out g (hrr1.lt g hg).1 (hrr1.lt g hg).2)
              have vb : ∀ g, (Value.slice ra f.len cv).ownBlock = some g → w1.heap.size + 1 ≤ g ∧ g < wr.heap.size := fun g hg => ho1.lt g hg
              refine wpList_append_tree _ rfl _ _ rfl (w1.heap.size + 1) wr.heap.size f (.cons k n t s d .nil) ra cv rfl cs bs ⟨own_same hoB (fun g hg => Below.heap_alloc _ _ _ ((hoB.lt g hg).2)), hrB.kept (fun g hg => Below.heap_alloc _ _ _ ((hrB.lt g hg).2)), hnd⟩ hold (some ⟨_, 0, none⟩) 1 rfl [.int .u8 k, .int .i64 n, S t, .slice ra3 s.len cap3, .bool d] _ (Row.single (own_same nho (fun g hg => Below.heap_alloc _ _ _ (nho.lt g hg).2)) (nhr.kept (fun g hg => Below.heap_alloc _ _ _ (nhr.lt g hg).2))) nnd (fun ad h => by cases h; exact cell_five_at _ _ rfl _ _ _ _ _ _) (fun _ h => by cases h) (by omega) (by simp [Fo.len]; omega) (by rw [World.size_alloc]; show w1.heap.size + 1 ≤ w4.heap.size + 1; omega) ?_
              intro ra6 cap6 w6 hT6 hk6 hs6 ho6 ht6 hu6
              have hkB : ∀ y, y < w4.heap.size → (Value.slice ra f.len cv).ownBlock ≠ some y → w6.heap[y]? = w4.heap[y]? := fun y hy hv => (hk6 y (by rw [World.size_alloc]; exact Nat.lt_succ_of_lt hy) hv).trans (Below.heap_alloc _ _ _ (hy))
              have sB6 : w4.heap.size ≤ w6.heap.size := Nat.le_trans (by rw [World.size_alloc]; exact Nat.le_succ _) hs6
              have QD6 := (hkB w1.heap.size (by omega) (fun e => by have := (vb _ e).1; omega)).trans HQD.out
              have QX6 := (hkB w3.heap.size SX (fun e => by have := (vb _ e).2; omega)).trans HQX.out
              have QR6 : w6.heap[w.heap.size]? = some Z5 := (hkB w.heap.size (by omega) (fun e => by have := (vb _ e).1; omega)).trans HQR.out
              have HB6 : Hid (ButB w.heap.size rb w w6) := HBB.out.trans ⟨ho6, ht6, hu6, sB6, fun y hy _ => hkB y (by omega) (fun e => by have := (vb _ e).1; omega)⟩
              have HT6 : Hid (Tree w6 (w1.heap.size + 1) (.slice ra6 (f.len + Fo.len (.cons k n t s d .nil)) cap6) (f.app (.cons k n t s d .nil))) := hT6
              clear y0 y1 y2 y3 y4 yf3 yf4 p0 p1 p2 p3 p4 e4 e1 e2 ef1 ef2
              obtain ⟨y0, y1, y2, y3, y4, yf⟩ := cells5 QD6
              have yf3 := yf 3
              have yf4 := yf 4
              obtain ⟨p0, p1, p2, p3, p4, _⟩ := cells5 QX6
              obtain ⟨z0, z1, z2, z3, z4, zf⟩ := cells5 QR6
              have zf0 := zf 0
              have zf1 := zf 1
              have zf2 := zf 2
              have zf3 := zf 3
              have zf4 := zf 4
              have nx : ¬ w3.heap.size = w1.heap.size := by omega
              have nx' : ¬ w1.heap.size = w3.heap.size := by omega
              have nw : ¬ w3.heap.size = rb := by omega
              have nw' : ¬ rb = w3.heap.size := by omega
              have ny : ¬ w3.heap.size = w.heap.size := by omega
              have ny' : ¬ w.heap.size = w3.heap.size := by omega
              have hre := re_far HRe.out hoB (by omega) hkB
              have e1 := hre.c1
              have e2 := hre.c2
              have ef1 := hre.fr 1
              have ef2 := hre.fr 2
              have HRe6 : Hid _ := hre
              have HQR6 : Hid _ := QR6
              have HQD6 : Hid _ := QD6
              clear hT6 hk6 hs6 ho6 ht6 hu6 hkB vb hoB hrB hold ho1 hrr1 hnd nho nhr nnd yf zf QD6 QX6 QR6 hre
              go_wp2_with fail
              refine bodyPost_five (s := 2) rfl rfl rfl ((set4_other ne na).trans HQR6.out) fun W5 o5 b5 => ?_
              rw [HR2.out]
              change ButB _ _ _ _ ∧ _
              refine ⟨(sets_but HB6.out (by omega) (by omega)).trans (b5 _ _ (Nat.le_refl _)), 5, 0, [], f.app (.cons k n t s d .nil), true, _, rfl, ?_, tree_down w.heap.size w1.heap.size s1 (HT6.out.kept (fun y hy _ => (o5 y (by omega)).trans (set4_other (by omega) (by omega)))), by rw [Fo.len_app]; simp [Fo.len]; omega⟩
              have hgD : gx ≠ w1.heap.size := fun e => by have := HRe6.out.wrong; rw [e, HQD6.out] at this; simp at this
              exact rx_kept (((HRe6.out.kept (W' := (w6.setCell ⟨w1.heap.size, 3, none⟩ _).setCell ⟨w1.heap.size, 4, none⟩ _) ((Below.heap_setCell _ _ _ _ nd).trans (Below.heap_setCell _ _ _ _ nd)) ((Below.heap_setCell _ _ _ _ hgD).trans (Below.heap_setCell _ _ _ _ hgD))).set1 _).set2 _).rx ((set4_other ne na).trans HQR6.out) nb o5
      have b4 : (x2.1.kind == 4) = false := beq_eq_false_iff_ne.2 h4
      have b4' : (x2.1.kind != 4) = true := by simp [bne, b4]
      have hM : rdf (md f) (x2.1 :: ts2) (o + 1) c' = more rdf 2 (x2.1 :: ts2) (o + 1) c' := by rw [rdf_lst hm0]; unfold lst; rw [if_neg hm3, if_neg h2, if_neg h4]
      have HM : Hid _ := hM
      clear h2 h4 hM hm0 hm3
      go_wp2_with fail
      go_quiet (fail)
      go_wp2_with fail
      cases hX : rdf 0 (x2.1 :: ts2) (o + 1) c' with
      | bad e p =>
        have hR2 : res = .bad e p := by rw [HRs.out, HM.out]; unfold more; rw [hX]; rfl
        have HR2 : Hid (res = .bad e p) := hR2
        have HX3 : Hid (rdf 0 (x2.1 :: ts2) (o + 1) c' = .bad e p) := hX
        clear hX hR2
        refine (HD.out _ i' (o + 1) c' (x2.1 :: ts2) (HA'.out.drewN _) hN').mono ?_
        rw [HX3.out]
        rintro en w3 ⟨hb3, k, n, t, s, d, kv, rfl, hr3, hT3, hs3⟩
        obtain ⟨ra3, cap3, rfl⟩ := hT3.slice
        have B3 : But rb wr w3 := ((But.refl rb wr).drewN _).trans hb3.but
        have q3 : w3.heap[w1.heap.size]? = some (.cells #[.int .u8 5, .int .i64 0, .string ⟨#[]⟩, .slice ra f.len cv, .bool false] 58 (0, 0)) := (B3.block _ hDl nc).trans HV.out
        have HB3 : Hid (But rb wr w3) := B3
        have HV3 : Hid (w3.heap[w1.heap.size]? = some (.cells #[.int .u8 5, .int .i64 0, .string ⟨#[]⟩, .slice ra f.len cv, .bool false] 58 (0, 0))) := q3
        have HT3 : Hid (Tree w3 wr.heap.size (.slice ra3 s.len cap3) s) := hT3
        have s3 := B3.size
        clear B3 y0 y1 y2 y3 y4 yf3 yf4
        obtain ⟨y0, y1, y2, y3, y4, yf⟩ := cells5 q3
        have yf3 := yf 3
        have lD : w1.heap.size < w3.heap.size := by omega
        have lD' : w1.heap.size < w3.heap.size + 1 := by omega
        have hfm : f.len ≤ 100000 := by omega
        have Hfm : Hid (f.len ≤ 100000) := hfm
        have HRx : Hid (Rx w3 rb e p) := hr3
        clear hb3 hT3 hr3 yf q3
        go_wp2_with (at_builtin; refine stop_of ?_)
        unfold Hid
        obtain ⟨cs, bs, ho1, hrr1, hnd⟩ := HT.out.ex
        have hkk : ∀ g, w1.heap.size + 1 ≤ g → g < wr.heap.size → w3.heap[g]? = wr.heap[g]? := fun g h1 h2 => HB3.out.block g h2 (by omega)
        have ho := own_same ho1 (fun g hg => hkk g (ho1.lt g hg).1 (ho1.lt g hg).2)
        have hrr := hrr1.kept (fun g hg => hkk g (hrr1.lt g hg).1 (hrr1.lt g hg).2)
        have hold : ∀ y ∈ own1 (.slice ra f.len cv) ++ bs, y < wr.heap.size := by
          intro y hy
          rcases List.mem_append.1 hy with h | h
          · exact (ho1.lt y (mem_own1.1 h)).2
          · exact (hrr1.lt y h).2
        refine wpList_append_lies _ rfl _ _ 23 rfl (w1.heap.size + 1) 58 i0 (.agg #[.int .u8 0, .int .i64 0, .string ⟨#[]⟩, .slice none 0 0, .bool false]) 5 64 Tryz.underlying23 hi0 hz0 hz1 hz2 rfl (by decide) (.slice ra f.len cv) f.len cs rfl ((ho.alloc _).alloc _) ⟨_, 0, none⟩ 1 1 [.int .u8 k, .int .i64 n, S t, .slice ra3 s.len cap3, .bool d] rfl rfl (cell_five_at _ _ (by simp) _ _ _ _ _ _) (five_one _ _ _ _ _ _ _) (by omega) (by have := Hfm.out; unfold maxLen; omega) (by have := Hfm.out; omega) (by simp; omega) _ rfl ?_
        intro gg cap6 w6 hown hgr hat hlt6
        have vb : ∀ g, (Value.slice ra f.len cv).ownBlock = some g → w1.heap.size + 1 ≤ g := fun g hg => (ho.lt g hg).1
        have HT6 : Hid (Tree w6 (w1.heap.size + 1) (.slice (some ⟨gg, 0, none⟩) (f.len + 1) cap6) (f.app (.cons k n t s d .nil))) :=
          tree_snoc ⟨(ho.alloc _).alloc _, (hrr.alloc _).alloc _, hnd⟩ rfl ((HT3.out.kept (fun g _ hg => (Below.heap_alloc _ _ _ (by simp; omega)).trans (Below.heap_alloc _ _ _ hg)))) (by omega) hold hown hgr hat
        have hb6 : ∀ g, g < w1.heap.size + 1 → w6.heap[g]? = w3.heap[g]? := fun g hg => (hgr.block g (by simp; omega) (fun e => by have := vb g e.symm; omega)).trans ((Below.heap_alloc _ _ _ (by simp; omega)).trans (Below.heap_alloc _ _ _ (by omega)))
        have q6 : w6.heap[w1.heap.size]? = some (.cells #[.int .u8 5, .int .i64 0, .string ⟨#[]⟩, .slice ra f.len cv, .bool false] 58 (0, 0)) := (hb6 _ (by omega)).trans HV3.out
        obtain ⟨p0, p1, p2, p3, p4, pf⟩ := cells5 q6
        have pf3 := pf 3
        have HQ6 : Hid _ := q6
        have HV7 : Hid ((w6.setCell ⟨w1.heap.size, 3, none⟩ (.slice (some ⟨gg, 0, none⟩) (f.len + 1) cap6)).heap[w1.heap.size]? = some (.cells #[.int .u8 5, .int .i64 0, .string ⟨#[]⟩, .slice (some ⟨gg, 0, none⟩) (f.len + 1) cap6, .bool false] 58 (0, 0))) := set_at q6 _
        have HT7 : Hid (Tree (w6.setCell ⟨w1.heap.size, 3, none⟩ (.slice (some ⟨gg, 0, none⟩) (f.len + 1) cap6)) (w1.heap.size + 1) (.slice (some ⟨gg, 0, none⟩) (f.len + 1) cap6) (f.app (.cons k n t s d .nil))) := HT6.out.kept (fun g hg _ => Below.heap_setCell _ _ _ _ (by show g ≠ w1.heap.size; omega))
        have s6 : w3.heap.size ≤ w6.heap.size := by have := hgr.size; simp at this; omega
        have HB7 : Hid (ButB w.heap.size rb w (w6.setCell ⟨w1.heap.size, 3, none⟩ (.slice (some ⟨gg, 0, none⟩) (f.len + 1) cap6))) := (HB.out.trans (HB3.out.b (by omega))).trans ⟨hgr.os, hgr.tape, hgr.output, by rw [World.size_setCell]; omega, fun g hg _ => (Below.heap_setCell _ _ _ _ (by show g ≠ w1.heap.size; omega)).trans (hb6 g (by omega))⟩
        have HQ7 : Hid ((w6.setCell ⟨w1.heap.size, 3, none⟩ (.slice (some ⟨gg, 0, none⟩) (f.len + 1) cap6)).heap[w.heap.size]? = some Z5) := (Below.heap_setCell _ _ _ _ ne).trans ((hb6 _ (by omega)).trans ((HB3.out.block _ hwl na).trans HQ.out))
        have hk6 : Hid (∀ g, g < w3.heap.size → g ≠ w1.heap.size → (Value.slice ra f.len cv).ownBlock ≠ some g → (w6.setCell ⟨w1.heap.size, 3, none⟩ (.slice (some ⟨gg, 0, none⟩) (f.len + 1) cap6)).heap[g]? = w3.heap[g]?) := fun g hg hne hv => (Below.heap_setCell _ _ _ _ hne).trans ((hgr.block g (by simp; omega) (fun e => hv e.symm)).trans ((Below.heap_alloc _ _ _ (by simp; omega)).trans (Below.heap_alloc _ _ _ hg)))
        have hs6 : Hid (w3.heap.size ≤ (w6.setCell ⟨w1.heap.size, 3, none⟩ (.slice (some ⟨gg, 0, none⟩) (f.len + 1) cap6)).heap.size) := by show _ ≤ _; rw [World.size_setCell]; exact s6
        have Hvb : Hid (∀ g, (Value.slice ra f.len cv).ownBlock = some g → w1.heap.size + 1 ≤ g) := vb
        have Ho3 : Hid (w3.ownsRow (w1.heap.size + 1) 58 5 (.slice ra f.len cv) f.len cs) := ho
        clear hown hgr hat hb6 ho hrr ho1 hrr1 hnd hold vb hkk q6 pf s6 HT6 y0 y1 y2 y3 y4 yf3
        go_wp2_with fail
        go_roundw
        case rel =>
          refine ⟨_, f.app (.cons k n t s d .nil), HV7, HT7, HB7, HQ7, .inr ⟨e, p, ?_, HR2.out, by rw [Fo.len_app]; simp [Fo.len]; omega⟩⟩
          exact rx_far HRx.out Ho3.out HV3.out nd (by omega) hk6.out
        case measure => rw [msr_n HA'.out.reader]; refine Nat.lt_of_le_of_lt (Nat.le_of_eq (msr_e (rx_far HRx.out Ho3.out HV3.out nd (by omega) hk6.out))) (by omega)
      | ok f1 d1 r c1 =>
        have hg := rdf_good hX
        obtain ⟨qq, eqq, hqpos, hone, _⟩ := hg.suf
        obtain ⟨k, n, t, s, d, rfl, hsl⟩ := hone rfl
        have hmd2 : md (f.app (.cons k n t s d .nil)) = 2 := by unfold md; rw [if_neg (by rw [Fo.len_app]; simp [Fo.len])]
        have hEq : res = ((rdf (md (f.app (.cons k n t s d .nil))) r (o + 1) c1).behind (f.app (.cons k n t s d .nil))).list := by rw [HRs.out, HM.out, hmd2]; unfold more; rw [hX]; simp only [Res.then]; rw [Res.behind_behind]
        have HEq : Hid _ := hEq
        have hrl3 : r.length + qq.length = ts2.length + 1 := by have := congrArg List.length eqq; simp at this; omega
        have HX3 : Hid (rdf 0 (x2.1 :: ts2) (o + 1) c' = .ok (.cons k n t s d .nil) d1 r c1) := hX
        have HG : Hid (Good 0 (x2.1 :: ts2) (.cons k n t s d .nil) r c' c1) := hg
        have Heqq : Hid (x2.1 :: ts2 = qq ++ r) := eqq
        clear hX hg hEq hmd2 hsl eqq
        refine (HD.out _ i' (o + 1) c' (x2.1 :: ts2) (HA'.out.drewN _) hN').mono ?_
        rw [HX3.out]
        rintro en w3 ⟨hb3, k', n', t', s', d', kv, hfe, rfl, hr3, hT3⟩
        cases hfe
        obtain ⟨ra3, cap3, rfl⟩ := hT3.slice
        have B3 : But rb wr w3 := ((But.refl rb wr).drewN _).trans hb3.but
        have q3 : w3.heap[w1.heap.size]? = some (.cells #[.int .u8 5, .int .i64 0, .string ⟨#[]⟩, .slice ra f.len cv, .bool false] 58 (0, 0)) := (B3.block _ hDl nc).trans HV.out
        have HB3 : Hid (But rb wr w3) := B3
        have HV3 : Hid (w3.heap[w1.heap.size]? = some (.cells #[.int .u8 5, .int .i64 0, .string ⟨#[]⟩, .slice ra f.len cv, .bool false] 58 (0, 0))) := q3
        have HT3 : Hid (Tree w3 wr.heap.size (.slice ra3 s.len cap3) s) := hT3
        have s3 := B3.size
        clear B3 y0 y1 y2 y3 y4 yf3 yf4
        obtain ⟨y0, y1, y2, y3, y4, yf⟩ := cells5 q3
        have yf3 := yf 3
        have lD : w1.heap.size < w3.heap.size := by omega
        have lD' : w1.heap.size < w3.heap.size + 1 := by omega
        have hfm : f.len ≤ 100000 := by omega
        have Hfm : Hid (f.len ≤ 100000) := hfm
        have HRn : Hid (Rn w3 rb tb T cap (T - r.length) (o + 1) c1) := hr3
        clear hb3 hT3 hr3 yf q3
        go_wp2_with (at_builtin; refine stop_of ?_)
        unfold Hid
        obtain ⟨cs, bs, ho1, hrr1, hnd⟩ := HT.out.ex
        have hkk : ∀ g, w1.heap.size + 1 ≤ g → g < wr.heap.size → w3.heap[g]? = wr.heap[g]? := fun g h1 h2 => HB3.out.block g h2 (by omega)
        have ho := own_same ho1 (fun g hg => hkk g (ho1.lt g hg).1 (ho1.lt g hg).2)
        have hrr := hrr1.kept (fun g hg => hkk g (hrr1.lt g hg).1 (hrr1.lt g hg).2)
        have hold : ∀ y ∈ own1 (.slice ra f.len cv) ++ bs, y < wr.heap.size := by
          intro y hy
          rcases List.mem_append.1 hy with h | h
          · exact (ho1.lt y (mem_own1.1 h)).2
          · exact (hrr1.lt y h).2
        refine wpList_append_lies _ rfl _ _ 23 rfl (w1.heap.size + 1) 58 i0 (.agg #[.int .u8 0, .int .i64 0, .string ⟨#[]⟩, .slice none 0 0, .bool false]) 5 64 Tryz.underlying23 hi0 hz0 hz1 hz2 rfl (by decide) (.slice ra f.len cv) f.len cs rfl ((ho.alloc _).alloc _) ⟨_, 0, none⟩ 1 1 [.int .u8 k, .int .i64 n, S t, .slice ra3 s.len cap3, .bool d] rfl rfl (cell_five_at _ _ (by simp) _ _ _ _ _ _) (five_one _ _ _ _ _ _ _) (by omega) (by have := Hfm.out; unfold maxLen; omega) (by have := Hfm.out; omega) (by simp; omega) _ rfl ?_
        intro gg cap6 w6 hown hgr hat hlt6
        have vb : ∀ g, (Value.slice ra f.len cv).ownBlock = some g → w1.heap.size + 1 ≤ g := fun g hg => (ho.lt g hg).1
        have HT6 : Hid (Tree w6 (w1.heap.size + 1) (.slice (some ⟨gg, 0, none⟩) (f.len + 1) cap6) (f.app (.cons k n t s d .nil))) :=
          tree_snoc ⟨(ho.alloc _).alloc _, (hrr.alloc _).alloc _, hnd⟩ rfl ((HT3.out.kept (fun g _ hg => (Below.heap_alloc _ _ _ (by simp; omega)).trans (Below.heap_alloc _ _ _ hg)))) (by omega) hold hown hgr hat
        have hb6 : ∀ g, g < w1.heap.size + 1 → w6.heap[g]? = w3.heap[g]? := fun g hg => (hgr.block g (by simp; omega) (fun e => by have := vb g e.symm; omega)).trans ((Below.heap_alloc _ _ _ (by simp; omega)).trans (Below.heap_alloc _ _ _ (by omega)))
        have q6 : w6.heap[w1.heap.size]? = some (.cells #[.int .u8 5, .int .i64 0, .string ⟨#[]⟩, .slice ra f.len cv, .bool false] 58 (0, 0)) := (hb6 _ (by omega)).trans HV3.out
        obtain ⟨p0, p1, p2, p3, p4, pf⟩ := cells5 q6
        have pf3 := pf 3
        have HQ6 : Hid _ := q6
        have HV7 : Hid ((w6.setCell ⟨w1.heap.size, 3, none⟩ (.slice (some ⟨gg, 0, none⟩) (f.len + 1) cap6)).heap[w1.heap.size]? = some (.cells #[.int .u8 5, .int .i64 0, .string ⟨#[]⟩, .slice (some ⟨gg, 0, none⟩) (f.len + 1) cap6, .bool false] 58 (0, 0))) := set_at q6 _
        have HT7 : Hid (Tree (w6.setCell ⟨w1.heap.size, 3, none⟩ (.slice (some ⟨gg, 0, none⟩) (f.len + 1) cap6)) (w1.heap.size + 1) (.slice (some ⟨gg, 0, none⟩) (f.len + 1) cap6) (f.app (.cons k n t s d .nil))) := HT6.out.kept (fun g hg _ => Below.heap_setCell _ _ _ _ (by show g ≠ w1.heap.size; omega))
        have s6 : w3.heap.size ≤ w6.heap.size := by have := hgr.size; simp at this; omega
        have HB7 : Hid (ButB w.heap.size rb w (w6.setCell ⟨w1.heap.size, 3, none⟩ (.slice (some ⟨gg, 0, none⟩) (f.len + 1) cap6))) := (HB.out.trans (HB3.out.b (by omega))).trans ⟨hgr.os, hgr.tape, hgr.output, by rw [World.size_setCell]; omega, fun g hg _ => (Below.heap_setCell _ _ _ _ (by show g ≠ w1.heap.size; omega)).trans (hb6 g (by omega))⟩
        have HQ7 : Hid ((w6.setCell ⟨w1.heap.size, 3, none⟩ (.slice (some ⟨gg, 0, none⟩) (f.len + 1) cap6)).heap[w.heap.size]? = some Z5) := (Below.heap_setCell _ _ _ _ ne).trans ((hb6 _ (by omega)).trans ((HB3.out.block _ hwl na).trans HQ.out))
        have hk6 : Hid (∀ g, g < w3.heap.size → g ≠ w1.heap.size → (Value.slice ra f.len cv).ownBlock ≠ some g → (w6.setCell ⟨w1.heap.size, 3, none⟩ (.slice (some ⟨gg, 0, none⟩) (f.len + 1) cap6)).heap[g]? = w3.heap[g]?) := fun g hg hne hv => (Below.heap_setCell _ _ _ _ hne).trans ((hgr.block g (by simp; omega) (fun e => hv e.symm)).trans ((Below.heap_alloc _ _ _ (by simp; omega)).trans (Below.heap_alloc _ _ _ hg)))
        have hs6 : Hid (w3.heap.size ≤ (w6.setCell ⟨w1.heap.size, 3, none⟩ (.slice (some ⟨gg, 0, none⟩) (f.len + 1) cap6)).heap.size) := by show _ ≤ _; rw [World.size_setCell]; exact s6
        have Hvb : Hid (∀ g, (Value.slice ra f.len cv).ownBlock = some g → w1.heap.size + 1 ≤ g) := vb
        have Ho3 : Hid (w3.ownsRow (w1.heap.size + 1) 58 5 (.slice ra f.len cv) f.len cs) := ho
        clear hown hgr hat hb6 ho hrr ho1 hrr1 hnd hold vb hkk q6 pf s6 HT6 y0 y1 y2 y3 y4 yf3
        have hk7 : Hid (Rn (w6.setCell ⟨w1.heap.size, 3, none⟩ (.slice (some ⟨gg, 0, none⟩) (f.len + 1) cap6)) rb tb T cap (T - r.length) (o + 1) c1) := HRn.out.kept (hk6.out _ (HRn.out.lt) nd (fun e => by have := Hvb.out _ e; omega))
        go_wp2_with fail
        go_roundw
        case rel =>
          refine ⟨_, f.app (.cons k n t s d .nil), HV7, HT7, HB7, HQ7, .inl ⟨T - r.length, c1, r, ?_, by simp at hN'; omega, by rw [Fo.len_app]; simp [Fo.len]; omega, HEq.out⟩⟩
          exact HA'.out.moved hk7.out ((hk6.out _ (by have := HB3.out.size; omega) (by omega) (fun e => by have := Hvb.out _ e; omega)).trans (HB3.out.block _ htl2 HA'.out.ne.symm)) (by have := HB3.out.size; have := hs6.out; omega) (HA'.out.rest Heqq.out).1 (HG.out.ended (by decide) HA'.out.ended) HA'.out.ho (HG.out.much hc2)
        case measure => rw [msr_n HA'.out.reader, msr_n hk7.out]; omega
    · obtain ⟨g, sl, ix, ox, cx, hr⟩ := hrx
      have r1 := hr.c1
      have r2 := hr.c2
      have r4 := hr.c4
      have rf1 := hr.fr 1
      have rf2 := hr.fr 2
      have HRe : Hid (Re wr rb g sl ix ox cx e p) := hr
      have HRs : Hid _ := hres
      clear hr hres HS
      go_wp2_with fail
      go_quiet (fail)
      go_wp2_with fail
      go_quiet (fail)
      go_wp2_with fail
      refine bodyPost_five (s := 2) rfl rfl rfl ((set2_other na).trans HQ.out) fun W5 o5 b5 => ?_
      rw [HRs.out]
      change ButB _ _ _ _ ∧ _
      refine ⟨(HB.out.trans (((((But.refl rb wr).drewN _).set _).set _).b (by omega))).trans (b5 _ _ (Nat.le_refl _)), 5, 0, [], f, false, _, rfl, ?_, ?_, hfl⟩
      · exact rx_kept (((Re.kept (W' := wr.drewN _) HRe.out rfl rfl).set1 _).set2 _).rx ((set2_other na).trans HQ.out) nb o5
      · exact (HT.out.kept (fun y hy _ => (o5 y (by omega)).trans (set2_other (by omega)))).mono (by omega)
end Go.Proofs.YtlpdfifjdlfpdaaGreatDoor
