/- MarkReach. -/
import Derived.Test.YtiglmffnhbegiaaDoorHXMain0
namespace Go.Proofs.YtiglmffnhbegiaaDoor
open Go.RowKit

theorem wpList_append_all {P : Program} (w : World) {ops : Array Oper} {rest : List Oper} {o : Oper} {a : Act} {Q : Exit → Act → World → Prop} (hgd : o.guard = none) (s x : Operand) (t : TypeId)
    (ho : o.op = .call { callee := .builtin .append, args := #[s, x], argTypes := #[t, t] })
    (base : Nat) (e : TypeId) (i : TypeInfo) (z : Value) (size bytes : Nat) (ht : P.underlying t = some (.slice e)) (hi : P.info? e = some i) (hz : i.zero = some z)
    (hsize : i.size = size) (hby : i.bytes = bytes) (hzs : z.cells.size = size) (hsz : 0 < size)
    (v : Value) (n : Nat) (xs : List Value) (hs : a.eval s = v) (hown : w.ownsRow base e size v n xs)
    (ao : Option Addr) (m c : Nat) (news : List Value) (hx : a.eval x = .slice ao m c) (hl : news.length = m * size) (hnone : ao = none → m = 0) (hnews : ∀ ad, ao = some ad → ∀ j u, news[j]? = some u → w.cell? (ad.add j) = some u) (h1 : ∀ u ∈ news, u.oneCell' = true)
    (h63 : n + m ≤ maxLen) (hbytes : (n + m) * bytes ≤ 140737488355328) (hbase : base ≤ w.heap.size)
    (h : ∀ ra cap w', w'.ownsRow base e size (.slice ra (n + m) cap) (n + m) (xs ++ news) → w.grownBy w' v.ownBlock → (∀ g, (Value.slice ra (n + m) cap).ownBlock = some g → v.ownBlock = some g ∨ w.heap.size ≤ g) → wpList P ops Q rest (a.put o.dst (.slice ra (n + m) cap)) w') : wpList P ops Q (o :: rest) a w := by
  by_cases hm : m = 0
  · subst hm
    have hnews0 : news = [] := List.eq_nil_of_length_eq_zero (by simpa using hl)
    subst hnews0
    obtain ⟨ra, cap, rfl⟩ := own_slice' hown
    refine wpList_plain hgd fun K hK' => ?_
    have hrun := run_append_zero (P := P) w base t o.type e i size ht hi _ n c xs hown ao
    unfold Oper.wp
    simp [execOp, ho, resolve, invoke, builtin, hs, hx, hrun, Result.andThen]
    exact hK' _ _ (by simpa using h ra cap w (by simpa using hown) (World.grownBy.refl _ _) (fun g hg => .inl hg))
  · cases ao with
    | none => exact absurd (hnone rfl) hm
    | some ad =>
      refine wpList_append_lies (w := w) hgd s x t ho base e i z size bytes ht hi hz hsize hby hzs hsz v n xs hs hown ad m c news hx hl (hnews ad rfl) h1 (by omega) h63 hbytes hbase _ rfl ?_
      intro g cap w' h2 h3 h4 _
      refine h _ cap w' h2 h3 (fun g' hg' => ?_)
      have : g = g' := by simpa [Value.ownBlock] using hg'
      subst this
      rcases h4 with h4 | h4
      · exact .inl h4
      · exact .inr (by omega)
set_option maxRecDepth 100000 in
set_option maxHeartbeats 64000000 in
theorem markReach_walk (l : List Cl) (lra : Option Addr) (lca : Nat) (roots more : List Int) (rra mra : Option Addr) (rca mca : Nat) (when : Int) (w : World) (hH : HR w lra l) (hll : l.length ≤ 281474976710656) (hR : WR w rra roots) (hM : WR w mra more) (hrl : roots.length ≤ 281474976710656) (hml : more.length ≤ 281474976710656) (hw0 : -9223372036854775808 ≤ when ∧ when ≤ 9223372036854775807) (hT : Tab w) :
    Calls Tryd.prog 5 #[.slice lra l.length lca, .slice rra roots.length rca, .slice mra more.length mca, .int .i64 when] w fun e w' => e = .returned (.bool true) ∧ Below w.heap.size w w' := by
  have HK : Hid _ := works_any w hT
  have HT : Hid (Tab w) := hT
  have HL : Hid (HR w lra l) := hH
  have HRo : Hid (WR w rra roots) := hR
  have HMo : Hid (WR w mra more) := hM
  have qP : ∀ (g : Nat) (W : World), (binOp .eql 32 (.pointer (some ⟨g, 0, none⟩)) (.pointer none)).run Tryd.prog W = .ok (.bool false) W := fun g W => by simp [go_sem]
  have qM : ∀ (g : Nat) (W : World), (binOp .eql 36 (.pointer (some ⟨g, 0, none⟩)) (.pointer none)).run Tryd.prog W = .ok (.bool false) W := fun g W => by simp [go_sem]
  clear hT hH hR hM
  obtain ⟨i0, hi0, hz0, hz1, hz2⟩ := info_parts infoI
  by_cases hbig : 20000 < roots.length + more.length
  · have k3 : decide (((roots.length : Int) + (more.length : Int)) > 20000) = true := by simp; omega
    have k4 : decide (20000 < ((roots.length : Int) + (more.length : Int))) = true := by simp; omega
    go_enter Tryd.func5, Tryd.ntmps5
    go_wp2_with fail
    refine Calls.mono HK.out ?_
    rintro e w1 ⟨rfl, b1⟩
    have HB1 : Hid (Below w.heap.size w w1) := b1
    clear b1 HK
    go_wp2_with fail
    go_ret
    exact ⟨rfl, HB1.out⟩
  · have k3 : decide (((roots.length : Int) + (more.length : Int)) > 20000) = false := by simp; omega
    have k4 : decide (20000 < ((roots.length : Int) + (more.length : Int))) = false := by simp; omega
    go_enter Tryd.func5, Tryd.ntmps5
    go_wp2_with fail
    refine Calls.mono HK.out ?_
    rintro e w1 ⟨rfl, b1⟩
    have HB1 : Hid (Below w.heap.size w w1) := b1
    have HPn : Hid _ := plain_any l lra lca w1 (HL.out.below b1) hll (HT.out.below b1)
    clear b1 HK
    go_wp2_with fail
    refine Calls.mono HPn.out ?_
    rintro e wp ⟨pra, pca, rfl, op, bp⟩
    have HPl : Hid (Pl (plH l 16)) := plH_pl l
    have hpl : (plH l 16).length = 16 := plH_len l 16
    have hpok : ∀ x ∈ plH l 16, OkK x := fun x hx => by
      obtain ⟨q, hq⟩ := List.getElem?_of_mem hx
      have hq16 : q < 16 := by have := (List.getElem?_eq_some_iff.1 hq).1; rwa [hpl] at this
      rw [plH_at hq16] at hq
      cases hq
      exact plC_ok (fun y hy => by
        obtain ⟨b, o, h1, h2⟩ := HL.out
        obtain ⟨q2, hq2⟩ := List.getElem?_of_mem hy
        exact (h2 q2 y hq2).2.2) q
    have hbw : Below w.heap.size w wp := HB1.out.trans (bp.mono HB1.out.size)
    have HBw : Hid (Below w.heap.size w wp) := hbw
    have hhr : HR wp pra (plH l 16) := own_hr op hpl hpok
    have HHr : Hid (HR wp pra (plH l 16)) := hhr
    have HMd : Hid _ := made_any (plH l 16) pra pca wp hhr
    have HTp : Hid (Tab wp) := HT.out.below hbw
    have HMr : Hid (WR wp mra more) := HMo.out.below hbw
    have HRr : Hid (WR wp rra roots) := HRo.out.below hbw
    rw [hpl] at HMd
    generalize hpe : plH l 16 = p at HMd HHr HPl hpl
    have HmdE : Hid (mdH p 16 = p) := by
      show _ = _
      rw [mdH_plain HPl.out hpl 16 (Nat.le_refl _)]
      simp [List.take_of_length_le (Nat.le_of_eq hpl)]
    clear op bp hbw hhr HPn hpok k3 k4
    go_wp2_with fail
    refine Calls.mono HMd.out ?_
    rintro e w2 ⟨hb, ab, rb, g, rfl, TT⟩
    rw [HmdE.out] at TT
    have HCN : Hid (CN wp w2 hb ab p) := ⟨TT.c, TT.b, TT.hb, TT.ab⟩
    clear TT HMd
    go_wp2_with fail
    refine Calls.mono (markNew_any hb w2) ?_
    rintro e w3 ⟨rfl, hw3⟩
    have N3 := MN.new HCN.out
    rw [← hw3] at N3
    generalize w2.heap.size = mb at N3 ⊢
    have HX0 : Hid (MN wp w3 mb hb ab (.slice none 0 0) [] p) := N3
    have hS0 := (MK.nil p).shade roots
    rw [List.nil_append, List.nil_append, col_zero_h HPl.out] at hS0
    generalize hL0 : layL p (namL roots) = R0 at hS0
    have HC0 : Hid _ := shadeM_any roots rra rca w3 N3.m (HRr.out.below N3.b) (by omega) (by simp) (HTp.out.below N3.b)
    clear hw3 N3 HCN
    go_wp2_with fail
    refine Calls.mono HC0.out ?_
    rintro e w4 ⟨r4, c4, rv4, rfl, o4, s4, d4⟩
    rw [hL0] at o4 s4 d4 ⊢
    have N4 := HX0.out.step s4
    rw [hS0.1, List.nil_append] at N4
    have HX : Hid (XS wp w4 mb hb ab rv4 (.slice r4 R0.length c4) p roots R0 0) := ⟨N4, own_mono o4 HX0.out.b.size, d4, hS0.2⟩
    clear o4 s4 d4 N4 hS0 hL0 HC0 HX0
    by_cases hneg : when < 0
    · have zn : decide (when < 0) = true := by simpa using hneg
      go_wp2_with fail
      generalize -((when + 1).tmod 17) = wv
      clear hw0
      go_loopw [14, 15, 16, 17, 18, 19, 20, 21] (fun v14 v15 v16 v17 _ _ _ _ wr => ∃ (R S : List Int) (n rd : Nat) (lt : Bool) (r : Option Addr) (c : Nat) (rv : Value), v14 = .slice r R.length c ∧ v15 = .bool lt ∧ v16 = .int .i64 n ∧ v17 = .int .i64 rd ∧ rd ≤ n + (if lt = true then 1 else 0) ∧ S = (if lt = true then roots ++ more else roots) ∧ Hid (XS wp wr mb hb ab rv (.slice r R.length c) p S R n)) (fun _ _ _ v17 _ _ _ _ _ => 40 - (intOf v17).toNat)
      case atStart => exact ⟨R0, roots, 0, 0, false, r4, c4, rv4, rfl, rfl, rfl, rfl, by simp, rfl, HX⟩
      case round =>
        clear HX
        obtain ⟨R, S, n, rd, lt, r, c, rv, rfl, rfl, rfl, rfl, hrd, hSe, HX⟩ := hrel
        have hnR16 : n ≤ 16 := by have := HX.out.k.mi.len; have := HX.out.k.mi.le; omega
        have hrd34 : rd ≤ 17 := by split at hrd <;> omega
        have k34 : (rd : Int) ≤ 34 := by omega
        have hRl16 : R.length ≤ 16 := by have := HX.out.k.mi.len; omega
        cases lt
        · rw [if_neg (by decide)] at hSe hrd
          by_cases hwn : (n : Int) = wv
          · subst hwn
            have hMKs := HX.out.k.shade more
            generalize hL : layL (colH p R n) (namL more) = LA at hMKs
            have hLl : LA.length ≤ more.length := by rw [← hL]; exact Nat.le_trans (layL_len _ _) (by have := nam_len more more.length; rwa [List.take_length] at this)
            have HC : Hid _ := shadeM_any more mra mca _ HX.out.m.m (HMr.out.below HX.out.m.b) (by omega) (by rw [List.length_drop]; have := HX.out.k.mi.len; omega) (HTp.out.below HX.out.m.b)
            go_wp2_with fail
            refine Calls.mono HC.out ?_
            rintro e wB ⟨rB, cB, rvA, rfl, o2, s2, _⟩
            rw [hL] at o2 s2 ⊢
            have N2 := HX.out.m.step s2
            have hRn := HX.out.k.mi.le
            rw [hMKs.1, ← List.drop_append_of_le_length hRn] at N2
            have HN2 : Hid (MN wp wB mb hb ab rvA ((R ++ LA).drop n) (colH p (R ++ LA) n)) := N2
            obtain ⟨O2, D2⟩ := s2.own HX.out.m.m HX.out.o HX.out.d
            have HRow : Hid (wB.ownsRow wp.heap.size 3 1 (.slice r R.length c) R.length (iL R)) := O2
            have HDis : Hid (∀ k, rvA.ownBlock = some k → (Value.slice r R.length c).ownBlock ≠ some k) := D2
            have HQ : Hid (wB.ownsRow _ 3 1 (.slice rB LA.length cB) LA.length (iL LA)) := o2
            have HMK : Hid (MK p (S ++ more) (R ++ LA) n) := hMKs.2
            have hRL : R.length + LA.length ≤ 16 := by have := hMKs.2.mi.len; rw [List.length_append] at this; omega
            clear o2 s2 N2 O2 D2 HC hMKs hL hLl
            go_wp2_with (at_builtin; refine stop_of ?_)
            unfold Hid
            obtain ⟨bq, oq, hq1, hq2⟩ := own_rx HQ.out rfl
            refine wpList_append_all _ rfl _ _ 26 rfl wp.heap.size 3 i0 (.int .i64 0) 1 8 Tryd.underlying26 hi0 hz0 hz1 hz2 rfl (by decide) (.slice r R.length c) R.length (iL R) rfl HRow.out rB LA.length cB (iL LA) rfl (by simp) (fun hn => (by rcases hq1 with h | h; exact h; rw [h] at hn; cases hn)) (fun ad had jq uq hu => (by
              obtain ⟨xq, hxq, rfl⟩ := iL_at hu
              have e := hq1.resolve_left (by have := (List.getElem?_eq_some_iff.1 hxq).1; omega)
              rw [e] at had
              cases had
              rw [ad_add]
              exact (hq2 jq xq hxq).2)) (fun uq hu => (by
              obtain ⟨xq, _, rfl⟩ := List.mem_map.1 hu
              rfl)) (by unfold maxLen; omega) (by omega) HN2.out.b.size ?_
            clear hq1 hq2
            intro rA cA wA hown hgr hat
            have HXA0 : Hid (XS wp wA mb hb ab rvA (.slice rA (R.length + LA.length) cA) p (S ++ more) (R ++ LA) (n)) := by
              refine ⟨?_, by simpa using hown, fun kq hkq e => ?_, HMK.out⟩
              · have := HN2.out.grown HRow.out (Nat.le_refl _) hgr HDis.out
                exact this
              · rcases hat kq e with h1 | h1
                · exact HDis.out kq hkq h1
                · obtain ⟨cs, q⟩ := HN2.out.m.q.blk hkq
                  have := heap_lt q
                  omega
            clear hown hgr hat HQ HRow HDis HN2 HMK HX
            have HXA : Hid (XS wp wA mb hb ab rvA (.slice rA (R ++ LA).length cA) p (S ++ more) (R ++ LA) n) := by rw [List.length_append]; exact HXA0.out
            rw [← List.length_append]
            have hSe1 : S ++ more = roots ++ more := by rw [hSe]
            have hRl1 : (R ++ LA).length ≤ 16 := by rw [List.length_append]; exact hRL
            generalize S ++ more = S1 at HXA hSe1
            generalize R ++ LA = R1 at HXA hRl1 ⊢
            clear hRL HXA0
            cases hd : R1.drop n with
            | nil =>
              have HCs : Hid _ := scan_any _ HXA.out.m.m (by rw [hd]; simp) (HTp.out.below HXA.out.m.b)
              rw [hd] at HCs
              have HnR : Hid (n = R1.length) := by show _ = _; have := congrArg List.length hd; rw [List.length_drop] at this; have := HXA.out.k.mi.le; simp at *; omega
              have g1 : decide ((n : Int) < (R1.length : Int)) = false := by have := HnR.out; simp; omega
              have g2 : ¬ ((n : Int) < (R1.length : Int)) := by have := HnR.out; omega
              have HCa : Hid _ := apart_any HXA.out.m.m.c (apt_of HXA.out.k) (HTp.out.below HXA.out.m.b)
              go_wp2_with fail
              refine Calls.mono HCs.out ?_
              rintro e w' ⟨rfl, hw'⟩
              rw [hw']
              clear hw' HCs
              go_wp2_with fail
              refine Calls.mono HCa.out ?_
              rintro e w5 ⟨rfl, b5⟩
              have HX5 : Hid (XS wp w5 mb hb ab rvA (.slice rA R1.length cA) p S1 R1 n) := ⟨HXA.out.m.below b5, own_same HXA.out.o (fun k hk => b5.block k (HXA.out.o.lt k hk).2), HXA.out.d, HXA.out.k⟩
              clear b5 HCa HXA
              have HXA := HX5
              clear HX5
              obtain ⟨iw, hiw, hv0, hv1, hv2⟩ := info_parts infoWd
              have HFin : Hid (XS wp w5 mb hb ab rvA (.slice rA R1.length cA) p (roots ++ more) R1 R1.length) := by
                have := HXA.out
                rw [hSe1, HnR.out] at this
                exact this
              have hone : ∀ zs : List Int, ∀ u ∈ zs.map (Value.int .u64), u.oneCell' = true := fun zs u hu => by
                obtain ⟨x, _, rfl⟩ := List.mem_map.1 hu
                rfl
              have HOne : Hid (∀ zs : List Int, ∀ u ∈ zs.map (Value.int .u64), u.oneCell' = true) := hone
              clear hone HXA
              go_wp2_with (at_builtin; refine stop_of ?_)
              unfold Hid
              obtain ⟨ba, oa, ha1, ha2⟩ := HRr.out.below HFin.out.m.b
              refine wpList_append_all _ rfl _ _ 25 rfl w5.heap.size 29 iw (.int .u64 0) 1 8 Tryd.underlying25 hiw hv0 hv1 hv2 rfl (by decide) (.slice none 0 0) 0 [] rfl ⟨rfl, .inl ⟨rfl, rfl⟩⟩ rra roots.length rca (roots.map (Value.int .u64)) rfl (by simp) (fun hn => (by rcases ha1 with h | h; exact h; rw [h] at hn; cases hn)) (fun ad had jq uq hu => (by
                rw [List.getElem?_map] at hu
                cases hxq : roots[jq]? with
                | none => rw [hxq] at hu; cases hu
                | some xq =>
                  rw [hxq] at hu
                  cases hu
                  have e := ha1.resolve_left (by have := (List.getElem?_eq_some_iff.1 hxq).1; omega)
                  rw [e] at had
                  cases had
                  rw [ad_add]
                  exact (ha2 jq xq hxq).2.1)) (HOne.out roots) (by unfold maxLen; omega) (by omega) (Nat.le_refl _) ?_
              clear ha1 ha2
              intro ra1 cap1 w6 hown6 hgr6 hat6
              have b56 : Below w5.heap.size w5 w6 := grown_low hgr6 (fun g hg => by cases hg) (Nat.le_refl _)
              have HB56 : Hid (Below w5.heap.size w5 w6) := b56
              rw [Nat.zero_add, List.nil_append] at hown6
              have HO6 : Hid (w6.ownsRow w5.heap.size 29 1 (.slice ra1 roots.length cap1) roots.length (roots.map (Value.int .u64))) := hown6
              rw [Nat.zero_add]
              clear hown6 hgr6 hat6 b56
              go_wp2_with (at_builtin; refine stop_of ?_)
              unfold Hid
              obtain ⟨ba, oa, ha1, ha2⟩ := (HMr.out.below HFin.out.m.b).below HB56.out
              refine wpList_append_all _ rfl _ _ 25 rfl w5.heap.size 29 iw (.int .u64 0) 1 8 Tryd.underlying25 hiw hv0 hv1 hv2 rfl (by decide) (.slice ra1 roots.length cap1) roots.length (roots.map (Value.int .u64)) rfl HO6.out mra more.length mca (more.map (Value.int .u64)) rfl (by simp) (fun hn => (by rcases ha1 with h | h; exact h; rw [h] at hn; cases hn)) (fun ad had jq uq hu => (by
                rw [List.getElem?_map] at hu
                cases hxq : more[jq]? with
                | none => rw [hxq] at hu; cases hu
                | some xq =>
                  rw [hxq] at hu
                  cases hu
                  have e := ha1.resolve_left (by have := (List.getElem?_eq_some_iff.1 hxq).1; omega)
                  rw [e] at had
                  cases had
                  rw [ad_add]
                  exact (ha2 jq xq hxq).2.1)) (HOne.out more) (by unfold maxLen; omega) (by omega) HB56.out.size ?_
              clear ha1 ha2
              intro ra2 cap2 w7 hown7 hgr7 hat7
              have b67 : Below w5.heap.size w6 w7 := grown_low hgr7 (fun g hg => (HO6.out.lt g hg).1) HB56.out.size
              have b57 : Below w5.heap.size w5 w7 := HB56.out.trans b67
              rw [← List.map_append, ← List.length_append] at hown7
              have hwr : WR w7 ra2 (roots ++ more) := fl_wr (w := w5) ⟨hown7, b57⟩ (fun x hx => (by
                rcases List.mem_append.1 hx with h | h
                · exact wr_rng2 HRr.out h
                · exact wr_rng2 HMr.out h))
              have N7 := HFin.out.m.below b57
              rw [List.drop_length] at N7
              have HBk : Hid (Calls Tryd.prog 15 #[.pointer (some ⟨hb, 0, none⟩), .pointer (some ⟨mb, 0, none⟩), .slice pra 16 pca, .slice ra2 (roots.length + more.length) cap2, .int .i64 R1.length] w7 fun e w' => e = .returned (.bool true) ∧ Below w7.heap.size w7 w') := by
                have := black_any w7 N7.m HPl.out hpl HFin.out.k pra ra2 pca cap2 (HHr.out.below N7.b) hwr (by rw [List.length_append]; omega) (HTp.out.below N7.b)
                rw [List.length_append] at this
                exact this
              have HB7 : Hid (Below w.heap.size w w7) := HBw.out.trans (N7.b.mono HBw.out.size)
              clear hown7 hgr7 hat7 b67 b57 hwr N7 HO6
              go_wp2_with fail
              refine Calls.mono HBk.out ?_
              rintro e w8 ⟨rfl, b8⟩
              have HB8 : Hid (Below w.heap.size w w8) := HB7.out.trans (b8.mono HB7.out.size)
              clear b8 HBk
              go_wp2_with fail
              go_ret
              exact ⟨rfl, HB8.out⟩
            | cons q rest =>
              have hcR : R1[n]? = some q := by have := congrArg (·[0]?) hd; simpa [List.getElem?_drop] using this
              have hnl : n < R1.length := (List.getElem?_eq_some_iff.1 hcR).1
              have hMKs := HXA.out.k.scan hcR
              have HCs : Hid (Calls Tryd.prog 13 #[.pointer (some ⟨mb, 0, none⟩)] wA fun e w' => ScO mb hb ab rvA q rest (colH p R1 n) wA e w') := by
                have := scan_any _ HXA.out.m.m (by rw [List.length_drop]; have := HXA.out.k.mi.len; omega) (HTp.out.below HXA.out.m.b)
                rw [hd] at this
                exact this
              generalize hL : layL (colH p R1 n) (scanL (colH p R1 n) q) = L at hMKs
              have g1 : decide ((n : Int) < (R1.length : Int)) = true := by simpa using hnl
              have g2 : (n : Int) < (R1.length : Int) := by omega
              go_wp2_with fail
              refine Calls.mono HCs.out ?_
              rintro e w2 ⟨r2, c2, rv2, rfl, o2, s2, _⟩
              rw [hL] at o2 s2 ⊢
              have N2 := HXA.out.m.step s2
              have hdr : rest ++ L = (R1 ++ L).drop (n + 1) := by
                rw [List.drop_append_of_le_length (by omega)]
                congr 1
                have := congrArg List.tail hd
                simpa [List.tail_drop] using this.symm
              rw [hMKs.1, hdr] at N2
              obtain ⟨O2, D2⟩ := s2.own HXA.out.m.m HXA.out.o HXA.out.d
              have HCa : Hid _ := apart_any N2.m.c (apt_of hMKs.2) (HTp.out.below N2.b)
              have HN2' : Hid (MN wp w2 mb hb ab rv2 ((R1 ++ L).drop (n + 1)) (colH p (R1 ++ L) (n + 1))) := N2
              have HRow' : Hid (w2.ownsRow wp.heap.size 3 1 (.slice rA R1.length cA) R1.length (iL R1)) := O2
              have HDis : Hid (∀ k, rv2.ownBlock = some k → (Value.slice rA R1.length cA).ownBlock ≠ some k) := D2
              have HQ' : Hid (w2.ownsRow _ 3 1 (.slice r2 L.length c2) L.length (iL L)) := o2
              have HMK : Hid (MK p S1 (R1 ++ L) (n + 1)) := hMKs.2
              have hRL : R1.length + L.length ≤ 16 := by have := hMKs.2.mi.len; rw [List.length_append] at this; omega
              clear o2 s2 N2 O2 D2 HCs hMKs hL hdr HXA
              go_wp2_with fail
              refine Calls.mono HCa.out ?_
              rintro e w5 ⟨rfl, b5⟩
              have HN2 : Hid (MN wp w5 mb hb ab rv2 ((R1 ++ L).drop (n + 1)) (colH p (R1 ++ L) (n + 1))) := HN2'.out.below b5
              have HRow : Hid (w5.ownsRow wp.heap.size 3 1 (.slice rA R1.length cA) R1.length (iL R1)) := own_same HRow'.out (fun k hk => b5.block k (HRow'.out.lt k hk).2)
              have HQ : Hid (w5.ownsRow _ 3 1 (.slice r2 L.length c2) L.length (iL L)) := own_same HQ'.out (fun k hk => b5.block k (HQ'.out.lt k hk).2)
              obtain ⟨bw, ow, hw1, hw2⟩ := own_rx HRow.out rfl
              have hrr : rA = some ⟨bw, ow, none⟩ := hw1.resolve_left (by omega)
              have hrc : w5.cell? ⟨bw, ow + n, none⟩ = some (.int .i64 q) := (hw2 n q hcR).2
              have qq : (q != q) = false := by simp
              subst hrr
              clear b5 HCa HN2' HRow' HQ' hw1 hw2
              go_wp2_with (at_builtin; refine stop_of ?_)
              unfold Hid
              obtain ⟨bq, oq, hq1, hq2⟩ := own_rx HQ.out rfl
              refine wpList_append_all _ rfl _ _ 26 rfl wp.heap.size 3 i0 (.int .i64 0) 1 8 Tryd.underlying26 hi0 hz0 hz1 hz2 rfl (by decide) (.slice (some ⟨bw, ow, none⟩) R1.length cA) R1.length (iL R1) rfl HRow.out r2 L.length c2 (iL L) rfl (by simp) (fun hn => (by rcases hq1 with h | h; exact h; rw [h] at hn; cases hn)) (fun ad had jq uq hu => (by
                obtain ⟨xq, hxq, rfl⟩ := iL_at hu
                have e := hq1.resolve_left (by have := (List.getElem?_eq_some_iff.1 hxq).1; omega)
                rw [e] at had
                cases had
                rw [ad_add]
                exact (hq2 jq xq hxq).2)) (fun uq hu => (by
                obtain ⟨xq, _, rfl⟩ := List.mem_map.1 hu
                rfl)) (by unfold maxLen; omega) (by omega) HN2.out.b.size ?_
              clear hq1 hq2
              intro ra' cap w3 hown hgr hat
              have HX3 : Hid (XS wp w3 mb hb ab rv2 (.slice ra' (R1.length + L.length) cap) p (S1) (R1 ++ L) (n + 1)) := by
                refine ⟨?_, by simpa using hown, fun kq hkq e => ?_, HMK.out⟩
                · have := HN2.out.grown HRow.out (Nat.le_refl _) hgr HDis.out
                  exact this
                · rcases hat kq e with h1 | h1
                  · exact HDis.out kq hkq h1
                  · obtain ⟨cs, q⟩ := HN2.out.m.q.blk hkq
                    have := heap_lt q
                    omega
              clear hown hgr hat HQ HRow HDis HN2 HMK hrc
              go_wp2_with fail
              refine ⟨⟨R1 ++ L, S1, n + 1, rd + 1, true, ra', cap, rv2, by simp, rfl, by go_num, by go_num, by (first | omega | (simp; omega)), by simp [hSe1], ?_⟩, by simp [intOf]; omega⟩
              rw [List.length_append]
              exact HX3
          · have zw : ((n : Int) == wv) = false := by simpa using hwn
            cases hd : R.drop n with
            | nil =>
              have HCs : Hid _ := scan_any _ HX.out.m.m (by rw [hd]; simp) (HTp.out.below HX.out.m.b)
              rw [hd] at HCs
              have HnR : Hid (n = R.length) := by show _ = _; have := congrArg List.length hd; rw [List.length_drop] at this; have := HX.out.k.mi.le; simp at *; omega
              have g1 : decide ((n : Int) < (R.length : Int)) = false := by have := HnR.out; simp; omega
              have g2 : ¬ ((n : Int) < (R.length : Int)) := by have := HnR.out; omega
              have HCa : Hid _ := apart_any HX.out.m.m.c (apt_of HX.out.k) (HTp.out.below HX.out.m.b)
              go_wp2_with fail
              refine Calls.mono HCs.out ?_
              rintro e w' ⟨rfl, hw'⟩
              rw [hw']
              clear hw' HCs
              go_wp2_with fail
              refine Calls.mono HCa.out ?_
              rintro e w5 ⟨rfl, b5⟩
              have HX5 : Hid (XS wp w5 mb hb ab rv (.slice r R.length c) p S R n) := ⟨HX.out.m.below b5, own_same HX.out.o (fun k hk => b5.block k (HX.out.o.lt k hk).2), HX.out.d, HX.out.k⟩
              clear b5 HCa HX
              have HX := HX5
              clear HX5
              have hMKs := HX.out.k.shade more
              generalize hL : layL (colH p R n) (namL more) = L at hMKs
              have hLl : L.length ≤ more.length := by rw [← hL]; exact Nat.le_trans (layL_len _ _) (by have := nam_len more more.length; rwa [List.take_length] at this)
              have HC : Hid _ := shadeM_any more mra mca _ HX.out.m.m (HMr.out.below HX.out.m.b) (by omega) (by rw [List.length_drop]; have := HX.out.k.mi.len; omega) (HTp.out.below HX.out.m.b)
              go_wp2_with fail
              refine Calls.mono HC.out ?_
              rintro e w2 ⟨r2, c2, rv2, rfl, o2, s2, _⟩
              rw [hL] at o2 s2 ⊢
              have N2 := HX.out.m.step s2
              have hRn := HX.out.k.mi.le
              rw [hMKs.1, ← List.drop_append_of_le_length hRn] at N2
              have HN2 : Hid (MN wp w2 mb hb ab rv2 ((R ++ L).drop n) (colH p (R ++ L) n)) := N2
              obtain ⟨O2, D2⟩ := s2.own HX.out.m.m HX.out.o HX.out.d
              have HRow : Hid (w2.ownsRow wp.heap.size 3 1 (.slice r R.length c) R.length (iL R)) := O2
              have HDis : Hid (∀ k, rv2.ownBlock = some k → (Value.slice r R.length c).ownBlock ≠ some k) := D2
              have HQ : Hid (w2.ownsRow _ 3 1 (.slice r2 L.length c2) L.length (iL L)) := o2
              have HMK : Hid (MK p (S ++ more) (R ++ L) n) := hMKs.2
              have hRL : R.length + L.length ≤ 16 := by have := hMKs.2.mi.len; rw [List.length_append] at this; omega
              clear o2 s2 N2 O2 D2 HC hMKs hL hLl
              go_wp2_with (at_builtin; refine stop_of ?_)
              unfold Hid
              obtain ⟨bq, oq, hq1, hq2⟩ := own_rx HQ.out rfl
              refine wpList_append_all _ rfl _ _ 26 rfl wp.heap.size 3 i0 (.int .i64 0) 1 8 Tryd.underlying26 hi0 hz0 hz1 hz2 rfl (by decide) (.slice r R.length c) R.length (iL R) rfl HRow.out r2 L.length c2 (iL L) rfl (by simp) (fun hn => (by rcases hq1 with h | h; exact h; rw [h] at hn; cases hn)) (fun ad had jq uq hu => (by
                obtain ⟨xq, hxq, rfl⟩ := iL_at hu
                have e := hq1.resolve_left (by have := (List.getElem?_eq_some_iff.1 hxq).1; omega)
                rw [e] at had
                cases had
                rw [ad_add]
                exact (hq2 jq xq hxq).2)) (fun uq hu => (by
                obtain ⟨xq, _, rfl⟩ := List.mem_map.1 hu
                rfl)) (by unfold maxLen; omega) (by omega) HN2.out.b.size ?_
              clear hq1 hq2
              intro ra' cap w3 hown hgr hat
              have HX3 : Hid (XS wp w3 mb hb ab rv2 (.slice ra' (R.length + L.length) cap) p (S ++ more) (R ++ L) (n)) := by
                refine ⟨?_, by simpa using hown, fun kq hkq e => ?_, HMK.out⟩
                · have := HN2.out.grown HRow.out (Nat.le_refl _) hgr HDis.out
                  exact this
                · rcases hat kq e with h1 | h1
                  · exact HDis.out kq hkq h1
                  · obtain ⟨cs, q⟩ := HN2.out.m.q.blk hkq
                    have := heap_lt q
                    omega
              clear hown hgr hat HQ HRow HDis HN2 HMK HX
              go_wp2_with fail
              refine ⟨⟨R ++ L, S ++ more, n, rd + 1, true, ra', cap, rv2, by simp, rfl, rfl, by go_num, by (first | omega | (simp; omega)), by simp [hSe], ?_⟩, by simp [intOf]; omega⟩
              rw [List.length_append]
              exact HX3
            | cons q rest =>
              have hcR : R[n]? = some q := by have := congrArg (·[0]?) hd; simpa [List.getElem?_drop] using this
              have hnl : n < R.length := (List.getElem?_eq_some_iff.1 hcR).1
              have hMKs := HX.out.k.scan hcR
              have HCs : Hid (Calls Tryd.prog 13 #[.pointer (some ⟨mb, 0, none⟩)] wr fun e w' => ScO mb hb ab rv q rest (colH p R n) wr e w') := by
                have := scan_any _ HX.out.m.m (by rw [List.length_drop]; have := HX.out.k.mi.len; omega) (HTp.out.below HX.out.m.b)
                rw [hd] at this
                exact this
              generalize hL : layL (colH p R n) (scanL (colH p R n) q) = L at hMKs
              have g1 : decide ((n : Int) < (R.length : Int)) = true := by simpa using hnl
              have g2 : (n : Int) < (R.length : Int) := by omega
              go_wp2_with fail
              refine Calls.mono HCs.out ?_
              rintro e w2 ⟨r2, c2, rv2, rfl, o2, s2, _⟩
              rw [hL] at o2 s2 ⊢
              have N2 := HX.out.m.step s2
              have hdr : rest ++ L = (R ++ L).drop (n + 1) := by
                rw [List.drop_append_of_le_length (by omega)]
                congr 1
                have := congrArg List.tail hd
                simpa [List.tail_drop] using this.symm
              rw [hMKs.1, hdr] at N2
              obtain ⟨O2, D2⟩ := s2.own HX.out.m.m HX.out.o HX.out.d
              have HCa : Hid _ := apart_any N2.m.c (apt_of hMKs.2) (HTp.out.below N2.b)
              have HN2' : Hid (MN wp w2 mb hb ab rv2 ((R ++ L).drop (n + 1)) (colH p (R ++ L) (n + 1))) := N2
              have HRow' : Hid (w2.ownsRow wp.heap.size 3 1 (.slice r R.length c) R.length (iL R)) := O2
              have HDis : Hid (∀ k, rv2.ownBlock = some k → (Value.slice r R.length c).ownBlock ≠ some k) := D2
              have HQ' : Hid (w2.ownsRow _ 3 1 (.slice r2 L.length c2) L.length (iL L)) := o2
              have HMK : Hid (MK p S (R ++ L) (n + 1)) := hMKs.2
              have hRL : R.length + L.length ≤ 16 := by have := hMKs.2.mi.len; rw [List.length_append] at this; omega
              clear o2 s2 N2 O2 D2 HCs hMKs hL hdr HX
              go_wp2_with fail
              refine Calls.mono HCa.out ?_
              rintro e w5 ⟨rfl, b5⟩
              have HN2 : Hid (MN wp w5 mb hb ab rv2 ((R ++ L).drop (n + 1)) (colH p (R ++ L) (n + 1))) := HN2'.out.below b5
              have HRow : Hid (w5.ownsRow wp.heap.size 3 1 (.slice r R.length c) R.length (iL R)) := own_same HRow'.out (fun k hk => b5.block k (HRow'.out.lt k hk).2)
              have HQ : Hid (w5.ownsRow _ 3 1 (.slice r2 L.length c2) L.length (iL L)) := own_same HQ'.out (fun k hk => b5.block k (HQ'.out.lt k hk).2)
              obtain ⟨bw, ow, hw1, hw2⟩ := own_rx HRow.out rfl
              have hrr : r = some ⟨bw, ow, none⟩ := hw1.resolve_left (by omega)
              have hrc : w5.cell? ⟨bw, ow + n, none⟩ = some (.int .i64 q) := (hw2 n q hcR).2
              have qq : (q != q) = false := by simp
              subst hrr
              clear b5 HCa HN2' HRow' HQ' hw1 hw2
              go_wp2_with (at_builtin; refine stop_of ?_)
              unfold Hid
              obtain ⟨bq, oq, hq1, hq2⟩ := own_rx HQ.out rfl
              refine wpList_append_all _ rfl _ _ 26 rfl wp.heap.size 3 i0 (.int .i64 0) 1 8 Tryd.underlying26 hi0 hz0 hz1 hz2 rfl (by decide) (.slice (some ⟨bw, ow, none⟩) R.length c) R.length (iL R) rfl HRow.out r2 L.length c2 (iL L) rfl (by simp) (fun hn => (by rcases hq1 with h | h; exact h; rw [h] at hn; cases hn)) (fun ad had jq uq hu => (by
                obtain ⟨xq, hxq, rfl⟩ := iL_at hu
                have e := hq1.resolve_left (by have := (List.getElem?_eq_some_iff.1 hxq).1; omega)
                rw [e] at had
                cases had
                rw [ad_add]
                exact (hq2 jq xq hxq).2)) (fun uq hu => (by
                obtain ⟨xq, _, rfl⟩ := List.mem_map.1 hu
                rfl)) (by unfold maxLen; omega) (by omega) HN2.out.b.size ?_
              clear hq1 hq2
              intro ra' cap w3 hown hgr hat
              have HX3 : Hid (XS wp w3 mb hb ab rv2 (.slice ra' (R.length + L.length) cap) p (S) (R ++ L) (n + 1)) := by
                refine ⟨?_, by simpa using hown, fun kq hkq e => ?_, HMK.out⟩
                · have := HN2.out.grown HRow.out (Nat.le_refl _) hgr HDis.out
                  exact this
                · rcases hat kq e with h1 | h1
                  · exact HDis.out kq hkq h1
                  · obtain ⟨cs, q⟩ := HN2.out.m.q.blk hkq
                    have := heap_lt q
                    omega
              clear hown hgr hat HQ HRow HDis HN2 HMK hrc
              go_wp2_with fail
              refine ⟨⟨R ++ L, S, n + 1, rd + 1, false, ra', cap, rv2, by simp, rfl, by go_num, by go_num, by (first | omega | (simp; omega)), by simp [hSe], ?_⟩, by simp [intOf]; omega⟩
              rw [List.length_append]
              exact HX3
        · rw [if_pos rfl] at hSe hrd
          by_cases hwn : (n : Int) = wv
          · subst hwn
            cases hd : R.drop n with
            | nil =>
              have HCs : Hid _ := scan_any _ HX.out.m.m (by rw [hd]; simp) (HTp.out.below HX.out.m.b)
              rw [hd] at HCs
              have HnR : Hid (n = R.length) := by show _ = _; have := congrArg List.length hd; rw [List.length_drop] at this; have := HX.out.k.mi.le; simp at *; omega
              have g1 : decide ((n : Int) < (R.length : Int)) = false := by have := HnR.out; simp; omega
              have g2 : ¬ ((n : Int) < (R.length : Int)) := by have := HnR.out; omega
              have HCa : Hid _ := apart_any HX.out.m.m.c (apt_of HX.out.k) (HTp.out.below HX.out.m.b)
              go_wp2_with fail
              refine Calls.mono HCs.out ?_
              rintro e w' ⟨rfl, hw'⟩
              rw [hw']
              clear hw' HCs
              go_wp2_with fail
              refine Calls.mono HCa.out ?_
              rintro e w5 ⟨rfl, b5⟩
              have HX5 : Hid (XS wp w5 mb hb ab rv (.slice r R.length c) p S R n) := ⟨HX.out.m.below b5, own_same HX.out.o (fun k hk => b5.block k (HX.out.o.lt k hk).2), HX.out.d, HX.out.k⟩
              clear b5 HCa HX
              have HX := HX5
              clear HX5
              obtain ⟨iw, hiw, hv0, hv1, hv2⟩ := info_parts infoWd
              have HFin : Hid (XS wp w5 mb hb ab rv (.slice r R.length c) p (roots ++ more) R R.length) := by
                have := HX.out
                rw [hSe, HnR.out] at this
                exact this
              have hone : ∀ zs : List Int, ∀ u ∈ zs.map (Value.int .u64), u.oneCell' = true := fun zs u hu => by
                obtain ⟨x, _, rfl⟩ := List.mem_map.1 hu
                rfl
              have HOne : Hid (∀ zs : List Int, ∀ u ∈ zs.map (Value.int .u64), u.oneCell' = true) := hone
              clear hone HX
              go_wp2_with (at_builtin; refine stop_of ?_)
              unfold Hid
              obtain ⟨ba, oa, ha1, ha2⟩ := HRr.out.below HFin.out.m.b
              refine wpList_append_all _ rfl _ _ 25 rfl w5.heap.size 29 iw (.int .u64 0) 1 8 Tryd.underlying25 hiw hv0 hv1 hv2 rfl (by decide) (.slice none 0 0) 0 [] rfl ⟨rfl, .inl ⟨rfl, rfl⟩⟩ rra roots.length rca (roots.map (Value.int .u64)) rfl (by simp) (fun hn => (by rcases ha1 with h | h; exact h; rw [h] at hn; cases hn)) (fun ad had jq uq hu => (by
                rw [List.getElem?_map] at hu
                cases hxq : roots[jq]? with
                | none => rw [hxq] at hu; cases hu
                | some xq =>
                  rw [hxq] at hu
                  cases hu
                  have e := ha1.resolve_left (by have := (List.getElem?_eq_some_iff.1 hxq).1; omega)
                  rw [e] at had
                  cases had
                  rw [ad_add]
                  exact (ha2 jq xq hxq).2.1)) (HOne.out roots) (by unfold maxLen; omega) (by omega) (Nat.le_refl _) ?_
              clear ha1 ha2
              intro ra1 cap1 w6 hown6 hgr6 hat6
              have b56 : Below w5.heap.size w5 w6 := grown_low hgr6 (fun g hg => by cases hg) (Nat.le_refl _)
              have HB56 : Hid (Below w5.heap.size w5 w6) := b56
              rw [Nat.zero_add, List.nil_append] at hown6
              have HO6 : Hid (w6.ownsRow w5.heap.size 29 1 (.slice ra1 roots.length cap1) roots.length (roots.map (Value.int .u64))) := hown6
              rw [Nat.zero_add]
              clear hown6 hgr6 hat6 b56
              go_wp2_with (at_builtin; refine stop_of ?_)
              unfold Hid
              obtain ⟨ba, oa, ha1, ha2⟩ := (HMr.out.below HFin.out.m.b).below HB56.out
              refine wpList_append_all _ rfl _ _ 25 rfl w5.heap.size 29 iw (.int .u64 0) 1 8 Tryd.underlying25 hiw hv0 hv1 hv2 rfl (by decide) (.slice ra1 roots.length cap1) roots.length (roots.map (Value.int .u64)) rfl HO6.out mra more.length mca (more.map (Value.int .u64)) rfl (by simp) (fun hn => (by rcases ha1 with h | h; exact h; rw [h] at hn; cases hn)) (fun ad had jq uq hu => (by
                rw [List.getElem?_map] at hu
                cases hxq : more[jq]? with
                | none => rw [hxq] at hu; cases hu
                | some xq =>
                  rw [hxq] at hu
                  cases hu
                  have e := ha1.resolve_left (by have := (List.getElem?_eq_some_iff.1 hxq).1; omega)
                  rw [e] at had
                  cases had
                  rw [ad_add]
                  exact (ha2 jq xq hxq).2.1)) (HOne.out more) (by unfold maxLen; omega) (by omega) HB56.out.size ?_
              clear ha1 ha2
              intro ra2 cap2 w7 hown7 hgr7 hat7
              have b67 : Below w5.heap.size w6 w7 := grown_low hgr7 (fun g hg => (HO6.out.lt g hg).1) HB56.out.size
              have b57 : Below w5.heap.size w5 w7 := HB56.out.trans b67
              rw [← List.map_append, ← List.length_append] at hown7
              have hwr : WR w7 ra2 (roots ++ more) := fl_wr (w := w5) ⟨hown7, b57⟩ (fun x hx => (by
                rcases List.mem_append.1 hx with h | h
                · exact wr_rng2 HRr.out h
                · exact wr_rng2 HMr.out h))
              have N7 := HFin.out.m.below b57
              rw [List.drop_length] at N7
              have HBk : Hid (Calls Tryd.prog 15 #[.pointer (some ⟨hb, 0, none⟩), .pointer (some ⟨mb, 0, none⟩), .slice pra 16 pca, .slice ra2 (roots.length + more.length) cap2, .int .i64 R.length] w7 fun e w' => e = .returned (.bool true) ∧ Below w7.heap.size w7 w') := by
                have := black_any w7 N7.m HPl.out hpl HFin.out.k pra ra2 pca cap2 (HHr.out.below N7.b) hwr (by rw [List.length_append]; omega) (HTp.out.below N7.b)
                rw [List.length_append] at this
                exact this
              have HB7 : Hid (Below w.heap.size w w7) := HBw.out.trans (N7.b.mono HBw.out.size)
              clear hown7 hgr7 hat7 b67 b57 hwr N7 HO6
              go_wp2_with fail
              refine Calls.mono HBk.out ?_
              rintro e w8 ⟨rfl, b8⟩
              have HB8 : Hid (Below w.heap.size w w8) := HB7.out.trans (b8.mono HB7.out.size)
              clear b8 HBk
              go_wp2_with fail
              go_ret
              exact ⟨rfl, HB8.out⟩
            | cons q rest =>
              have hcR : R[n]? = some q := by have := congrArg (·[0]?) hd; simpa [List.getElem?_drop] using this
              have hnl : n < R.length := (List.getElem?_eq_some_iff.1 hcR).1
              have hMKs := HX.out.k.scan hcR
              have HCs : Hid (Calls Tryd.prog 13 #[.pointer (some ⟨mb, 0, none⟩)] wr fun e w' => ScO mb hb ab rv q rest (colH p R n) wr e w') := by
                have := scan_any _ HX.out.m.m (by rw [List.length_drop]; have := HX.out.k.mi.len; omega) (HTp.out.below HX.out.m.b)
                rw [hd] at this
                exact this
              generalize hL : layL (colH p R n) (scanL (colH p R n) q) = L at hMKs
              have g1 : decide ((n : Int) < (R.length : Int)) = true := by simpa using hnl
              have g2 : (n : Int) < (R.length : Int) := by omega
              go_wp2_with fail
              refine Calls.mono HCs.out ?_
              rintro e w2 ⟨r2, c2, rv2, rfl, o2, s2, _⟩
              rw [hL] at o2 s2 ⊢
              have N2 := HX.out.m.step s2
              have hdr : rest ++ L = (R ++ L).drop (n + 1) := by
                rw [List.drop_append_of_le_length (by omega)]
                congr 1
                have := congrArg List.tail hd
                simpa [List.tail_drop] using this.symm
              rw [hMKs.1, hdr] at N2
              obtain ⟨O2, D2⟩ := s2.own HX.out.m.m HX.out.o HX.out.d
              have HCa : Hid _ := apart_any N2.m.c (apt_of hMKs.2) (HTp.out.below N2.b)
              have HN2' : Hid (MN wp w2 mb hb ab rv2 ((R ++ L).drop (n + 1)) (colH p (R ++ L) (n + 1))) := N2
              have HRow' : Hid (w2.ownsRow wp.heap.size 3 1 (.slice r R.length c) R.length (iL R)) := O2
              have HDis : Hid (∀ k, rv2.ownBlock = some k → (Value.slice r R.length c).ownBlock ≠ some k) := D2
              have HQ' : Hid (w2.ownsRow _ 3 1 (.slice r2 L.length c2) L.length (iL L)) := o2
              have HMK : Hid (MK p S (R ++ L) (n + 1)) := hMKs.2
              have hRL : R.length + L.length ≤ 16 := by have := hMKs.2.mi.len; rw [List.length_append] at this; omega
              clear o2 s2 N2 O2 D2 HCs hMKs hL hdr HX
              go_wp2_with fail
              refine Calls.mono HCa.out ?_
              rintro e w5 ⟨rfl, b5⟩
              have HN2 : Hid (MN wp w5 mb hb ab rv2 ((R ++ L).drop (n + 1)) (colH p (R ++ L) (n + 1))) := HN2'.out.below b5
              have HRow : Hid (w5.ownsRow wp.heap.size 3 1 (.slice r R.length c) R.length (iL R)) := own_same HRow'.out (fun k hk => b5.block k (HRow'.out.lt k hk).2)
              have HQ : Hid (w5.ownsRow _ 3 1 (.slice r2 L.length c2) L.length (iL L)) := own_same HQ'.out (fun k hk => b5.block k (HQ'.out.lt k hk).2)
              obtain ⟨bw, ow, hw1, hw2⟩ := own_rx HRow.out rfl
              have hrr : r = some ⟨bw, ow, none⟩ := hw1.resolve_left (by omega)
              have hrc : w5.cell? ⟨bw, ow + n, none⟩ = some (.int .i64 q) := (hw2 n q hcR).2
              have qq : (q != q) = false := by simp
              subst hrr
              clear b5 HCa HN2' HRow' HQ' hw1 hw2
              go_wp2_with (at_builtin; refine stop_of ?_)
              unfold Hid
              obtain ⟨bq, oq, hq1, hq2⟩ := own_rx HQ.out rfl
              refine wpList_append_all _ rfl _ _ 26 rfl wp.heap.size 3 i0 (.int .i64 0) 1 8 Tryd.underlying26 hi0 hz0 hz1 hz2 rfl (by decide) (.slice (some ⟨bw, ow, none⟩) R.length c) R.length (iL R) rfl HRow.out r2 L.length c2 (iL L) rfl (by simp) (fun hn => (by rcases hq1 with h | h; exact h; rw [h] at hn; cases hn)) (fun ad had jq uq hu => (by
                obtain ⟨xq, hxq, rfl⟩ := iL_at hu
                have e := hq1.resolve_left (by have := (List.getElem?_eq_some_iff.1 hxq).1; omega)
                rw [e] at had
                cases had
                rw [ad_add]
                exact (hq2 jq xq hxq).2)) (fun uq hu => (by
                obtain ⟨xq, _, rfl⟩ := List.mem_map.1 hu
                rfl)) (by unfold maxLen; omega) (by omega) HN2.out.b.size ?_
              clear hq1 hq2
              intro ra' cap w3 hown hgr hat
              have HX3 : Hid (XS wp w3 mb hb ab rv2 (.slice ra' (R.length + L.length) cap) p (S) (R ++ L) (n + 1)) := by
                refine ⟨?_, by simpa using hown, fun kq hkq e => ?_, HMK.out⟩
                · have := HN2.out.grown HRow.out (Nat.le_refl _) hgr HDis.out
                  exact this
                · rcases hat kq e with h1 | h1
                  · exact HDis.out kq hkq h1
                  · obtain ⟨cs, q⟩ := HN2.out.m.q.blk hkq
                    have := heap_lt q
                    omega
              clear hown hgr hat HQ HRow HDis HN2 HMK hrc
              go_wp2_with fail
              refine ⟨⟨R ++ L, S, n + 1, rd + 1, true, ra', cap, rv2, by simp, rfl, by go_num, by go_num, by (first | omega | (simp; omega)), by simp [hSe], ?_⟩, by simp [intOf]; omega⟩
              rw [List.length_append]
              exact HX3
          · have zw : ((n : Int) == wv) = false := by simpa using hwn
            cases hd : R.drop n with
            | nil =>
              have HCs : Hid _ := scan_any _ HX.out.m.m (by rw [hd]; simp) (HTp.out.below HX.out.m.b)
              rw [hd] at HCs
              have HnR : Hid (n = R.length) := by show _ = _; have := congrArg List.length hd; rw [List.length_drop] at this; have := HX.out.k.mi.le; simp at *; omega
              have g1 : decide ((n : Int) < (R.length : Int)) = false := by have := HnR.out; simp; omega
              have g2 : ¬ ((n : Int) < (R.length : Int)) := by have := HnR.out; omega
              have HCa : Hid _ := apart_any HX.out.m.m.c (apt_of HX.out.k) (HTp.out.below HX.out.m.b)
              go_wp2_with fail
              refine Calls.mono HCs.out ?_
              rintro e w' ⟨rfl, hw'⟩
              rw [hw']
              clear hw' HCs
              go_wp2_with fail
              refine Calls.mono HCa.out ?_
              rintro e w5 ⟨rfl, b5⟩
              have HX5 : Hid (XS wp w5 mb hb ab rv (.slice r R.length c) p S R n) := ⟨HX.out.m.below b5, own_same HX.out.o (fun k hk => b5.block k (HX.out.o.lt k hk).2), HX.out.d, HX.out.k⟩
              clear b5 HCa HX
              have HX := HX5
              clear HX5
              obtain ⟨iw, hiw, hv0, hv1, hv2⟩ := info_parts infoWd
              have HFin : Hid (XS wp w5 mb hb ab rv (.slice r R.length c) p (roots ++ more) R R.length) := by
                have := HX.out
                rw [hSe, HnR.out] at this
                exact this
              have hone : ∀ zs : List Int, ∀ u ∈ zs.map (Value.int .u64), u.oneCell' = true := fun zs u hu => by
                obtain ⟨x, _, rfl⟩ := List.mem_map.1 hu
                rfl
              have HOne : Hid (∀ zs : List Int, ∀ u ∈ zs.map (Value.int .u64), u.oneCell' = true) := hone
              clear hone HX
              go_wp2_with (at_builtin; refine stop_of ?_)
              unfold Hid
              obtain ⟨ba, oa, ha1, ha2⟩ := HRr.out.below HFin.out.m.b
              refine wpList_append_all _ rfl _ _ 25 rfl w5.heap.size 29 iw (.int .u64 0) 1 8 Tryd.underlying25 hiw hv0 hv1 hv2 rfl (by decide) (.slice none 0 0) 0 [] rfl ⟨rfl, .inl ⟨rfl, rfl⟩⟩ rra roots.length rca (roots.map (Value.int .u64)) rfl (by simp) (fun hn => (by rcases ha1 with h | h; exact h; rw [h] at hn; cases hn)) (fun ad had jq uq hu => (by
                rw [List.getElem?_map] at hu
                cases hxq : roots[jq]? with
                | none => rw [hxq] at hu; cases hu
                | some xq =>
                  rw [hxq] at hu
                  cases hu
                  have e := ha1.resolve_left (by have := (List.getElem?_eq_some_iff.1 hxq).1; omega)
                  rw [e] at had
                  cases had
                  rw [ad_add]
                  exact (ha2 jq xq hxq).2.1)) (HOne.out roots) (by unfold maxLen; omega) (by omega) (Nat.le_refl _) ?_
              clear ha1 ha2
              intro ra1 cap1 w6 hown6 hgr6 hat6
              have b56 : Below w5.heap.size w5 w6 := grown_low hgr6 (fun g hg => by cases hg) (Nat.le_refl _)
              have HB56 : Hid (Below w5.heap.size w5 w6) := b56
              rw [Nat.zero_add, List.nil_append] at hown6
              have HO6 : Hid (w6.ownsRow w5.heap.size 29 1 (.slice ra1 roots.length cap1) roots.length (roots.map (Value.int .u64))) := hown6
              rw [Nat.zero_add]
              clear hown6 hgr6 hat6 b56
              go_wp2_with (at_builtin; refine stop_of ?_)
              unfold Hid
              obtain ⟨ba, oa, ha1, ha2⟩ := (HMr.out.below HFin.out.m.b).below HB56.out
              refine wpList_append_all _ rfl _ _ 25 rfl w5.heap.size 29 iw (.int .u64 0) 1 8 Tryd.underlying25 hiw hv0 hv1 hv2 rfl (by decide) (.slice ra1 roots.length cap1) roots.length (roots.map (Value.int .u64)) rfl HO6.out mra more.length mca (more.map (Value.int .u64)) rfl (by simp) (fun hn => (by rcases ha1 with h | h; exact h; rw [h] at hn; cases hn)) (fun ad had jq uq hu => (by
                rw [List.getElem?_map] at hu
                cases hxq : more[jq]? with
                | none => rw [hxq] at hu; cases hu
                | some xq =>
                  rw [hxq] at hu
                  cases hu
                  have e := ha1.resolve_left (by have := (List.getElem?_eq_some_iff.1 hxq).1; omega)
                  rw [e] at had
                  cases had
                  rw [ad_add]
                  exact (ha2 jq xq hxq).2.1)) (HOne.out more) (by unfold maxLen; omega) (by omega) HB56.out.size ?_
              clear ha1 ha2
              intro ra2 cap2 w7 hown7 hgr7 hat7
              have b67 : Below w5.heap.size w6 w7 := grown_low hgr7 (fun g hg => (HO6.out.lt g hg).1) HB56.out.size
              have b57 : Below w5.heap.size w5 w7 := HB56.out.trans b67
              rw [← List.map_append, ← List.length_append] at hown7
              have hwr : WR w7 ra2 (roots ++ more) := fl_wr (w := w5) ⟨hown7, b57⟩ (fun x hx => (by
                rcases List.mem_append.1 hx with h | h
                · exact wr_rng2 HRr.out h
                · exact wr_rng2 HMr.out h))
              have N7 := HFin.out.m.below b57
              rw [List.drop_length] at N7
              have HBk : Hid (Calls Tryd.prog 15 #[.pointer (some ⟨hb, 0, none⟩), .pointer (some ⟨mb, 0, none⟩), .slice pra 16 pca, .slice ra2 (roots.length + more.length) cap2, .int .i64 R.length] w7 fun e w' => e = .returned (.bool true) ∧ Below w7.heap.size w7 w') := by
                have := black_any w7 N7.m HPl.out hpl HFin.out.k pra ra2 pca cap2 (HHr.out.below N7.b) hwr (by rw [List.length_append]; omega) (HTp.out.below N7.b)
                rw [List.length_append] at this
                exact this
              have HB7 : Hid (Below w.heap.size w w7) := HBw.out.trans (N7.b.mono HBw.out.size)
              clear hown7 hgr7 hat7 b67 b57 hwr N7 HO6
              go_wp2_with fail
              refine Calls.mono HBk.out ?_
              rintro e w8 ⟨rfl, b8⟩
              have HB8 : Hid (Below w.heap.size w w8) := HB7.out.trans (b8.mono HB7.out.size)
              clear b8 HBk
              go_wp2_with fail
              go_ret
              exact ⟨rfl, HB8.out⟩
            | cons q rest =>
              have hcR : R[n]? = some q := by have := congrArg (·[0]?) hd; simpa [List.getElem?_drop] using this
              have hnl : n < R.length := (List.getElem?_eq_some_iff.1 hcR).1
              have hMKs := HX.out.k.scan hcR
              have HCs : Hid (Calls Tryd.prog 13 #[.pointer (some ⟨mb, 0, none⟩)] wr fun e w' => ScO mb hb ab rv q rest (colH p R n) wr e w') := by
                have := scan_any _ HX.out.m.m (by rw [List.length_drop]; have := HX.out.k.mi.len; omega) (HTp.out.below HX.out.m.b)
                rw [hd] at this
                exact this
              generalize hL : layL (colH p R n) (scanL (colH p R n) q) = L at hMKs
              have g1 : decide ((n : Int) < (R.length : Int)) = true := by simpa using hnl
              have g2 : (n : Int) < (R.length : Int) := by omega
              go_wp2_with fail
              refine Calls.mono HCs.out ?_
              rintro e w2 ⟨r2, c2, rv2, rfl, o2, s2, _⟩
              rw [hL] at o2 s2 ⊢
              have N2 := HX.out.m.step s2
              have hdr : rest ++ L = (R ++ L).drop (n + 1) := by
                rw [List.drop_append_of_le_length (by omega)]
                congr 1
                have := congrArg List.tail hd
                simpa [List.tail_drop] using this.symm
              rw [hMKs.1, hdr] at N2
              obtain ⟨O2, D2⟩ := s2.own HX.out.m.m HX.out.o HX.out.d
              have HCa : Hid _ := apart_any N2.m.c (apt_of hMKs.2) (HTp.out.below N2.b)
              have HN2' : Hid (MN wp w2 mb hb ab rv2 ((R ++ L).drop (n + 1)) (colH p (R ++ L) (n + 1))) := N2
              have HRow' : Hid (w2.ownsRow wp.heap.size 3 1 (.slice r R.length c) R.length (iL R)) := O2
              have HDis : Hid (∀ k, rv2.ownBlock = some k → (Value.slice r R.length c).ownBlock ≠ some k) := D2
              have HQ' : Hid (w2.ownsRow _ 3 1 (.slice r2 L.length c2) L.length (iL L)) := o2
              have HMK : Hid (MK p S (R ++ L) (n + 1)) := hMKs.2
              have hRL : R.length + L.length ≤ 16 := by have := hMKs.2.mi.len; rw [List.length_append] at this; omega
              clear o2 s2 N2 O2 D2 HCs hMKs hL hdr HX
              go_wp2_with fail
              refine Calls.mono HCa.out ?_
              rintro e w5 ⟨rfl, b5⟩
              have HN2 : Hid (MN wp w5 mb hb ab rv2 ((R ++ L).drop (n + 1)) (colH p (R ++ L) (n + 1))) := HN2'.out.below b5
              have HRow : Hid (w5.ownsRow wp.heap.size 3 1 (.slice r R.length c) R.length (iL R)) := own_same HRow'.out (fun k hk => b5.block k (HRow'.out.lt k hk).2)
              have HQ : Hid (w5.ownsRow _ 3 1 (.slice r2 L.length c2) L.length (iL L)) := own_same HQ'.out (fun k hk => b5.block k (HQ'.out.lt k hk).2)
              obtain ⟨bw, ow, hw1, hw2⟩ := own_rx HRow.out rfl
              have hrr : r = some ⟨bw, ow, none⟩ := hw1.resolve_left (by omega)
              have hrc : w5.cell? ⟨bw, ow + n, none⟩ = some (.int .i64 q) := (hw2 n q hcR).2
              have qq : (q != q) = false := by simp
              subst hrr
              clear b5 HCa HN2' HRow' HQ' hw1 hw2
              go_wp2_with (at_builtin; refine stop_of ?_)
              unfold Hid
              obtain ⟨bq, oq, hq1, hq2⟩ := own_rx HQ.out rfl
              refine wpList_append_all _ rfl _ _ 26 rfl wp.heap.size 3 i0 (.int .i64 0) 1 8 Tryd.underlying26 hi0 hz0 hz1 hz2 rfl (by decide) (.slice (some ⟨bw, ow, none⟩) R.length c) R.length (iL R) rfl HRow.out r2 L.length c2 (iL L) rfl (by simp) (fun hn => (by rcases hq1 with h | h; exact h; rw [h] at hn; cases hn)) (fun ad had jq uq hu => (by
                obtain ⟨xq, hxq, rfl⟩ := iL_at hu
                have e := hq1.resolve_left (by have := (List.getElem?_eq_some_iff.1 hxq).1; omega)
                rw [e] at had
                cases had
                rw [ad_add]
                exact (hq2 jq xq hxq).2)) (fun uq hu => (by
                obtain ⟨xq, _, rfl⟩ := List.mem_map.1 hu
                rfl)) (by unfold maxLen; omega) (by omega) HN2.out.b.size ?_
              clear hq1 hq2
              intro ra' cap w3 hown hgr hat
              have HX3 : Hid (XS wp w3 mb hb ab rv2 (.slice ra' (R.length + L.length) cap) p (S) (R ++ L) (n + 1)) := by
                refine ⟨?_, by simpa using hown, fun kq hkq e => ?_, HMK.out⟩
                · have := HN2.out.grown HRow.out (Nat.le_refl _) hgr HDis.out
                  exact this
                · rcases hat kq e with h1 | h1
                  · exact HDis.out kq hkq h1
                  · obtain ⟨cs, q⟩ := HN2.out.m.q.blk hkq
                    have := heap_lt q
                    omega
              clear hown hgr hat HQ HRow HDis HN2 HMK hrc
              go_wp2_with fail
              refine ⟨⟨R ++ L, S, n + 1, rd + 1, true, ra', cap, rv2, by simp, rfl, by go_num, by go_num, by (first | omega | (simp; omega)), by simp [hSe], ?_⟩, by simp [intOf]; omega⟩
              rw [List.length_append]
              exact HX3
    · have zn : decide (when < 0) = false := by simpa using hneg
      go_wp2_with fail
      generalize when % 17 = wv
      clear hw0
      go_loopw [14, 15, 16, 17, 18, 19, 20, 21] (fun v14 v15 v16 v17 _ _ _ _ wr => ∃ (R S : List Int) (n rd : Nat) (lt : Bool) (r : Option Addr) (c : Nat) (rv : Value), v14 = .slice r R.length c ∧ v15 = .bool lt ∧ v16 = .int .i64 n ∧ v17 = .int .i64 rd ∧ rd ≤ n + (if lt = true then 1 else 0) ∧ S = (if lt = true then roots ++ more else roots) ∧ Hid (XS wp wr mb hb ab rv (.slice r R.length c) p S R n)) (fun _ _ _ v17 _ _ _ _ _ => 40 - (intOf v17).toNat)
      case atStart => exact ⟨R0, roots, 0, 0, false, r4, c4, rv4, rfl, rfl, rfl, rfl, by simp, rfl, HX⟩
      case round =>
        clear HX
        obtain ⟨R, S, n, rd, lt, r, c, rv, rfl, rfl, rfl, rfl, hrd, hSe, HX⟩ := hrel
        have hnR16 : n ≤ 16 := by have := HX.out.k.mi.len; have := HX.out.k.mi.le; omega
        have hrd34 : rd ≤ 17 := by split at hrd <;> omega
        have k34 : (rd : Int) ≤ 34 := by omega
        have hRl16 : R.length ≤ 16 := by have := HX.out.k.mi.len; omega
        cases lt
        · rw [if_neg (by decide)] at hSe hrd
          by_cases hwn : (n : Int) = wv
          · subst hwn
            have hMKs := HX.out.k.shade more
            generalize hL : layL (colH p R n) (namL more) = LA at hMKs
            have hLl : LA.length ≤ more.length := by rw [← hL]; exact Nat.le_trans (layL_len _ _) (by have := nam_len more more.length; rwa [List.take_length] at this)
            have HC : Hid _ := shadeM_any more mra mca _ HX.out.m.m (HMr.out.below HX.out.m.b) (by omega) (by rw [List.length_drop]; have := HX.out.k.mi.len; omega) (HTp.out.below HX.out.m.b)
            go_wp2_with fail
            refine Calls.mono HC.out ?_
            rintro e wB ⟨rB, cB, rvA, rfl, o2, s2, _⟩
            rw [hL] at o2 s2 ⊢
            have N2 := HX.out.m.step s2
            have hRn := HX.out.k.mi.le
            rw [hMKs.1, ← List.drop_append_of_le_length hRn] at N2
            have HN2 : Hid (MN wp wB mb hb ab rvA ((R ++ LA).drop n) (colH p (R ++ LA) n)) := N2
            obtain ⟨O2, D2⟩ := s2.own HX.out.m.m HX.out.o HX.out.d
            have HRow : Hid (wB.ownsRow wp.heap.size 3 1 (.slice r R.length c) R.length (iL R)) := O2
            have HDis : Hid (∀ k, rvA.ownBlock = some k → (Value.slice r R.length c).ownBlock ≠ some k) := D2
            have HQ : Hid (wB.ownsRow _ 3 1 (.slice rB LA.length cB) LA.length (iL LA)) := o2
            have HMK : Hid (MK p (S ++ more) (R ++ LA) n) := hMKs.2
            have hRL : R.length + LA.length ≤ 16 := by have := hMKs.2.mi.len; rw [List.length_append] at this; omega
            clear o2 s2 N2 O2 D2 HC hMKs hL hLl
            go_wp2_with (at_builtin; refine stop_of ?_)
            unfold Hid
            obtain ⟨bq, oq, hq1, hq2⟩ := own_rx HQ.out rfl
            refine wpList_append_all _ rfl _ _ 26 rfl wp.heap.size 3 i0 (.int .i64 0) 1 8 Tryd.underlying26 hi0 hz0 hz1 hz2 rfl (by decide) (.slice r R.length c) R.length (iL R) rfl HRow.out rB LA.length cB (iL LA) rfl (by simp) (fun hn => (by rcases hq1 with h | h; exact h; rw [h] at hn; cases hn)) (fun ad had jq uq hu => (by
              obtain ⟨xq, hxq, rfl⟩ := iL_at hu
              have e := hq1.resolve_left (by have := (List.getElem?_eq_some_iff.1 hxq).1; omega)
              rw [e] at had
              cases had
              rw [ad_add]
              exact (hq2 jq xq hxq).2)) (fun uq hu => (by
              obtain ⟨xq, _, rfl⟩ := List.mem_map.1 hu
              rfl)) (by unfold maxLen; omega) (by omega) HN2.out.b.size ?_
            clear hq1 hq2
            intro rA cA wA hown hgr hat
            have HXA0 : Hid (XS wp wA mb hb ab rvA (.slice rA (R.length + LA.length) cA) p (S ++ more) (R ++ LA) (n)) := by
              refine ⟨?_, by simpa using hown, fun kq hkq e => ?_, HMK.out⟩
              · have := HN2.out.grown HRow.out (Nat.le_refl _) hgr HDis.out
                exact this
              · rcases hat kq e with h1 | h1
                · exact HDis.out kq hkq h1
                · obtain ⟨cs, q⟩ := HN2.out.m.q.blk hkq
                  have := heap_lt q
                  omega
            clear hown hgr hat HQ HRow HDis HN2 HMK HX
            have HXA : Hid (XS wp wA mb hb ab rvA (.slice rA (R ++ LA).length cA) p (S ++ more) (R ++ LA) n) := by rw [List.length_append]; exact HXA0.out
            rw [← List.length_append]
            have hSe1 : S ++ more = roots ++ more := by rw [hSe]
            have hRl1 : (R ++ LA).length ≤ 16 := by rw [List.length_append]; exact hRL
            generalize S ++ more = S1 at HXA hSe1
            generalize R ++ LA = R1 at HXA hRl1 ⊢
            clear hRL HXA0
            cases hd : R1.drop n with
            | nil =>
              have HCs : Hid _ := scan_any _ HXA.out.m.m (by rw [hd]; simp) (HTp.out.below HXA.out.m.b)
              rw [hd] at HCs
              have HnR : Hid (n = R1.length) := by show _ = _; have := congrArg List.length hd; rw [List.length_drop] at this; have := HXA.out.k.mi.le; simp at *; omega
              have g1 : decide ((n : Int) < (R1.length : Int)) = false := by have := HnR.out; simp; omega
              have g2 : ¬ ((n : Int) < (R1.length : Int)) := by have := HnR.out; omega
              have HCa : Hid _ := apart_any HXA.out.m.m.c (apt_of HXA.out.k) (HTp.out.below HXA.out.m.b)
              go_wp2_with fail
              refine Calls.mono HCs.out ?_
              rintro e w' ⟨rfl, hw'⟩
              rw [hw']
              clear hw' HCs
              go_wp2_with fail
              refine Calls.mono HCa.out ?_
              rintro e w5 ⟨rfl, b5⟩
              have HX5 : Hid (XS wp w5 mb hb ab rvA (.slice rA R1.length cA) p S1 R1 n) := ⟨HXA.out.m.below b5, own_same HXA.out.o (fun k hk => b5.block k (HXA.out.o.lt k hk).2), HXA.out.d, HXA.out.k⟩
              clear b5 HCa HXA
              have HXA := HX5
              clear HX5
              obtain ⟨iw, hiw, hv0, hv1, hv2⟩ := info_parts infoWd
              have HFin : Hid (XS wp w5 mb hb ab rvA (.slice rA R1.length cA) p (roots ++ more) R1 R1.length) := by
                have := HXA.out
                rw [hSe1, HnR.out] at this
                exact this
              have hone : ∀ zs : List Int, ∀ u ∈ zs.map (Value.int .u64), u.oneCell' = true := fun zs u hu => by
                obtain ⟨x, _, rfl⟩ := List.mem_map.1 hu
                rfl
              have HOne : Hid (∀ zs : List Int, ∀ u ∈ zs.map (Value.int .u64), u.oneCell' = true) := hone
              clear hone HXA
              go_wp2_with (at_builtin; refine stop_of ?_)
              unfold Hid
              obtain ⟨ba, oa, ha1, ha2⟩ := HRr.out.below HFin.out.m.b
              refine wpList_append_all _ rfl _ _ 25 rfl w5.heap.size 29 iw (.int .u64 0) 1 8 Tryd.underlying25 hiw hv0 hv1 hv2 rfl (by decide) (.slice none 0 0) 0 [] rfl ⟨rfl, .inl ⟨rfl, rfl⟩⟩ rra roots.length rca (roots.map (Value.int .u64)) rfl (by simp) (fun hn => (by rcases ha1 with h | h; exact h; rw [h] at hn; cases hn)) (fun ad had jq uq hu => (by
                rw [List.getElem?_map] at hu
                cases hxq : roots[jq]? with
                | none => rw [hxq] at hu; cases hu
                | some xq =>
                  rw [hxq] at hu
                  cases hu
                  have e := ha1.resolve_left (by have := (List.getElem?_eq_some_iff.1 hxq).1; omega)
                  rw [e] at had
                  cases had
                  rw [ad_add]
                  exact (ha2 jq xq hxq).2.1)) (HOne.out roots) (by unfold maxLen; omega) (by omega) (Nat.le_refl _) ?_
              clear ha1 ha2
              intro ra1 cap1 w6 hown6 hgr6 hat6
              have b56 : Below w5.heap.size w5 w6 := grown_low hgr6 (fun g hg => by cases hg) (Nat.le_refl _)
              have HB56 : Hid (Below w5.heap.size w5 w6) := b56
              rw [Nat.zero_add, List.nil_append] at hown6
              have HO6 : Hid (w6.ownsRow w5.heap.size 29 1 (.slice ra1 roots.length cap1) roots.length (roots.map (Value.int .u64))) := hown6
              rw [Nat.zero_add]
              clear hown6 hgr6 hat6 b56
              go_wp2_with (at_builtin; refine stop_of ?_)
              unfold Hid
              obtain ⟨ba, oa, ha1, ha2⟩ := (HMr.out.below HFin.out.m.b).below HB56.out
              refine wpList_append_all _ rfl _ _ 25 rfl w5.heap.size 29 iw (.int .u64 0) 1 8 Tryd.underlying25 hiw hv0 hv1 hv2 rfl (by decide) (.slice ra1 roots.length cap1) roots.length (roots.map (Value.int .u64)) rfl HO6.out mra more.length mca (more.map (Value.int .u64)) rfl (by simp) (fun hn => (by rcases ha1 with h | h; exact h; rw [h] at hn; cases hn)) (fun ad had jq uq hu => (by
                rw [List.getElem?_map] at hu
                cases hxq : more[jq]? with
                | none => rw [hxq] at hu; cases hu
                | some xq =>
                  rw [hxq] at hu
                  cases hu
                  have e := ha1.resolve_left (by have := (List.getElem?_eq_some_iff.1 hxq).1; omega)
                  rw [e] at had
                  cases had
                  rw [ad_add]
                  exact (ha2 jq xq hxq).2.1)) (HOne.out more) (by unfold maxLen; omega) (by omega) HB56.out.size ?_
              clear ha1 ha2
              intro ra2 cap2 w7 hown7 hgr7 hat7
              have b67 : Below w5.heap.size w6 w7 := grown_low hgr7 (fun g hg => (HO6.out.lt g hg).1) HB56.out.size
              have b57 : Below w5.heap.size w5 w7 := HB56.out.trans b67
              rw [← List.map_append, ← List.length_append] at hown7
              have hwr : WR w7 ra2 (roots ++ more) := fl_wr (w := w5) ⟨hown7, b57⟩ (fun x hx => (by
                rcases List.mem_append.1 hx with h | h
                · exact wr_rng2 HRr.out h
                · exact wr_rng2 HMr.out h))
              have N7 := HFin.out.m.below b57
              rw [List.drop_length] at N7
              have HBk : Hid (Calls Tryd.prog 15 #[.pointer (some ⟨hb, 0, none⟩), .pointer (some ⟨mb, 0, none⟩), .slice pra 16 pca, .slice ra2 (roots.length + more.length) cap2, .int .i64 R1.length] w7 fun e w' => e = .returned (.bool true) ∧ Below w7.heap.size w7 w') := by
                have := black_any w7 N7.m HPl.out hpl HFin.out.k pra ra2 pca cap2 (HHr.out.below N7.b) hwr (by rw [List.length_append]; omega) (HTp.out.below N7.b)
                rw [List.length_append] at this
                exact this
              have HB7 : Hid (Below w.heap.size w w7) := HBw.out.trans (N7.b.mono HBw.out.size)
              clear hown7 hgr7 hat7 b67 b57 hwr N7 HO6
              go_wp2_with fail
              refine Calls.mono HBk.out ?_
              rintro e w8 ⟨rfl, b8⟩
              have HB8 : Hid (Below w.heap.size w w8) := HB7.out.trans (b8.mono HB7.out.size)
              clear b8 HBk
              go_wp2_with fail
              go_ret
              exact ⟨rfl, HB8.out⟩
            | cons q rest =>
              have hcR : R1[n]? = some q := by have := congrArg (·[0]?) hd; simpa [List.getElem?_drop] using this
              have hnl : n < R1.length := (List.getElem?_eq_some_iff.1 hcR).1
              have hMKs := HXA.out.k.scan hcR
              have HCs : Hid (Calls Tryd.prog 13 #[.pointer (some ⟨mb, 0, none⟩)] wA fun e w' => ScO mb hb ab rvA q rest (colH p R1 n) wA e w') := by
                have := scan_any _ HXA.out.m.m (by rw [List.length_drop]; have := HXA.out.k.mi.len; omega) (HTp.out.below HXA.out.m.b)
                rw [hd] at this
                exact this
              generalize hL : layL (colH p R1 n) (scanL (colH p R1 n) q) = L at hMKs
              have g1 : decide ((n : Int) < (R1.length : Int)) = true := by simpa using hnl
              have g2 : (n : Int) < (R1.length : Int) := by omega
              go_wp2_with fail
              refine Calls.mono HCs.out ?_
              rintro e w2 ⟨r2, c2, rv2, rfl, o2, s2, _⟩
              rw [hL] at o2 s2 ⊢
              have N2 := HXA.out.m.step s2
              have hdr : rest ++ L = (R1 ++ L).drop (n + 1) := by
                rw [List.drop_append_of_le_length (by omega)]
                congr 1
                have := congrArg List.tail hd
                simpa [List.tail_drop] using this.symm
              rw [hMKs.1, hdr] at N2
              obtain ⟨O2, D2⟩ := s2.own HXA.out.m.m HXA.out.o HXA.out.d
              have HCa : Hid _ := apart_any N2.m.c (apt_of hMKs.2) (HTp.out.below N2.b)
              have HN2' : Hid (MN wp w2 mb hb ab rv2 ((R1 ++ L).drop (n + 1)) (colH p (R1 ++ L) (n + 1))) := N2
              have HRow' : Hid (w2.ownsRow wp.heap.size 3 1 (.slice rA R1.length cA) R1.length (iL R1)) := O2
              have HDis : Hid (∀ k, rv2.ownBlock = some k → (Value.slice rA R1.length cA).ownBlock ≠ some k) := D2
              have HQ' : Hid (w2.ownsRow _ 3 1 (.slice r2 L.length c2) L.length (iL L)) := o2
              have HMK : Hid (MK p S1 (R1 ++ L) (n + 1)) := hMKs.2
              have hRL : R1.length + L.length ≤ 16 := by have := hMKs.2.mi.len; rw [List.length_append] at this; omega
              clear o2 s2 N2 O2 D2 HCs hMKs hL hdr HXA
              go_wp2_with fail
              refine Calls.mono HCa.out ?_
              rintro e w5 ⟨rfl, b5⟩
              have HN2 : Hid (MN wp w5 mb hb ab rv2 ((R1 ++ L).drop (n + 1)) (colH p (R1 ++ L) (n + 1))) := HN2'.out.below b5
              have HRow : Hid (w5.ownsRow wp.heap.size 3 1 (.slice rA R1.length cA) R1.length (iL R1)) := own_same HRow'.out (fun k hk => b5.block k (HRow'.out.lt k hk).2)
              have HQ : Hid (w5.ownsRow _ 3 1 (.slice r2 L.length c2) L.length (iL L)) := own_same HQ'.out (fun k hk => b5.block k (HQ'.out.lt k hk).2)
              obtain ⟨bw, ow, hw1, hw2⟩ := own_rx HRow.out rfl
              have hrr : rA = some ⟨bw, ow, none⟩ := hw1.resolve_left (by omega)
              have hrc : w5.cell? ⟨bw, ow + n, none⟩ = some (.int .i64 q) := (hw2 n q hcR).2
              have qq : (q != q) = false := by simp
              subst hrr
              clear b5 HCa HN2' HRow' HQ' hw1 hw2
              go_wp2_with (at_builtin; refine stop_of ?_)
              unfold Hid
              obtain ⟨bq, oq, hq1, hq2⟩ := own_rx HQ.out rfl
              refine wpList_append_all _ rfl _ _ 26 rfl wp.heap.size 3 i0 (.int .i64 0) 1 8 Tryd.underlying26 hi0 hz0 hz1 hz2 rfl (by decide) (.slice (some ⟨bw, ow, none⟩) R1.length cA) R1.length (iL R1) rfl HRow.out r2 L.length c2 (iL L) rfl (by simp) (fun hn => (by rcases hq1 with h | h; exact h; rw [h] at hn; cases hn)) (fun ad had jq uq hu => (by
                obtain ⟨xq, hxq, rfl⟩ := iL_at hu
                have e := hq1.resolve_left (by have := (List.getElem?_eq_some_iff.1 hxq).1; omega)
                rw [e] at had
                cases had
                rw [ad_add]
                exact (hq2 jq xq hxq).2)) (fun uq hu => (by
                obtain ⟨xq, _, rfl⟩ := List.mem_map.1 hu
                rfl)) (by unfold maxLen; omega) (by omega) HN2.out.b.size ?_
              clear hq1 hq2
              intro ra' cap w3 hown hgr hat
              have HX3 : Hid (XS wp w3 mb hb ab rv2 (.slice ra' (R1.length + L.length) cap) p (S1) (R1 ++ L) (n + 1)) := by
                refine ⟨?_, by simpa using hown, fun kq hkq e => ?_, HMK.out⟩
                · have := HN2.out.grown HRow.out (Nat.le_refl _) hgr HDis.out
                  exact this
                · rcases hat kq e with h1 | h1
                  · exact HDis.out kq hkq h1
                  · obtain ⟨cs, q⟩ := HN2.out.m.q.blk hkq
                    have := heap_lt q
                    omega
              clear hown hgr hat HQ HRow HDis HN2 HMK hrc
              go_wp2_with fail
              refine ⟨⟨R1 ++ L, S1, n + 1, rd + 1, true, ra', cap, rv2, by simp, rfl, by go_num, by go_num, by (first | omega | (simp; omega)), by simp [hSe1], ?_⟩, by simp [intOf]; omega⟩
              rw [List.length_append]
              exact HX3
          · have zw : ((n : Int) == wv) = false := by simpa using hwn
            cases hd : R.drop n with
            | nil =>
              have HCs : Hid _ := scan_any _ HX.out.m.m (by rw [hd]; simp) (HTp.out.below HX.out.m.b)
              rw [hd] at HCs
              have HnR : Hid (n = R.length) := by show _ = _; have := congrArg List.length hd; rw [List.length_drop] at this; have := HX.out.k.mi.le; simp at *; omega
              have g1 : decide ((n : Int) < (R.length : Int)) = false := by have := HnR.out; simp; omega
              have g2 : ¬ ((n : Int) < (R.length : Int)) := by have := HnR.out; omega
              have HCa : Hid _ := apart_any HX.out.m.m.c (apt_of HX.out.k) (HTp.out.below HX.out.m.b)
              go_wp2_with fail
              refine Calls.mono HCs.out ?_
              rintro e w' ⟨rfl, hw'⟩
              rw [hw']
              clear hw' HCs
              go_wp2_with fail
              refine Calls.mono HCa.out ?_
              rintro e w5 ⟨rfl, b5⟩
              have HX5 : Hid (XS wp w5 mb hb ab rv (.slice r R.length c) p S R n) := ⟨HX.out.m.below b5, own_same HX.out.o (fun k hk => b5.block k (HX.out.o.lt k hk).2), HX.out.d, HX.out.k⟩
              clear b5 HCa HX
              have HX := HX5
              clear HX5
              have hMKs := HX.out.k.shade more
              generalize hL : layL (colH p R n) (namL more) = L at hMKs
              have hLl : L.length ≤ more.length := by rw [← hL]; exact Nat.le_trans (layL_len _ _) (by have := nam_len more more.length; rwa [List.take_length] at this)
              have HC : Hid _ := shadeM_any more mra mca _ HX.out.m.m (HMr.out.below HX.out.m.b) (by omega) (by rw [List.length_drop]; have := HX.out.k.mi.len; omega) (HTp.out.below HX.out.m.b)
              go_wp2_with fail
              refine Calls.mono HC.out ?_
              rintro e w2 ⟨r2, c2, rv2, rfl, o2, s2, _⟩
              rw [hL] at o2 s2 ⊢
              have N2 := HX.out.m.step s2
              have hRn := HX.out.k.mi.le
              rw [hMKs.1, ← List.drop_append_of_le_length hRn] at N2
              have HN2 : Hid (MN wp w2 mb hb ab rv2 ((R ++ L).drop n) (colH p (R ++ L) n)) := N2
              obtain ⟨O2, D2⟩ := s2.own HX.out.m.m HX.out.o HX.out.d
              have HRow : Hid (w2.ownsRow wp.heap.size 3 1 (.slice r R.length c) R.length (iL R)) := O2
              have HDis : Hid (∀ k, rv2.ownBlock = some k → (Value.slice r R.length c).ownBlock ≠ some k) := D2
              have HQ : Hid (w2.ownsRow _ 3 1 (.slice r2 L.length c2) L.length (iL L)) := o2
              have HMK : Hid (MK p (S ++ more) (R ++ L) n) := hMKs.2
              have hRL : R.length + L.length ≤ 16 := by have := hMKs.2.mi.len; rw [List.length_append] at this; omega
              clear o2 s2 N2 O2 D2 HC hMKs hL hLl
              go_wp2_with (at_builtin; refine stop_of ?_)
              unfold Hid
              obtain ⟨bq, oq, hq1, hq2⟩ := own_rx HQ.out rfl
              refine wpList_append_all _ rfl _ _ 26 rfl wp.heap.size 3 i0 (.int .i64 0) 1 8 Tryd.underlying26 hi0 hz0 hz1 hz2 rfl (by decide) (.slice r R.length c) R.length (iL R) rfl HRow.out r2 L.length c2 (iL L) rfl (by simp) (fun hn => (by rcases hq1 with h | h; exact h; rw [h] at hn; cases hn)) (fun ad had jq uq hu => (by
                obtain ⟨xq, hxq, rfl⟩ := iL_at hu
                have e := hq1.resolve_left (by have := (List.getElem?_eq_some_iff.1 hxq).1; omega)
                rw [e] at had
                cases had
                rw [ad_add]
                exact (hq2 jq xq hxq).2)) (fun uq hu => (by
                obtain ⟨xq, _, rfl⟩ := List.mem_map.1 hu
                rfl)) (by unfold maxLen; omega) (by omega) HN2.out.b.size ?_
              clear hq1 hq2
              intro ra' cap w3 hown hgr hat
              have HX3 : Hid (XS wp w3 mb hb ab rv2 (.slice ra' (R.length + L.length) cap) p (S ++ more) (R ++ L) (n)) := by
                refine ⟨?_, by simpa using hown, fun kq hkq e => ?_, HMK.out⟩
                · have := HN2.out.grown HRow.out (Nat.le_refl _) hgr HDis.out
                  exact this
                · rcases hat kq e with h1 | h1
                  · exact HDis.out kq hkq h1
                  · obtain ⟨cs, q⟩ := HN2.out.m.q.blk hkq
                    have := heap_lt q
                    omega
              clear hown hgr hat HQ HRow HDis HN2 HMK HX
              go_wp2_with fail
              refine ⟨⟨R ++ L, S ++ more, n, rd + 1, true, ra', cap, rv2, by simp, rfl, rfl, by go_num, by (first | omega | (simp; omega)), by simp [hSe], ?_⟩, by simp [intOf]; omega⟩
              rw [List.length_append]
              exact HX3
            | cons q rest =>
              have hcR : R[n]? = some q := by have := congrArg (·[0]?) hd; simpa [List.getElem?_drop] using this
              have hnl : n < R.length := (List.getElem?_eq_some_iff.1 hcR).1
              have hMKs := HX.out.k.scan hcR
              have HCs : Hid (Calls Tryd.prog 13 #[.pointer (some ⟨mb, 0, none⟩)] wr fun e w' => ScO mb hb ab rv q rest (colH p R n) wr e w') := by
                have := scan_any _ HX.out.m.m (by rw [List.length_drop]; have := HX.out.k.mi.len; omega) (HTp.out.below HX.out.m.b)
                rw [hd] at this
                exact this
              generalize hL : layL (colH p R n) (scanL (colH p R n) q) = L at hMKs
              have g1 : decide ((n : Int) < (R.length : Int)) = true := by simpa using hnl
              have g2 : (n : Int) < (R.length : Int) := by omega
              go_wp2_with fail
              refine Calls.mono HCs.out ?_
              rintro e w2 ⟨r2, c2, rv2, rfl, o2, s2, _⟩
              rw [hL] at o2 s2 ⊢
              have N2 := HX.out.m.step s2
              have hdr : rest ++ L = (R ++ L).drop (n + 1) := by
                rw [List.drop_append_of_le_length (by omega)]
                congr 1
                have := congrArg List.tail hd
                simpa [List.tail_drop] using this.symm
              rw [hMKs.1, hdr] at N2
              obtain ⟨O2, D2⟩ := s2.own HX.out.m.m HX.out.o HX.out.d
              have HCa : Hid _ := apart_any N2.m.c (apt_of hMKs.2) (HTp.out.below N2.b)
              have HN2' : Hid (MN wp w2 mb hb ab rv2 ((R ++ L).drop (n + 1)) (colH p (R ++ L) (n + 1))) := N2
              have HRow' : Hid (w2.ownsRow wp.heap.size 3 1 (.slice r R.length c) R.length (iL R)) := O2
              have HDis : Hid (∀ k, rv2.ownBlock = some k → (Value.slice r R.length c).ownBlock ≠ some k) := D2
              have HQ' : Hid (w2.ownsRow _ 3 1 (.slice r2 L.length c2) L.length (iL L)) := o2
              have HMK : Hid (MK p S (R ++ L) (n + 1)) := hMKs.2
              have hRL : R.length + L.length ≤ 16 := by have := hMKs.2.mi.len; rw [List.length_append] at this; omega
              clear o2 s2 N2 O2 D2 HCs hMKs hL hdr HX
              go_wp2_with fail
              refine Calls.mono HCa.out ?_
              rintro e w5 ⟨rfl, b5⟩
              have HN2 : Hid (MN wp w5 mb hb ab rv2 ((R ++ L).drop (n + 1)) (colH p (R ++ L) (n + 1))) := HN2'.out.below b5
              have HRow : Hid (w5.ownsRow wp.heap.size 3 1 (.slice r R.length c) R.length (iL R)) := own_same HRow'.out (fun k hk => b5.block k (HRow'.out.lt k hk).2)
              have HQ : Hid (w5.ownsRow _ 3 1 (.slice r2 L.length c2) L.length (iL L)) := own_same HQ'.out (fun k hk => b5.block k (HQ'.out.lt k hk).2)
              obtain ⟨bw, ow, hw1, hw2⟩ := own_rx HRow.out rfl
              have hrr : r = some ⟨bw, ow, none⟩ := hw1.resolve_left (by omega)
              have hrc : w5.cell? ⟨bw, ow + n, none⟩ = some (.int .i64 q) := (hw2 n q hcR).2
              have qq : (q != q) = false := by simp
              subst hrr
              clear b5 HCa HN2' HRow' HQ' hw1 hw2
              go_wp2_with (at_builtin; refine stop_of ?_)
              unfold Hid
              obtain ⟨bq, oq, hq1, hq2⟩ := own_rx HQ.out rfl
              refine wpList_append_all _ rfl _ _ 26 rfl wp.heap.size 3 i0 (.int .i64 0) 1 8 Tryd.underlying26 hi0 hz0 hz1 hz2 rfl (by decide) (.slice (some ⟨bw, ow, none⟩) R.length c) R.length (iL R) rfl HRow.out r2 L.length c2 (iL L) rfl (by simp) (fun hn => (by rcases hq1 with h | h; exact h; rw [h] at hn; cases hn)) (fun ad had jq uq hu => (by
                obtain ⟨xq, hxq, rfl⟩ := iL_at hu
                have e := hq1.resolve_left (by have := (List.getElem?_eq_some_iff.1 hxq).1; omega)
                rw [e] at had
                cases had
                rw [ad_add]
                exact (hq2 jq xq hxq).2)) (fun uq hu => (by
                obtain ⟨xq, _, rfl⟩ := List.mem_map.1 hu
                rfl)) (by unfold maxLen; omega) (by omega) HN2.out.b.size ?_
              clear hq1 hq2
              intro ra' cap w3 hown hgr hat
              have HX3 : Hid (XS wp w3 mb hb ab rv2 (.slice ra' (R.length + L.length) cap) p (S) (R ++ L) (n + 1)) := by
                refine ⟨?_, by simpa using hown, fun kq hkq e => ?_, HMK.out⟩
                · have := HN2.out.grown HRow.out (Nat.le_refl _) hgr HDis.out
                  exact this
                · rcases hat kq e with h1 | h1
                  · exact HDis.out kq hkq h1
                  · obtain ⟨cs, q⟩ := HN2.out.m.q.blk hkq
                    have := heap_lt q
                    omega
              clear hown hgr hat HQ HRow HDis HN2 HMK hrc
              go_wp2_with fail
              refine ⟨⟨R ++ L, S, n + 1, rd + 1, false, ra', cap, rv2, by simp, rfl, by go_num, by go_num, by (first | omega | (simp; omega)), by simp [hSe], ?_⟩, by simp [intOf]; omega⟩
              rw [List.length_append]
              exact HX3
        · rw [if_pos rfl] at hSe hrd
          by_cases hwn : (n : Int) = wv
          · subst hwn
            cases hd : R.drop n with
            | nil =>
              have HCs : Hid _ := scan_any _ HX.out.m.m (by rw [hd]; simp) (HTp.out.below HX.out.m.b)
              rw [hd] at HCs
              have HnR : Hid (n = R.length) := by show _ = _; have := congrArg List.length hd; rw [List.length_drop] at this; have := HX.out.k.mi.le; simp at *; omega
              have g1 : decide ((n : Int) < (R.length : Int)) = false := by have := HnR.out; simp; omega
              have g2 : ¬ ((n : Int) < (R.length : Int)) := by have := HnR.out; omega
              have HCa : Hid _ := apart_any HX.out.m.m.c (apt_of HX.out.k) (HTp.out.below HX.out.m.b)
              go_wp2_with fail
              refine Calls.mono HCs.out ?_
              rintro e w' ⟨rfl, hw'⟩
              rw [hw']
              clear hw' HCs
              go_wp2_with fail
              refine Calls.mono HCa.out ?_
              rintro e w5 ⟨rfl, b5⟩
              have HX5 : Hid (XS wp w5 mb hb ab rv (.slice r R.length c) p S R n) := ⟨HX.out.m.below b5, own_same HX.out.o (fun k hk => b5.block k (HX.out.o.lt k hk).2), HX.out.d, HX.out.k⟩
              clear b5 HCa HX
              have HX := HX5
              clear HX5
              obtain ⟨iw, hiw, hv0, hv1, hv2⟩ := info_parts infoWd
              have HFin : Hid (XS wp w5 mb hb ab rv (.slice r R.length c) p (roots ++ more) R R.length) := by
                have := HX.out
                rw [hSe, HnR.out] at this
                exact this
              have hone : ∀ zs : List Int, ∀ u ∈ zs.map (Value.int .u64), u.oneCell' = true := fun zs u hu => by
                obtain ⟨x, _, rfl⟩ := List.mem_map.1 hu
                rfl
              have HOne : Hid (∀ zs : List Int, ∀ u ∈ zs.map (Value.int .u64), u.oneCell' = true) := hone
              clear hone HX
              go_wp2_with (at_builtin; refine stop_of ?_)
              unfold Hid
              obtain ⟨ba, oa, ha1, ha2⟩ := HRr.out.below HFin.out.m.b
              refine wpList_append_all _ rfl _ _ 25 rfl w5.heap.size 29 iw (.int .u64 0) 1 8 Tryd.underlying25 hiw hv0 hv1 hv2 rfl (by decide) (.slice none 0 0) 0 [] rfl ⟨rfl, .inl ⟨rfl, rfl⟩⟩ rra roots.length rca (roots.map (Value.int .u64)) rfl (by simp) (fun hn => (by rcases ha1 with h | h; exact h; rw [h] at hn; cases hn)) (fun ad had jq uq hu => (by
                rw [List.getElem?_map] at hu
                cases hxq : roots[jq]? with
                | none => rw [hxq] at hu; cases hu
                | some xq =>
                  rw [hxq] at hu
                  cases hu
                  have e := ha1.resolve_left (by have := (List.getElem?_eq_some_iff.1 hxq).1; omega)
                  rw [e] at had
                  cases had
                  rw [ad_add]
                  exact (ha2 jq xq hxq).2.1)) (HOne.out roots) (by unfold maxLen; omega) (by omega) (Nat.le_refl _) ?_
              clear ha1 ha2
              intro ra1 cap1 w6 hown6 hgr6 hat6
              have b56 : Below w5.heap.size w5 w6 := grown_low hgr6 (fun g hg => by cases hg) (Nat.le_refl _)
              have HB56 : Hid (Below w5.heap.size w5 w6) := b56
              rw [Nat.zero_add, List.nil_append] at hown6
              have HO6 : Hid (w6.ownsRow w5.heap.size 29 1 (.slice ra1 roots.length cap1) roots.length (roots.map (Value.int .u64))) := hown6
              rw [Nat.zero_add]
              clear hown6 hgr6 hat6 b56
              go_wp2_with (at_builtin; refine stop_of ?_)
              unfold Hid
              obtain ⟨ba, oa, ha1, ha2⟩ := (HMr.out.below HFin.out.m.b).below HB56.out
              refine wpList_append_all _ rfl _ _ 25 rfl w5.heap.size 29 iw (.int .u64 0) 1 8 Tryd.underlying25 hiw hv0 hv1 hv2 rfl (by decide) (.slice ra1 roots.length cap1) roots.length (roots.map (Value.int .u64)) rfl HO6.out mra more.length mca (more.map (Value.int .u64)) rfl (by simp) (fun hn => (by rcases ha1 with h | h; exact h; rw [h] at hn; cases hn)) (fun ad had jq uq hu => (by
                rw [List.getElem?_map] at hu
                cases hxq : more[jq]? with
                | none => rw [hxq] at hu; cases hu
                | some xq =>
                  rw [hxq] at hu
                  cases hu
                  have e := ha1.resolve_left (by have := (List.getElem?_eq_some_iff.1 hxq).1; omega)
                  rw [e] at had
                  cases had
                  rw [ad_add]
                  exact (ha2 jq xq hxq).2.1)) (HOne.out more) (by unfold maxLen; omega) (by omega) HB56.out.size ?_
              clear ha1 ha2
              intro ra2 cap2 w7 hown7 hgr7 hat7
              have b67 : Below w5.heap.size w6 w7 := grown_low hgr7 (fun g hg => (HO6.out.lt g hg).1) HB56.out.size
              have b57 : Below w5.heap.size w5 w7 := HB56.out.trans b67
              rw [← List.map_append, ← List.length_append] at hown7
              have hwr : WR w7 ra2 (roots ++ more) := fl_wr (w := w5) ⟨hown7, b57⟩ (fun x hx => (by
                rcases List.mem_append.1 hx with h | h
                · exact wr_rng2 HRr.out h
                · exact wr_rng2 HMr.out h))
              have N7 := HFin.out.m.below b57
              rw [List.drop_length] at N7
              have HBk : Hid (Calls Tryd.prog 15 #[.pointer (some ⟨hb, 0, none⟩), .pointer (some ⟨mb, 0, none⟩), .slice pra 16 pca, .slice ra2 (roots.length + more.length) cap2, .int .i64 R.length] w7 fun e w' => e = .returned (.bool true) ∧ Below w7.heap.size w7 w') := by
                have := black_any w7 N7.m HPl.out hpl HFin.out.k pra ra2 pca cap2 (HHr.out.below N7.b) hwr (by rw [List.length_append]; omega) (HTp.out.below N7.b)
                rw [List.length_append] at this
                exact this
              have HB7 : Hid (Below w.heap.size w w7) := HBw.out.trans (N7.b.mono HBw.out.size)
              clear hown7 hgr7 hat7 b67 b57 hwr N7 HO6
              go_wp2_with fail
              refine Calls.mono HBk.out ?_
              rintro e w8 ⟨rfl, b8⟩
              have HB8 : Hid (Below w.heap.size w w8) := HB7.out.trans (b8.mono HB7.out.size)
              clear b8 HBk
              go_wp2_with fail
              go_ret
              exact ⟨rfl, HB8.out⟩
            | cons q rest =>
              have hcR : R[n]? = some q := by have := congrArg (·[0]?) hd; simpa [List.getElem?_drop] using this
              have hnl : n < R.length := (List.getElem?_eq_some_iff.1 hcR).1
              have hMKs := HX.out.k.scan hcR
              have HCs : Hid (Calls Tryd.prog 13 #[.pointer (some ⟨mb, 0, none⟩)] wr fun e w' => ScO mb hb ab rv q rest (colH p R n) wr e w') := by
                have := scan_any _ HX.out.m.m (by rw [List.length_drop]; have := HX.out.k.mi.len; omega) (HTp.out.below HX.out.m.b)
                rw [hd] at this
                exact this
              generalize hL : layL (colH p R n) (scanL (colH p R n) q) = L at hMKs
              have g1 : decide ((n : Int) < (R.length : Int)) = true := by simpa using hnl
              have g2 : (n : Int) < (R.length : Int) := by omega
              go_wp2_with fail
              refine Calls.mono HCs.out ?_
              rintro e w2 ⟨r2, c2, rv2, rfl, o2, s2, _⟩
              rw [hL] at o2 s2 ⊢
              have N2 := HX.out.m.step s2
              have hdr : rest ++ L = (R ++ L).drop (n + 1) := by
                rw [List.drop_append_of_le_length (by omega)]
                congr 1
                have := congrArg List.tail hd
                simpa [List.tail_drop] using this.symm
              rw [hMKs.1, hdr] at N2
              obtain ⟨O2, D2⟩ := s2.own HX.out.m.m HX.out.o HX.out.d
              have HCa : Hid _ := apart_any N2.m.c (apt_of hMKs.2) (HTp.out.below N2.b)
              have HN2' : Hid (MN wp w2 mb hb ab rv2 ((R ++ L).drop (n + 1)) (colH p (R ++ L) (n + 1))) := N2
              have HRow' : Hid (w2.ownsRow wp.heap.size 3 1 (.slice r R.length c) R.length (iL R)) := O2
              have HDis : Hid (∀ k, rv2.ownBlock = some k → (Value.slice r R.length c).ownBlock ≠ some k) := D2
              have HQ' : Hid (w2.ownsRow _ 3 1 (.slice r2 L.length c2) L.length (iL L)) := o2
              have HMK : Hid (MK p S (R ++ L) (n + 1)) := hMKs.2
              have hRL : R.length + L.length ≤ 16 := by have := hMKs.2.mi.len; rw [List.length_append] at this; omega
              clear o2 s2 N2 O2 D2 HCs hMKs hL hdr HX
              go_wp2_with fail
              refine Calls.mono HCa.out ?_
              rintro e w5 ⟨rfl, b5⟩
              have HN2 : Hid (MN wp w5 mb hb ab rv2 ((R ++ L).drop (n + 1)) (colH p (R ++ L) (n + 1))) := HN2'.out.below b5
              have HRow : Hid (w5.ownsRow wp.heap.size 3 1 (.slice r R.length c) R.length (iL R)) := own_same HRow'.out (fun k hk => b5.block k (HRow'.out.lt k hk).2)
              have HQ : Hid (w5.ownsRow _ 3 1 (.slice r2 L.length c2) L.length (iL L)) := own_same HQ'.out (fun k hk => b5.block k (HQ'.out.lt k hk).2)
              obtain ⟨bw, ow, hw1, hw2⟩ := own_rx HRow.out rfl
              have hrr : r = some ⟨bw, ow, none⟩ := hw1.resolve_left (by omega)
              have hrc : w5.cell? ⟨bw, ow + n, none⟩ = some (.int .i64 q) := (hw2 n q hcR).2
              have qq : (q != q) = false := by simp
              subst hrr
              clear b5 HCa HN2' HRow' HQ' hw1 hw2
              go_wp2_with (at_builtin; refine stop_of ?_)
              unfold Hid
              obtain ⟨bq, oq, hq1, hq2⟩ := own_rx HQ.out rfl
              refine wpList_append_all _ rfl _ _ 26 rfl wp.heap.size 3 i0 (.int .i64 0) 1 8 Tryd.underlying26 hi0 hz0 hz1 hz2 rfl (by decide) (.slice (some ⟨bw, ow, none⟩) R.length c) R.length (iL R) rfl HRow.out r2 L.length c2 (iL L) rfl (by simp) (fun hn => (by rcases hq1 with h | h; exact h; rw [h] at hn; cases hn)) (fun ad had jq uq hu => (by
                obtain ⟨xq, hxq, rfl⟩ := iL_at hu
                have e := hq1.resolve_left (by have := (List.getElem?_eq_some_iff.1 hxq).1; omega)
                rw [e] at had
                cases had
                rw [ad_add]
                exact (hq2 jq xq hxq).2)) (fun uq hu => (by
                obtain ⟨xq, _, rfl⟩ := List.mem_map.1 hu
                rfl)) (by unfold maxLen; omega) (by omega) HN2.out.b.size ?_
              clear hq1 hq2
              intro ra' cap w3 hown hgr hat
              have HX3 : Hid (XS wp w3 mb hb ab rv2 (.slice ra' (R.length + L.length) cap) p (S) (R ++ L) (n + 1)) := by
                refine ⟨?_, by simpa using hown, fun kq hkq e => ?_, HMK.out⟩
                · have := HN2.out.grown HRow.out (Nat.le_refl _) hgr HDis.out
                  exact this
                · rcases hat kq e with h1 | h1
                  · exact HDis.out kq hkq h1
                  · obtain ⟨cs, q⟩ := HN2.out.m.q.blk hkq
                    have := heap_lt q
                    omega
              clear hown hgr hat HQ HRow HDis HN2 HMK hrc
              go_wp2_with fail
              refine ⟨⟨R ++ L, S, n + 1, rd + 1, true, ra', cap, rv2, by simp, rfl, by go_num, by go_num, by (first | omega | (simp; omega)), by simp [hSe], ?_⟩, by simp [intOf]; omega⟩
              rw [List.length_append]
              exact HX3
          · have zw : ((n : Int) == wv) = false := by simpa using hwn
            cases hd : R.drop n with
            | nil =>
              have HCs : Hid _ := scan_any _ HX.out.m.m (by rw [hd]; simp) (HTp.out.below HX.out.m.b)
              rw [hd] at HCs
              have HnR : Hid (n = R.length) := by show _ = _; have := congrArg List.length hd; rw [List.length_drop] at this; have := HX.out.k.mi.le; simp at *; omega
              have g1 : decide ((n : Int) < (R.length : Int)) = false := by have := HnR.out; simp; omega
              have g2 : ¬ ((n : Int) < (R.length : Int)) := by have := HnR.out; omega
              have HCa : Hid _ := apart_any HX.out.m.m.c (apt_of HX.out.k) (HTp.out.below HX.out.m.b)
              go_wp2_with fail
              refine Calls.mono HCs.out ?_
              rintro e w' ⟨rfl, hw'⟩
              rw [hw']
              clear hw' HCs
              go_wp2_with fail
              refine Calls.mono HCa.out ?_
              rintro e w5 ⟨rfl, b5⟩
              have HX5 : Hid (XS wp w5 mb hb ab rv (.slice r R.length c) p S R n) := ⟨HX.out.m.below b5, own_same HX.out.o (fun k hk => b5.block k (HX.out.o.lt k hk).2), HX.out.d, HX.out.k⟩
              clear b5 HCa HX
              have HX := HX5
              clear HX5
              obtain ⟨iw, hiw, hv0, hv1, hv2⟩ := info_parts infoWd
              have HFin : Hid (XS wp w5 mb hb ab rv (.slice r R.length c) p (roots ++ more) R R.length) := by
                have := HX.out
                rw [hSe, HnR.out] at this
                exact this
              have hone : ∀ zs : List Int, ∀ u ∈ zs.map (Value.int .u64), u.oneCell' = true := fun zs u hu => by
                obtain ⟨x, _, rfl⟩ := List.mem_map.1 hu
                rfl
              have HOne : Hid (∀ zs : List Int, ∀ u ∈ zs.map (Value.int .u64), u.oneCell' = true) := hone
              clear hone HX
              go_wp2_with (at_builtin; refine stop_of ?_)
              unfold Hid
              obtain ⟨ba, oa, ha1, ha2⟩ := HRr.out.below HFin.out.m.b
              refine wpList_append_all _ rfl _ _ 25 rfl w5.heap.size 29 iw (.int .u64 0) 1 8 Tryd.underlying25 hiw hv0 hv1 hv2 rfl (by decide) (.slice none 0 0) 0 [] rfl ⟨rfl, .inl ⟨rfl, rfl⟩⟩ rra roots.length rca (roots.map (Value.int .u64)) rfl (by simp) (fun hn => (by rcases ha1 with h | h; exact h; rw [h] at hn; cases hn)) (fun ad had jq uq hu => (by
                rw [List.getElem?_map] at hu
                cases hxq : roots[jq]? with
                | none => rw [hxq] at hu; cases hu
                | some xq =>
                  rw [hxq] at hu
                  cases hu
                  have e := ha1.resolve_left (by have := (List.getElem?_eq_some_iff.1 hxq).1; omega)
                  rw [e] at had
                  cases had
                  rw [ad_add]
                  exact (ha2 jq xq hxq).2.1)) (HOne.out roots) (by unfold maxLen; omega) (by omega) (Nat.le_refl _) ?_
              clear ha1 ha2
              intro ra1 cap1 w6 hown6 hgr6 hat6
              have b56 : Below w5.heap.size w5 w6 := grown_low hgr6 (fun g hg => by cases hg) (Nat.le_refl _)
              have HB56 : Hid (Below w5.heap.size w5 w6) := b56
              rw [Nat.zero_add, List.nil_append] at hown6
              have HO6 : Hid (w6.ownsRow w5.heap.size 29 1 (.slice ra1 roots.length cap1) roots.length (roots.map (Value.int .u64))) := hown6
              rw [Nat.zero_add]
              clear hown6 hgr6 hat6 b56
              go_wp2_with (at_builtin; refine stop_of ?_)
              unfold Hid
              obtain ⟨ba, oa, ha1, ha2⟩ := (HMr.out.below HFin.out.m.b).below HB56.out
              refine wpList_append_all _ rfl _ _ 25 rfl w5.heap.size 29 iw (.int .u64 0) 1 8 Tryd.underlying25 hiw hv0 hv1 hv2 rfl (by decide) (.slice ra1 roots.length cap1) roots.length (roots.map (Value.int .u64)) rfl HO6.out mra more.length mca (more.map (Value.int .u64)) rfl (by simp) (fun hn => (by rcases ha1 with h | h; exact h; rw [h] at hn; cases hn)) (fun ad had jq uq hu => (by
                rw [List.getElem?_map] at hu
                cases hxq : more[jq]? with
                | none => rw [hxq] at hu; cases hu
                | some xq =>
                  rw [hxq] at hu
                  cases hu
                  have e := ha1.resolve_left (by have := (List.getElem?_eq_some_iff.1 hxq).1; omega)
                  rw [e] at had
                  cases had
                  rw [ad_add]
                  exact (ha2 jq xq hxq).2.1)) (HOne.out more) (by unfold maxLen; omega) (by omega) HB56.out.size ?_
              clear ha1 ha2
              intro ra2 cap2 w7 hown7 hgr7 hat7
              have b67 : Below w5.heap.size w6 w7 := grown_low hgr7 (fun g hg => (HO6.out.lt g hg).1) HB56.out.size
              have b57 : Below w5.heap.size w5 w7 := HB56.out.trans b67
              rw [← List.map_append, ← List.length_append] at hown7
              have hwr : WR w7 ra2 (roots ++ more) := fl_wr (w := w5) ⟨hown7, b57⟩ (fun x hx => (by
                rcases List.mem_append.1 hx with h | h
                · exact wr_rng2 HRr.out h
                · exact wr_rng2 HMr.out h))
              have N7 := HFin.out.m.below b57
              rw [List.drop_length] at N7
              have HBk : Hid (Calls Tryd.prog 15 #[.pointer (some ⟨hb, 0, none⟩), .pointer (some ⟨mb, 0, none⟩), .slice pra 16 pca, .slice ra2 (roots.length + more.length) cap2, .int .i64 R.length] w7 fun e w' => e = .returned (.bool true) ∧ Below w7.heap.size w7 w') := by
                have := black_any w7 N7.m HPl.out hpl HFin.out.k pra ra2 pca cap2 (HHr.out.below N7.b) hwr (by rw [List.length_append]; omega) (HTp.out.below N7.b)
                rw [List.length_append] at this
                exact this
              have HB7 : Hid (Below w.heap.size w w7) := HBw.out.trans (N7.b.mono HBw.out.size)
              clear hown7 hgr7 hat7 b67 b57 hwr N7 HO6
              go_wp2_with fail
              refine Calls.mono HBk.out ?_
              rintro e w8 ⟨rfl, b8⟩
              have HB8 : Hid (Below w.heap.size w w8) := HB7.out.trans (b8.mono HB7.out.size)
              clear b8 HBk
              go_wp2_with fail
              go_ret
              exact ⟨rfl, HB8.out⟩
            | cons q rest =>
              have hcR : R[n]? = some q := by have := congrArg (·[0]?) hd; simpa [List.getElem?_drop] using this
              have hnl : n < R.length := (List.getElem?_eq_some_iff.1 hcR).1
              have hMKs := HX.out.k.scan hcR
              have HCs : Hid (Calls Tryd.prog 13 #[.pointer (some ⟨mb, 0, none⟩)] wr fun e w' => ScO mb hb ab rv q rest (colH p R n) wr e w') := by
                have := scan_any _ HX.out.m.m (by rw [List.length_drop]; have := HX.out.k.mi.len; omega) (HTp.out.below HX.out.m.b)
                rw [hd] at this
                exact this
              generalize hL : layL (colH p R n) (scanL (colH p R n) q) = L at hMKs
              have g1 : decide ((n : Int) < (R.length : Int)) = true := by simpa using hnl
              have g2 : (n : Int) < (R.length : Int) := by omega
              go_wp2_with fail
              refine Calls.mono HCs.out ?_
              rintro e w2 ⟨r2, c2, rv2, rfl, o2, s2, _⟩
              rw [hL] at o2 s2 ⊢
              have N2 := HX.out.m.step s2
              have hdr : rest ++ L = (R ++ L).drop (n + 1) := by
                rw [List.drop_append_of_le_length (by omega)]
                congr 1
                have := congrArg List.tail hd
                simpa [List.tail_drop] using this.symm
              rw [hMKs.1, hdr] at N2
              obtain ⟨O2, D2⟩ := s2.own HX.out.m.m HX.out.o HX.out.d
              have HCa : Hid _ := apart_any N2.m.c (apt_of hMKs.2) (HTp.out.below N2.b)
              have HN2' : Hid (MN wp w2 mb hb ab rv2 ((R ++ L).drop (n + 1)) (colH p (R ++ L) (n + 1))) := N2
              have HRow' : Hid (w2.ownsRow wp.heap.size 3 1 (.slice r R.length c) R.length (iL R)) := O2
              have HDis : Hid (∀ k, rv2.ownBlock = some k → (Value.slice r R.length c).ownBlock ≠ some k) := D2
              have HQ' : Hid (w2.ownsRow _ 3 1 (.slice r2 L.length c2) L.length (iL L)) := o2
              have HMK : Hid (MK p S (R ++ L) (n + 1)) := hMKs.2
              have hRL : R.length + L.length ≤ 16 := by have := hMKs.2.mi.len; rw [List.length_append] at this; omega
              clear o2 s2 N2 O2 D2 HCs hMKs hL hdr HX
              go_wp2_with fail
              refine Calls.mono HCa.out ?_
              rintro e w5 ⟨rfl, b5⟩
              have HN2 : Hid (MN wp w5 mb hb ab rv2 ((R ++ L).drop (n + 1)) (colH p (R ++ L) (n + 1))) := HN2'.out.below b5
              have HRow : Hid (w5.ownsRow wp.heap.size 3 1 (.slice r R.length c) R.length (iL R)) := own_same HRow'.out (fun k hk => b5.block k (HRow'.out.lt k hk).2)
              have HQ : Hid (w5.ownsRow _ 3 1 (.slice r2 L.length c2) L.length (iL L)) := own_same HQ'.out (fun k hk => b5.block k (HQ'.out.lt k hk).2)
              obtain ⟨bw, ow, hw1, hw2⟩ := own_rx HRow.out rfl
              have hrr : r = some ⟨bw, ow, none⟩ := hw1.resolve_left (by omega)
              have hrc : w5.cell? ⟨bw, ow + n, none⟩ = some (.int .i64 q) := (hw2 n q hcR).2
              have qq : (q != q) = false := by simp
              subst hrr
              clear b5 HCa HN2' HRow' HQ' hw1 hw2
              go_wp2_with (at_builtin; refine stop_of ?_)
              unfold Hid
              obtain ⟨bq, oq, hq1, hq2⟩ := own_rx HQ.out rfl
              refine wpList_append_all _ rfl _ _ 26 rfl wp.heap.size 3 i0 (.int .i64 0) 1 8 Tryd.underlying26 hi0 hz0 hz1 hz2 rfl (by decide) (.slice (some ⟨bw, ow, none⟩) R.length c) R.length (iL R) rfl HRow.out r2 L.length c2 (iL L) rfl (by simp) (fun hn => (by rcases hq1 with h | h; exact h; rw [h] at hn; cases hn)) (fun ad had jq uq hu => (by
                obtain ⟨xq, hxq, rfl⟩ := iL_at hu
                have e := hq1.resolve_left (by have := (List.getElem?_eq_some_iff.1 hxq).1; omega)
                rw [e] at had
                cases had
                rw [ad_add]
                exact (hq2 jq xq hxq).2)) (fun uq hu => (by
                obtain ⟨xq, _, rfl⟩ := List.mem_map.1 hu
                rfl)) (by unfold maxLen; omega) (by omega) HN2.out.b.size ?_
              clear hq1 hq2
              intro ra' cap w3 hown hgr hat
              have HX3 : Hid (XS wp w3 mb hb ab rv2 (.slice ra' (R.length + L.length) cap) p (S) (R ++ L) (n + 1)) := by
                refine ⟨?_, by simpa using hown, fun kq hkq e => ?_, HMK.out⟩
                · have := HN2.out.grown HRow.out (Nat.le_refl _) hgr HDis.out
                  exact this
                · rcases hat kq e with h1 | h1
                  · exact HDis.out kq hkq h1
                  · obtain ⟨cs, q⟩ := HN2.out.m.q.blk hkq
                    have := heap_lt q
                    omega
              clear hown hgr hat HQ HRow HDis HN2 HMK hrc
              go_wp2_with fail
              refine ⟨⟨R ++ L, S, n + 1, rd + 1, true, ra', cap, rv2, by simp, rfl, by go_num, by go_num, by (first | omega | (simp; omega)), by simp [hSe], ?_⟩, by simp [intOf]; omega⟩
              rw [List.length_append]
              exact HX3
end Go.Proofs.YtiglmffnhbegiaaDoor
