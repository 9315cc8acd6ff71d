/- The document's Read. -/
import Derived.Test.YtlpdfifjdlfpdaaGreatDoorHDocList
import Derived.Test.YtlpdfifjdlfpdaaGreatDoorHRefTok
import Derived.Test.YtlpdfifjdlfpdaaGreatDoorHDocMath
namespace Go.Proofs.YtlpdfifjdlfpdaaGreatDoor
open Go.RowKit

theorem docD_all (rb tb T cap : Nat) (xs : List (Tok × Int)) : ∀ N, DocD rb tb T cap xs N := fun N => by
  induction N with
  | zero =>
    intro w i o c ts hA hN
    exact absurd (List.length_eq_zero_iff.1 (Nat.le_zero.1 hN)) hA.ended.ne
  | succ N ih =>
    intro w i o c ts hA hN
    obtain ⟨x, ts', hx, rfl, htl, hlen, h1, h9⟩ := hA.head
    have hN' : ts'.length ≤ N := by simpa using hN
    by_cases k1 : x.1.kind = 1
    · exact doc_open (docL_of ih) w i o c x ts' hA hx hN' k1
    by_cases k3 : x.1.kind = 3
    · exact doc_quote ih w i o c x ts' hA hx htl hN' k3
    by_cases k2 : x.1.kind = 2 ∨ x.1.kind = 4 ∨ x.1.kind = 9
    · exact doc_bad w i o c x ts' hA hx k2
    · exact doc_leaf w i o c x ts' hA hx hlen (by omega)

/-- How the document's Read stands at its loop. -/
def StandR (rb tb T cap : Nat) (xs : List (Tok × Int)) (res : Res) (wr : World) (f : Fo) : Prop :=
  (∃ i' c' ts', AtQ rb tb T cap xs wr i' 0 c' ts' ∧ f.len ≤ i' ∧ res = (rdf 3 ts' 0 c').behind f) ∨ ∃ e p, Rx wr rb e p ∧ res = .bad e p ∧ f.len ≤ T + 1

set_option maxRecDepth 100000 in
set_option maxHeartbeats 16000000 in
theorem docRead_any (s : ByteArray) (w : World) (hs : s.size ≤ 1048576) :
    Calls Tryz.prog 6 #[.string s] w fun e w' => Below w.heap.size w w' ∧ ∃ v, e = .returned (.tuple #[v, .int .i64 (readOf s.data.toList).2.1, .int .i64 (readOf s.data.toList).2.2]) ∧ Tree w' w.heap.size v (readOf s.data.toList).1 := by
  go_enter Tryz.func6, Tryz.ntmps6
  go_wp2_with fail
  refine (refTokens_any s w hs).mono ?_
  rintro e w1 ⟨hb1, v, rfl, ho⟩
  have HB1 : Hid (Below w.heap.size w w1) := hb1
  clear hb1
  by_cases he : lexErr (items s.data.toList) = 0
  · have hf : fine (items s.data.toList) := fine_of_err he
    have hR := readOf_fine hf
    have hgot : got (items s.data.toList) = items s.data.toList := by unfold got; rw [if_pos he]
    rw [hgot] at ho
    have hE := items_ended _ hf
    have hne : items s.data.toList ≠ [] := fun h => hE.ne (by rw [h]; rfl)
    have hki := items_kinds _ hf
    have hlen := (items_len s.data.toList).2
    obtain ⟨tb, cap, rfl, _, hrow⟩ := trow_of hne ho
    rw [he]
    clear ho hgot hf hne
    generalize items s.data.toList = xs at *
    clear he
    obtain ⟨res, hres⟩ : ∃ res, rdf 3 (xs.map Prod.fst) 0 0 = res := ⟨_, rfl⟩
    rw [hres] at hR
    have HR : Hid _ := hR
    have HRes : Hid (rdf 3 (xs.map Prod.fst) 0 0 = res) := hres
    have HRow : Hid (TRow w1 tb xs) := hrow
    have HEd : Hid (Ended (xs.map Prod.fst)) := hE
    have HKi : Hid (∀ x ∈ xs, 1 ≤ x.1.kind ∧ x.1.kind ≤ 9) := hki
    have htb : tb < w1.heap.size := hrow.1
    have hD := docD_all w1.heap.size tb xs.length cap xs xs.length
    have HD : Hid _ := hD
    have sw := HB1.out.size
    obtain ⟨T, hT⟩ : ∃ T, xs.length = T := ⟨_, rfl⟩
    have HT0 : Hid (xs.length = T) := hT
    rw [hT] at hlen HD ⊢
    clear hR hres hrow hE hki hD hT
    go_wp2
    go_loopw [9, 10] (fun v _ wr => ∃ (f : Fo), Hid (Tree wr (w1.heap.size + 1) v f) ∧ Hid (Below w1.heap.size w1 wr) ∧ Hid (StandR w1.heap.size tb T cap xs res wr f)) (fun _ _ wr => msr w1.heap.size T wr)
    case atStart =>
      refine ⟨.nil, Tree.nil _ _, (Below.refl _ w1).alloc (Nat.le_refl _) _, .inl ⟨0, 0, xs.map Prod.fst, ⟨⟨?_⟩, TRow.kept HRow.out (Below.heap_alloc _ _ _ htb) (by simp), rfl, HEd.out, by omega, by omega, by omega, HT0.out, by omega, HKi.out⟩, Nat.le_refl _, by rw [HRes.out]; cases res <;> rfl⟩⟩
      exact World.alloc_heap_new _ _
    case round =>
      obtain ⟨f, HT, HB, HS⟩ := hrel
      obtain ⟨ra, cv, rfl⟩ := HT.out.slice
      rcases HS.out with ⟨i', c', ts', hA', hfl, hres⟩ | ⟨e, p, hrx, hres, hfl⟩
      · obtain ⟨x2, ts2, hx2, hxe, htl3, hlen2, hk1, hk9⟩ := hA'.head
        subst hxe
        obtain ⟨k0, k1, k2, k3⟩ := hA'.row.2 i' x2 hx2
        have r0 := hA'.reader.c0
        have r1 := hA'.reader.c1
        have r4 := hA'.reader.c4
        have hrl := hA'.reader.lt
        have hi2 : (i' : Int) < (T : Int) := by omega
        have hc2 := hA'.hc
        have HA' : Hid (AtQ w1.heap.size tb T cap xs wr i' 0 c' (x2.1 :: ts2)) := hA'
        have HRs : Hid _ := hres
        clear hA' hx2 htl3 hres HS
        by_cases h9 : x2.1.kind = 9
        · have hR2 : readOf s.data.toList = (f, 0, 0) := by
            have : res = .ok f false ts2 c' := by rw [HRs.out, rdf_lst (by decide)]; unfold lst; rw [if_pos rfl, if_pos h9]; simp [Res.behind, Fo.app_nil]
            rw [HR.out, this]
          have HR2 : Hid _ := hR2
          rw [h9] at k0
          clear h9 hR2
          go_wp2_with fail
          go_quiet (fail)
          go_wp2_with fail
          refine bodyPost_ret (v := .tuple #[.slice ra f.len cv, .int .i64 0, .int .i64 0]) (by simp [results, Tryz.results6, go_sem]) rfl ⟨?_, .slice ra f.len cv, by rw [HR2.out], ?_⟩
          · exact HB1.out.trans ((HB.out.mono sw).trans ⟨rfl, rfl, rfl, Nat.le_refl _, fun _ _ => rfl⟩)
          · rw [HR2.out]
            exact Tree.mono (base := w1.heap.size + 1) (HT.out.kept (fun _ _ _ => rfl)) (by omega)
        have b9 : (x2.1.kind == 9) = false := beq_eq_false_iff_ne.2 h9
        have b9' : (x2.1.kind != 9) = true := by simp [bne, b9]
        have hM : rdf 3 (x2.1 :: ts2) 0 c' = more rdf 3 (x2.1 :: ts2) 0 c' := by rw [rdf_lst (by decide)]; unfold lst; rw [if_pos rfl, if_neg h9]
        have HM : Hid _ := hM
        clear h9 hM
        go_wp2_with fail
        go_quiet (fail)
        go_wp2_with fail
        cases hX : rdf 0 (x2.1 :: ts2) 0 c' with
        | bad e p =>
          have hR2 : res = .bad e p := by rw [HRs.out, HM.out]; unfold more; rw [hX]; rfl
          have HR2 : Hid (res = .bad e p) := hR2
          have HX3 : Hid (rdf 0 (x2.1 :: ts2) 0 c' = .bad e p) := hX
          clear hX hR2
          refine (HD.out _ i' 0 c' (x2.1 :: ts2) (HA'.out.drewN _) (by simp; omega)).mono ?_
          rw [HX3.out]
          rintro en w3 ⟨hb3, k, n, t, s0, d, kv, rfl, hr3, hT3, hs3⟩
          obtain ⟨ra3, cap3, rfl⟩ := hT3.slice
          have B3 : But w1.heap.size wr w3 := ((But.refl _ wr).drewN _).trans hb3.but
          have HB3 : Hid (But w1.heap.size wr w3) := B3
          have HT3 : Hid (Tree w3 wr.heap.size (.slice ra3 s0.len cap3) s0) := hT3
          have s3 := B3.size
          clear hb3 hT3 B3 r0 r1 r4 k0 k1 k2 k3
          have HRx : Hid (Rx w3 w1.heap.size e p) := hr3
          clear hr3
          go_wp2_with (at_builtin; refine stop_of ?_)
          unfold Hid
          obtain ⟨cs, bs, ho1, hrr1, hnd⟩ := HT.out.ex
          have hkk : ∀ g, w1.heap.size + 1 ≤ g → g < wr.heap.size → w3.heap[g]? = wr.heap[g]? := fun g h1 h2 => HB3.out.block g h2 (by omega)
          have ho := own_same ho1 (fun g hg => hkk g (ho1.lt g hg).1 (ho1.lt g hg).2)
          have hrr := hrr1.kept (fun g hg => hkk g (hrr1.lt g hg).1 (hrr1.lt g hg).2)
          have hold : ∀ y ∈ own1 (.slice ra f.len cv) ++ bs, y < wr.heap.size := by
            intro y hy
            rcases List.mem_append.1 hy with h | h
            · exact (ho1.lt y (mem_own1.1 h)).2
            · exact (hrr1.lt y h).2
          obtain ⟨ncs, nbs, nho, nhr, nnd⟩ := HT3.out.ex
          refine wpList_append_tree _ rfl _ _ rfl (w1.heap.size + 1) wr.heap.size f (.cons k n t s0 d .nil) ra cv rfl cs bs ⟨(ho.alloc _).alloc _, (hrr.alloc _).alloc _, hnd⟩ hold (some ⟨_, 0, none⟩) 1 rfl [.int .u8 k, .int .i64 n, S t, .slice ra3 s0.len cap3, .bool d] _ (((Row.single nho nhr).alloc _).alloc _) nnd (fun ad h => by cases h; exact cell_five_at _ _ (by simp) _ _ _ _ _ _) (fun _ h => by cases h) (by omega) (by simp [Fo.len]; omega) (by simp; omega) ?_
          intro ra6 cap6 w6 hT6 hk6 hs6 ho6 ht6 hu6
          have vb : ∀ g, (Value.slice ra f.len cv).ownBlock = some g → w1.heap.size + 1 ≤ g := fun g hg => (ho.lt g hg).1
          have HT6 : Hid (Tree w6 (w1.heap.size + 1) (.slice ra6 (f.len + Fo.len (.cons k n t s0 d .nil)) cap6) (f.app (.cons k n t s0 d .nil))) := hT6
          have HK6 : Hid (∀ y, y < w3.heap.size → (Value.slice ra f.len cv).ownBlock ≠ some y → w6.heap[y]? = w3.heap[y]?) := fun y hy hv => (hk6 y (by simp; omega) hv).trans ((Below.heap_alloc _ _ _ (by simp; omega)).trans (Below.heap_alloc _ _ _ hy))
          have HS6 : Hid (w3.heap.size ≤ w6.heap.size) := by have h1 := hs6; simp at h1; show _ ≤ _; omega
          have HB6 : Hid (Below w1.heap.size w1 w6) := HB.out.trans ⟨ho6.trans HB3.out.os, ht6.trans HB3.out.tape, hu6.trans HB3.out.output, Nat.le_trans s3 HS6.out, fun y hy => (HK6.out y (by omega) (fun e => by have := vb y e; omega)).trans (HB3.out.block y (by omega) (by omega))⟩
          have Ho3 : Hid (w3.ownsRow (w1.heap.size + 1) 58 5 (.slice ra f.len cv) f.len cs) := ho
          clear hT6 hk6 hs6 ho6 ht6 hu6 vb ho hrr ho1 hrr1 hnd hold hkk nho nhr nnd
          have HRx6 : Hid (Rx w6 w1.heap.size e p) := by
            obtain ⟨gx, slx, ix, ox, cx, hre⟩ := HRx.out
            exact (re_far hre Ho3.out (Nat.lt_succ_self _) HK6.out).rx
          go_wp2_with fail
          go_roundw
          case rel => exact ⟨f.app (.cons k n t s0 d .nil), HT6, HB6, .inr ⟨e, p, HRx6.out, HR2.out, by rw [Fo.len_app]; simp [Fo.len]; omega⟩⟩
          case measure => rw [msr_n HA'.out.reader, msr_e HRx6.out]; omega
        | ok f1 d1 r c1 =>
          have hg := rdf_good hX
          obtain ⟨qq, eqq, hqpos, hone, _⟩ := hg.suf
          obtain ⟨k, n, t, s0, d, rfl, hsl⟩ := hone rfl
          have hEq : res = (rdf 3 r 0 c1).behind (f.app (.cons k n t s0 d .nil)) := by rw [HRs.out, HM.out]; unfold more; rw [hX]; simp only [Res.then]; rw [Res.behind_behind]
          have HEq : Hid _ := hEq
          have hrl3 : r.length + qq.length = ts2.length + 1 := by have := congrArg List.length eqq; simp at this; omega
          have HX3 : Hid (rdf 0 (x2.1 :: ts2) 0 c' = .ok (.cons k n t s0 d .nil) d1 r c1) := hX
          have HG : Hid (Good 0 (x2.1 :: ts2) (.cons k n t s0 d .nil) r c' c1) := hg
          have Heqq : Hid (x2.1 :: ts2 = qq ++ r) := eqq
          clear hX hg hEq hsl eqq
          refine (HD.out _ i' 0 c' (x2.1 :: ts2) (HA'.out.drewN _) (by simp; omega)).mono ?_
          rw [HX3.out]
          rintro en w3 ⟨hb3, k', n', t', s', d', kv, hfe, rfl, hr3, hT3⟩
          cases hfe
          obtain ⟨ra3, cap3, rfl⟩ := hT3.slice
          have B3 : But w1.heap.size wr w3 := ((But.refl _ wr).drewN _).trans hb3.but
          have HB3 : Hid (But w1.heap.size wr w3) := B3
          have HT3 : Hid (Tree w3 wr.heap.size (.slice ra3 s0.len cap3) s0) := hT3
          have s3 := B3.size
          clear hb3 hT3 B3 r0 r1 r4 k0 k1 k2 k3
          have HRn : Hid (Rn w3 w1.heap.size tb T cap (T - r.length) 0 c1) := hr3
          clear hr3
          go_wp2_with (at_builtin; refine stop_of ?_)
          unfold Hid
          obtain ⟨cs, bs, ho1, hrr1, hnd⟩ := HT.out.ex
          have hkk : ∀ g, w1.heap.size + 1 ≤ g → g < wr.heap.size → w3.heap[g]? = wr.heap[g]? := fun g h1 h2 => HB3.out.block g h2 (by omega)
          have ho := own_same ho1 (fun g hg => hkk g (ho1.lt g hg).1 (ho1.lt g hg).2)
          have hrr := hrr1.kept (fun g hg => hkk g (hrr1.lt g hg).1 (hrr1.lt g hg).2)
          have hold : ∀ y ∈ own1 (.slice ra f.len cv) ++ bs, y < wr.heap.size := by
            intro y hy
            rcases List.mem_append.1 hy with h | h
            · exact (ho1.lt y (mem_own1.1 h)).2
            · exact (hrr1.lt y h).2
          obtain ⟨ncs, nbs, nho, nhr, nnd⟩ := HT3.out.ex
          refine wpList_append_tree _ rfl _ _ rfl (w1.heap.size + 1) wr.heap.size f (.cons k n t s0 d .nil) ra cv rfl cs bs ⟨(ho.alloc _).alloc _, (hrr.alloc _).alloc _, hnd⟩ hold (some ⟨_, 0, none⟩) 1 rfl [.int .u8 k, .int .i64 n, S t, .slice ra3 s0.len cap3, .bool d] _ (((Row.single nho nhr).alloc _).alloc _) nnd (fun ad h => by cases h; exact cell_five_at _ _ (by simp) _ _ _ _ _ _) (fun _ h => by cases h) (by omega) (by simp [Fo.len]; omega) (by simp; omega) ?_
          intro ra6 cap6 w6 hT6 hk6 hs6 ho6 ht6 hu6
          have vb : ∀ g, (Value.slice ra f.len cv).ownBlock = some g → w1.heap.size + 1 ≤ g := fun g hg => (ho.lt g hg).1
          have HT6 : Hid (Tree w6 (w1.heap.size + 1) (.slice ra6 (f.len + Fo.len (.cons k n t s0 d .nil)) cap6) (f.app (.cons k n t s0 d .nil))) := hT6
          have HK6 : Hid (∀ y, y < w3.heap.size → (Value.slice ra f.len cv).ownBlock ≠ some y → w6.heap[y]? = w3.heap[y]?) := fun y hy hv => (hk6 y (by simp; omega) hv).trans ((Below.heap_alloc _ _ _ (by simp; omega)).trans (Below.heap_alloc _ _ _ hy))
          have HS6 : Hid (w3.heap.size ≤ w6.heap.size) := by have h1 := hs6; simp at h1; show _ ≤ _; omega
          have HB6 : Hid (Below w1.heap.size w1 w6) := HB.out.trans ⟨ho6.trans HB3.out.os, ht6.trans HB3.out.tape, hu6.trans HB3.out.output, Nat.le_trans s3 HS6.out, fun y hy => (HK6.out y (by omega) (fun e => by have := vb y e; omega)).trans (HB3.out.block y (by omega) (by omega))⟩
          have Ho3 : Hid (w3.ownsRow (w1.heap.size + 1) 58 5 (.slice ra f.len cv) f.len cs) := ho
          clear hT6 hk6 hs6 ho6 ht6 hu6 vb ho hrr ho1 hrr1 hnd hold hkk nho nhr nnd
          have HRn6 : Hid (Rn w6 w1.heap.size tb T cap (T - r.length) 0 c1) := HRn.out.kept (HK6.out _ HRn.out.lt (fun e => by have := (Ho3.out.lt _ e).1; omega))
          have HA6 : Hid (AtQ w1.heap.size tb T cap xs w6 (T - r.length) 0 c1 r) := HA'.out.moved HRn6.out ((HK6.out tb (by have := HB3.out.size; omega) (fun e => by have := (Ho3.out.lt _ e).1; omega)).trans (HB3.out.block _ (by omega) HA'.out.ne.symm)) (Nat.le_trans HB3.out.size HS6.out) (HA'.out.rest Heqq.out).1 (HG.out.ended (by decide) HA'.out.ended) HA'.out.ho (HG.out.much hc2)
          go_wp2_with fail
          go_roundw
          case rel => exact ⟨f.app (.cons k n t s0 d .nil), HT6, HB6, .inl ⟨T - r.length, c1, r, HA6.out, by rw [Fo.len_app]; simp [Fo.len]; omega, HEq.out⟩⟩
          case measure => rw [msr_n HA'.out.reader, msr_n HRn6.out]; omega
      · obtain ⟨g, sl, ix, ox, cx, hr⟩ := hrx
        have r4 := hr.c4
        have g0 := hr.g0
        have g1 := hr.g1
        have hR2 : readOf s.data.toList = (.nil, e, p) := by rw [HR.out, hres]
        have HR2 : Hid _ := hR2
        clear hr hres HS hR2
        go_wp2_with fail
        go_quiet (fail)
        go_wp2_with fail
        go_quiet (fail)
        go_wp2_with fail
        refine bodyPost_ret (v := .tuple #[.slice none 0 0, .int .i64 e, .int .i64 p]) (by simp [results, Tryz.results6, go_sem]) rfl ⟨?_, .slice none 0 0, by rw [HR2.out], ?_⟩
        · exact HB1.out.trans ((HB.out.mono sw).trans ⟨rfl, rfl, rfl, Nat.le_refl _, fun _ _ => rfl⟩)
        · rw [HR2.out]
          exact Tree.nil _ _
  · have hR : readOf s.data.toList = (.nil, lexErr (items s.data.toList), lexPos (items s.data.toList)) := by unfold readOf; rw [if_neg he]
    have HR : Hid _ := hR
    have he' : (lexErr (items s.data.toList) == 0) = false := beq_eq_false_iff_ne.2 he
    obtain ⟨le, hle⟩ : ∃ le, lexErr (items s.data.toList) = le := ⟨_, rfl⟩
    obtain ⟨lp, hlp⟩ : ∃ lp, lexPos (items s.data.toList) = lp := ⟨_, rfl⟩
    have HLe : Hid _ := hle
    have HLp : Hid _ := hlp
    rw [hle] at he' ⊢
    rw [hlp]
    clear hR he ho hle hlp
    have he2 : (le != 0) = true := by simp [bne, he']
    go_wp2
    refine bodyPost_ret (v := .tuple #[.slice none 0 0, .int .i64 le, .int .i64 lp]) (by simp [results, Tryz.results6, go_sem]) rfl ⟨HB1.out, .slice none 0 0, by rw [HR.out, HLe.out, HLp.out], by rw [HR.out]; exact Tree.nil _ _⟩
end Go.Proofs.YtlpdfifjdlfpdaaGreatDoor
