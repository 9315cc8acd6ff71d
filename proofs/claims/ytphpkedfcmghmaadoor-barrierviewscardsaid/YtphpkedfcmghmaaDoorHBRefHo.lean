/- The document's Holds. -/
import Derived.Test.YtphpkedfcmghmaaDoorGF
namespace Go.Proofs.YtphpkedfcmghmaaDoor
open Go.RowKit

/-- A view, a row of words and four rows of truths. -/
structure HT4 (w0 W : World) (p : Vp) (v : Vw) (vb : Value) (B : List Int) (g1 g2 g3 g4 : Nat) (nm : Nat → Bool) : Prop where
  e : EV w0 W p v (.slice none 0 0) [] (.slice none 0 0) [] vb B
  d1 : DR W 4 g1 v.h.length (fun k u => u = .bool (byM v k))
  d2 : DR W 4 g2 v.h.length (fun k u => u = .bool (wellM v k))
  d3 : DR W 4 g3 v.h.length (fun k u => u = .bool ((orderM v.h (rootsV v)).contains k))
  d4 : DR W 4 g4 v.h.length (fun k u => u = .bool (nm k))
  n : g1 ≠ g4 ∧ g2 ≠ g4 ∧ g3 ≠ g4
  l : w0.heap.size ≤ g4
theorem HT4.below {w0 W W' : World} {p : Vp} {v : Vw} {vb : Value} {B : List Int} {g1 g2 g3 g4 : Nat} {nm : Nat → Bool} (h : HT4 w0 W p v vb B g1 g2 g3 g4 nm) (hb : Below W.heap.size W W') : HT4 w0 W' p v vb B g1 g2 g3 g4 nm :=
  ⟨h.e.below hb, h.d1.kept (hb.block _ h.d1.lt), h.d2.kept (hb.block _ h.d2.lt), h.d3.kept (hb.block _ h.d3.lt), h.d4.kept (hb.block _ h.d4.lt), h.n, h.l⟩
theorem HT4.mark {w0 W : World} {p : Vp} {v : Vw} {vb : Value} {B : List Int} {g1 g2 g3 g4 : Nat} {nm : Nat → Bool} (h : HT4 w0 W p v vb B g1 g2 g3 g4 nm) (c : Nat) : HT4 w0 (W.setCell ⟨g4, c, none⟩ (.bool true)) p v vb B g1 g2 g3 g4 (fun k => nm k || k == c) := by
  have hk : ∀ k, k ≠ g4 → (W.setCell ⟨g4, c, none⟩ (.bool true)).heap[k]? = W.heap[k]? := fun k hk => Below.heap_setCell _ _ _ _ hk
  refine ⟨h.e.other h.d4 h.l, h.d1.kept (hk _ h.n.1), h.d2.kept (hk _ h.n.2.1), h.d3.kept (hk _ h.n.2.2), h.d4.set (fun k u hk hu => ?_) ?_, h.n, h.l⟩
  · have : (k == c) = false := by simpa using hk
    rw [hu, this, Bool.or_false]
  · simp
theorem nmB_more {l : List Int} {k : Nat} {x : Int} (hx : l[k]? = some x) (d : Nat) : nmB (l.take (k + 1)) d = (nmB (l.take k) d || refN x == some d) := by
  unfold nmB
  rw [List.take_add_one, hx]
  simp
theorem laid_fit {v : Vw} {w : World} {pcr pgr plr : Option Addr} (hw : wordsOk v = true) (hh : HR w pcr v.h) (hg : WR w pgr v.gl) (hl : LR w plr v.lanes) : ∀ u ∈ laidL v, fitsW v.h.length u = true ∧ Rng u := fun u hu => by
  unfold laidL at hu
  rcases List.mem_append.1 hu with hu | hu
  · have hm := List.mem_of_mem_take hu
    exact ⟨roots_fit hw (List.mem_append_left _ hm), wr_rng hg u hm⟩
  · rcases List.mem_append.1 hu with hu | hu
    · obtain ⟨x, hx, hux⟩ := List.mem_flatMap.1 hu
      split at hux
      · refine ⟨roots_fit hw (List.mem_append_right _ (List.mem_flatten.2 ⟨x.roots, List.mem_map.2 ⟨x, hx, rfl⟩, hux⟩)), ?_⟩
        obtain ⟨_, _, _, h2⟩ := hl
        obtain ⟨j, hj⟩ := List.getElem?_of_mem hx
        obtain ⟨_, ⟨_, _, _, hwr, _⟩, _⟩ := h2 j x hj
        exact wr_rng hwr u hux
      · cases hux
    · obtain ⟨x, hx, hux⟩ := List.mem_flatMap.1 hu
      split at hux
      · rename_i hb
        have hk : x.k ≠ 0 := fun e => by simp [blackB, usedB, e] at hb
        obtain ⟨h1, h2⟩ := okh_of hw (hr_ok hh) x hx hk
        rcases List.mem_cons.1 hux with rfl | hux
        · exact h1
        · rw [List.mem_singleton.1 hux]; exact h2
      · cases hux
theorem hoE_some {v : Vw} {c : Nat} (hh : hoM v = match lossM v with | none => (true, 0, 0) | some c => (false, (c : Int), 0)) (hl : lossM v = some c) : hoE v = .tuple #[.bool false, .int .i64 c, .int .i64 0] := by
  unfold hoE
  rw [hh, hl]
theorem hoE_none {v : Vw} (hh : hoM v = match lossM v with | none => (true, 0, 0) | some c => (false, (c : Int), 0)) (hl : lossM v = none) : hoE v = .tuple #[.bool true, .int .i64 0, .int .i64 0] := by
  unfold hoE
  rw [hh, hl]
set_option maxRecDepth 100000 in
set_option maxHeartbeats 32000000 in
theorem refHolds_any (p : Vp) (v : Vw) (w : World) (hV : VL w p v) (hsm : v.h.length + v.gl.length + (v.lanes.map Ln.roots).flatten.length ≤ 20000) (hgc : v.gl.length ≤ p.gc) :
    Calls Tryd.prog 29 #[.agg (p.cells v)] w fun e w' => e = .returned (hoE v) ∧ Below w.heap.size w w' := by
  obtain ⟨pcr, pcc, pyr, pyc, pgr, pgc, plr, plc⟩ := p
  have hgc' : v.gl.length ≤ pgc := hgc
  have HV : Hid (VL w ⟨pcr, pcc, pyr, pyc, pgr, pgc, plr, plc⟩ v) := hV
  have HSm : Hid (v.h.length + v.gl.length + (v.lanes.map Ln.roots).flatten.length ≤ 20000) := hsm
  have q1 : v.h.length ≤ 20000 := by omega
  have q3 : v.gl.length ≤ 20000 := by omega
  have q4 := hV.ll
  obtain ⟨i1, hi1, hy0, hy1, hy2⟩ := info_parts infoWd
  obtain ⟨i0, hi0, hz0, hz1, hz2⟩ := info_parts infoBool
  obtain ⟨W1, hW1⟩ : ∃ W1, w.alloc (.cells ((⟨pcr, pcc, pyr, pyc, pgr, pgc, plr, plc⟩ : Vp).cells v) 28) = W1 := ⟨_, rfl⟩
  have b1 : Below w.heap.size w W1 := by rw [← hW1]; exact (Below.refl _ w).alloc (Nat.le_refl _) _
  have v1 : VB W1 w.heap.size ⟨pcr, pcc, pyr, pyc, pgr, pgc, plr, plc⟩ v := by unfold VB; rw [← hW1]; exact World.alloc_heap_new w _
  have HE1 : Hid (EV w W1 ⟨pcr, pcc, pyr, pyc, pgr, pgc, plr, plc⟩ v (.slice none 0 0) [] (.slice none 0 0) [] (.slice none 0 0) []) := ⟨v1, World.ownsRow_nil _ _ _ _, World.ownsRow_nil _ _ _ _, World.ownsRow_nil _ _ _ _, b1⟩
  have HGd : Hid _ := refGuarded_any ⟨pcr, pcc, pyr, pyc, pgr, pgc, plr, plc⟩ v W1 (hV.kc (kc_below (Nat.le_refl _) b1)) hsm
  obtain ⟨d0, d1, d2, d3, d4, d5, d6⟩ := v1.at7
  have l1 : w.heap.size < W1.heap.size := (Array.getElem?_eq_some_iff.1 v1).1
  have hmx : Tryd.prog.follows .mixedOrders = true := by kernel_rfl
  unfold Vp.cells at hW1 HGd
  unfold Vp.cells
  dsimp only at hW1 d0 d3 d4 d6 HGd ⊢
  have HW1 : Hid _ := hW1
  clear hW1 hV b1 v1 hsm hgc
  go_enter Tryd.func29, Tryd.ntmps29
  go_upto_region 1 with fail
  rw [HW1.out]
  clear HW1
  go_wp2_with fail
  refine Calls.mono HGd.out ?_
  rintro e W2 ⟨hb2, hor⟩
  have HE2 : Hid (EV w W2 ⟨pcr, pcc, pyr, pyc, pgr, pgc, plr, plc⟩ v (.slice none 0 0) [] (.slice none 0 0) [] (.slice none 0 0) []) := HE1.out.below hb2
  clear d0 d1 d2 d3 d4 d5 d6 l1 HGd HE1 hb2
  rcases hor with ⟨hm, rfl⟩ | ⟨hm, g1, g2, rfl, hd1, hd2⟩
  · have HE : Hid (hoE v = .tuple #[.bool false, .int .i64 0, .int .i64 130]) := by show _ = _; unfold hoE hoM; rw [hm]; rfl
    clear hm
    go_wp2_with fail
    exact bodyPost_ret (results_tmp3 rfl _ _ _) rfl ⟨by rw [HE.out]; rfl, HE2.out.bel⟩
  · have HM : Hid _ := may_is.1 hm
    have HMm : Hid (mayV v = true) := hm
    have HD : Hid (DR W2 4 g1 v.h.length (fun k u => u = .bool (byM v k)) ∧ DR W2 4 g2 v.h.length (fun k u => u = .bool (wellM v k))) := ⟨hd1, hd2⟩
    clear hm hd1 hd2
    obtain ⟨d0, d1, d2, d3, d4, d5, d6⟩ := HE2.out.vb.at7
    dsimp only at d0 d3 d4 d6
    have l2 := HE2.out.lt
    go_wp2_with fail
    refine Calls.mono (refOn_any v.ph W2) ?_
    rintro e W3 ⟨rfl, hW3⟩
    rw [hW3]
    clear hW3
    cases hon : onB v.ph
    · have HE : Hid (hoE v = .tuple #[.bool true, .int .i64 0, .int .i64 0]) := by show _ = _; unfold hoE hoM; rw [HMm.out, hon]; rfl
      clear hon HMm d0 d1 d2 d3 d4 d5 d6
      go_wp2_with fail
      exact bodyPost_ret (results_tmp3 rfl _ _ _) rfl ⟨by rw [HE.out]; rfl, HE2.out.bel⟩
    · have HHo : Hid (hoM v = match lossM v with | none => (true, 0, 0) | some c => (false, (c : Int), 0)) := by show _ = _; unfold hoM; rw [HMm.out, hon]; rfl
      have HOk : Hid (wordsOk v = true) := may_words HMm.out
      have HLd : Hid (v.laid = (v.laid.toNat : Int) ∧ v.laid.toNat ≤ v.gl.length) := by
        have h' := HM.out.1.2.2
        show _ ∧ _
        omega
      clear hon HMm
      have HN : Hid _ := wr_news (HV.out.g.below HE2.out.bel)
      obtain ⟨n, hn⟩ : ∃ n : Nat, n = v.laid.toNat := ⟨_, rfl⟩
      have hcut : ∀ W, (Instr.slice 25 (.slice pgr v.gl.length pgc) none (some (.int .i64 v.laid)) none).run Tryd.prog W = .ok (.slice pgr n pgc) W := fun W => by
        rw [HLd.out.1, ← hn]
        exact cut_gl pgr _ pgc n (by have := HLd.out.2; omega)
      have hnl : n ≤ v.gl.length := by have := HLd.out.2; omega
      have HNn : Hid (n = v.laid.toNat) := hn
      clear hn
      go_wp2_with (at_builtin; refine stop_of ?_)
      unfold Hid
      refine wpList_append_all _ rfl _ _ 25 rfl w.heap.size 57 i1 _ 1 8 Tryd.underlying25 hi1 hy0 hy1 hy2 rfl (by decide) (.slice none 0 0) 0 [] rfl (World.ownsRow_nil _ _ _ _) pgr v.gl.length pgc (v.gl.map (Value.int .u64)) rfl (by simp) HN.out.1 HN.out.2 (words_one _) (by unfold maxLen; omega) (by omega) HE2.out.bel.size ?_
      intro ra3 ca3 W3 hown3 hgr3 hnw3
      rw [Nat.zero_add, List.nil_append] at hown3
      have b3 : Below W2.heap.size W2 W3 := grown_low hgr3 (fun g hg => by cases hg) (Nat.le_refl _)
      have HT3 : Hid (HT2 w W3 ⟨pcr, pcc, pyr, pyc, pgr, pgc, plr, plc⟩ v (.slice ra3 v.gl.length ca3) v.gl (.slice none 0 0) []) := ⟨HE2.out.growR hgr3 hown3, World.ownsRow_nil _ _ _ _, fun g _ => by intro h; cases h⟩
      have HD3 : Hid (DR W3 4 g1 v.h.length (fun k u => u = .bool (byM v k)) ∧ DR W3 4 g2 v.h.length (fun k u => u = .bool (wellM v k))) := ⟨HD.out.1.kept (b3.block _ HD.out.1.lt), HD.out.2.kept (b3.block _ HD.out.2.lt)⟩
      clear hown3 hgr3 hnw3 b3 HE2 HD d0 d1 d2 d3 d4 d5 d6 l2 HN
      rw [Nat.zero_add]
      obtain ⟨d0, d1, d2, d3, d4, d5, d6⟩ := HT3.out.e.vb.at7
      dsimp only at d0 d3 d4 d5 d6
      have l3 := HT3.out.e.lt
      have HN : Hid _ := take_news n (wr_news (HV.out.g.below HT3.out.e.bel)) hnl
      have hnt : (v.gl.take n).length = n := by rw [List.length_take]; omega
      go_wp2_with (at_builtin; refine stop_of ?_)
      unfold Hid
      refine wpList_append_all _ rfl _ _ 25 rfl w.heap.size 57 i1 _ 1 8 Tryd.underlying25 hi1 hy0 hy1 hy2 rfl (by decide) (.slice none 0 0) 0 [] rfl (World.ownsRow_nil _ _ _ _) pgr n pgc ((v.gl.take n).map (Value.int .u64)) rfl (by simp; omega) HN.out.1 HN.out.2 (words_one _) (by unfold maxLen; omega) (by omega) HT3.out.e.bel.size ?_
      intro rb4 cb4 W4 hown4 hgr4 hnw4
      rw [Nat.zero_add, List.nil_append] at hown4
      have b4 : Below W3.heap.size W3 W4 := grown_low hgr4 (fun g hg => by cases hg) (Nat.le_refl _)
      have HT4' : Hid (HT2 w W4 ⟨pcr, pcc, pyr, pyc, pgr, pgc, plr, plc⟩ v (.slice ra3 v.gl.length ca3) v.gl (.slice rb4 n cb4) (v.gl.take n)) := HT3.out.growB hgr4 (by rw [hnt]; exact hown4) (by rw [Nat.zero_add] at hnw4; exact hnw4)
      have HD4 : Hid (DR W4 4 g1 v.h.length (fun k u => u = .bool (byM v k)) ∧ DR W4 4 g2 v.h.length (fun k u => u = .bool (wellM v k))) := ⟨HD3.out.1.kept (b4.block _ HD3.out.1.lt), HD3.out.2.kept (b4.block _ HD3.out.2.lt)⟩
      clear hown4 hgr4 hnw4 b4 HT3 HD3 d0 d1 d2 d3 d4 d5 d6 l3 HN hcut
      rw [Nat.zero_add]
      go_wp2_with fail
      go_loopw [9, 10, 11] (fun va vb i wr => ∃ (k : Nat) (A B : List Int) (ra rb : Option Addr) (ca cb : Nat), i = .int .i64 k ∧ va = .slice ra A.length ca ∧ vb = .slice rb B.length cb ∧ k ≤ v.lanes.length ∧ Hid (A = v.gl ++ rootsK v.lanes k) ∧ Hid (B = v.gl.take n ++ lanesL (v.lanes.take k)) ∧ Hid (HT2 w wr ⟨pcr, pcc, pyr, pyc, pgr, pgc, plr, plc⟩ v (.slice ra A.length ca) A (.slice rb B.length cb) B) ∧ Hid (DR wr 4 g1 v.h.length (fun k u => u = .bool (byM v k)) ∧ DR wr 4 g2 v.h.length (fun k u => u = .bool (wellM v k)))) (fun _ _ i _ => v.lanes.length - (intOf i).toNat)
      case atStart => exact ⟨0, v.gl, v.gl.take n, ra3, rb4, ca3, cb4, rfl, rfl, by rw [hnt], Nat.zero_le _, by show _ = _; simp [rootsK], by show _ = _; simp [lanesL], by rw [hnt]; exact HT4', HD4⟩
      case round =>
        clear HT4' HD4
        obtain ⟨k, A, B, ra, rb, ca, cb, rfl, rfl, rfl, hk, HA, HB, HT, HD⟩ := hrel
        obtain ⟨d0, d1, d2, d3, d4, d5, d6⟩ := HT.out.e.vb.at7
        dsimp only at d0 d4 d6
        clear d1 d2 d3 d4 d5
        have l1 := HT.out.e.lt
        by_cases hkl : k < v.lanes.length
        · have k1 : (k : Int) < (v.lanes.length : Int) := by omega
          obtain ⟨x, hx⟩ : ∃ x, v.lanes[k]? = some x := ⟨_, List.getElem?_eq_getElem hkl⟩
          obtain ⟨b, o, hor, hcs⟩ := HV.out.l.below HT.out.e.bel
          have hlr : plr = some ⟨b, o, none⟩ := hor.resolve_left (by omega)
          subst hlr
          obtain ⟨g1', ⟨ry, rc, c0, hw, c3⟩, c4, c5⟩ := hcs k x hx
          have HA2 : Hid (A ++ x.roots = v.gl ++ rootsK v.lanes (k + 1)) := by show _ = _; rw [rootsK_more hx, HA.out, List.append_assoc]
          have HB2 : Hid (v.gl.take n ++ lanesL (v.lanes.take (k + 1)) = B ++ if x.sc then x.roots else []) := by show _ = _; rw [lanesL_more hx, HB.out, List.append_assoc]
          have hAl : A.length + x.roots.length ≤ 20000 := by
            have h1 := congrArg List.length HA2.out
            have h2 := rootsK_le v.lanes (k + 1)
            have h3 := HSm.out
            rw [List.length_append, List.length_append] at h1
            omega
          have hBl : (B ++ if x.sc then x.roots else []).length ≤ 20000 := by
            rw [← HB2.out, List.length_append, List.length_take]
            have h1 := lanesL_le (v.lanes.take (k + 1))
            have h2 := flat_le (l := v.lanes) (k + 1)
            have h3 := HSm.out
            omega
          have HN : Hid _ := wr_news hw
          have HW : Hid (WR wr ry x.roots) := hw
          have HX : Hid (v.lanes[k]? = some x) := hx
          clear hcs hor hx HA HB d0 hw
          go_upto_region 14 with fail
          go_wp2_with (at_builtin; refine stop_of ?_)
          unfold Hid
          refine wpList_append_all _ rfl _ _ 25 rfl w.heap.size 57 i1 _ 1 8 Tryd.underlying25 hi1 hy0 hy1 hy2 rfl (by decide) (.slice ra A.length ca) A.length (A.map (Value.int .u64)) rfl HT.out.e.rr ry x.roots.length rc (x.roots.map (Value.int .u64)) rfl (by simp) HN.out.1 HN.out.2 (words_one _) (by unfold maxLen; omega) (by omega) HT.out.e.bel.size ?_
          intro ra' ca' W8 hown8 hgr8 hnw8
          have hl2 : (A ++ x.roots).length = A.length + x.roots.length := by rw [List.length_append]
          have HT8 : Hid (HT2 w W8 ⟨pcr, pcc, pyr, pyc, pgr, pgc, some ⟨b, o, none⟩, plc⟩ v (.slice ra' (A ++ x.roots).length ca') (A ++ x.roots) (.slice rb B.length cb) B) := by
            rw [hl2]
            exact HT.out.growA hgr8 (by rw [List.length_append, List.map_append]; exact hown8) hnw8
          have HD8 : Hid (DR W8 4 g1 v.h.length (fun k u => u = .bool (byM v k)) ∧ DR W8 4 g2 v.h.length (fun k u => u = .bool (wellM v k))) := ⟨HD.out.1.grown HT.out.e.rr (by decide) hgr8, HD.out.2.grown HT.out.e.rr (by decide) hgr8⟩
          clear hown8 hgr8 hnw8 HD HT d6 l1 HN HW c0 c3 c4 c5 g1'
          rw [← hl2]
          generalize hA9 : A ++ x.roots = A9 at HA2 HT8 ⊢
          clear hA9 hl2 hAl
          obtain ⟨e0, e1, e2, e3, e4, e5, e6⟩ := HT8.out.e.vb.at7
          dsimp only at e6
          clear e0 e1 e2 e3 e4 e5
          have l8 := HT8.out.e.lt
          obtain ⟨b', o', hor', hcs'⟩ := HV.out.l.below HT8.out.e.bel
          have hbo : (some ⟨b, o, none⟩ : Option Addr) = some ⟨b', o', none⟩ := hor'.resolve_left (by omega)
          cases hbo
          obtain ⟨f1, ⟨rz, rd, f2, hw, f3⟩, f4, f5⟩ := hcs' k x HX.out
          have HN : Hid _ := wr_news hw
          clear hcs' hor' hw
          cases hsc : x.sc
          · rw [hsc] at f4 HB2
            have HB3 : Hid (B = v.gl.take n ++ lanesL (v.lanes.take (k + 1))) := by have h' := HB2.out; show _ = _; rw [h']; simp
            clear hsc HB2 hBl
            go_wp2_with fail
            go_roundw
            case rel => exact ⟨k + 1, A9, B, ra', rb, ca', cb, by go_num, rfl, rfl, by omega, HA2, HB3, HT8, HD8⟩
            case measure => simp [intOf]; omega
          · rw [hsc] at f4 HB2 hBl
            have HB3 : Hid (B ++ x.roots = v.gl.take n ++ lanesL (v.lanes.take (k + 1))) := by have h' := HB2.out; show _ = _; rw [h']; rfl
            have hBm : B.length + x.roots.length ≤ 20000 := by simpa using hBl
            clear hsc HB2 hBl
            go_upto_region 16 with fail
            go_wp2_with (at_builtin; refine stop_of ?_)
            unfold Hid
            refine wpList_append_all _ rfl _ _ 25 rfl w.heap.size 57 i1 _ 1 8 Tryd.underlying25 hi1 hy0 hy1 hy2 rfl (by decide) (.slice rb B.length cb) B.length (B.map (Value.int .u64)) rfl HT8.out.o rz x.roots.length rd (x.roots.map (Value.int .u64)) rfl (by simp) HN.out.1 HN.out.2 (words_one _) (by unfold maxLen; omega) (by omega) HT8.out.e.bel.size ?_
            intro rb' cb' W9 hown9 hgr9 hnw9
            have hl3 : (B ++ x.roots).length = B.length + x.roots.length := by rw [List.length_append]
            have HT9 : Hid (HT2 w W9 ⟨pcr, pcc, pyr, pyc, pgr, pgc, some ⟨b, o, none⟩, plc⟩ v (.slice ra' A9.length ca') A9 (.slice rb' (B ++ x.roots).length cb') (B ++ x.roots)) := by
              rw [hl3]
              exact HT8.out.growB hgr9 (by rw [List.length_append, List.map_append]; exact hown9) hnw9
            have HD9 : Hid (DR W9 4 g1 v.h.length (fun k u => u = .bool (byM v k)) ∧ DR W9 4 g2 v.h.length (fun k u => u = .bool (wellM v k))) := ⟨HD8.out.1.grown HT8.out.o (by decide) hgr9, HD8.out.2.grown HT8.out.o (by decide) hgr9⟩
            clear hown9 hgr9 hnw9 HD8 HT8 e6 l8 HN f1 f2 f3 f4 f5
            rw [← hl3]
            go_wp2_with fail
            go_roundw
            case rel => exact ⟨k + 1, A9, B ++ x.roots, ra', rb', ca', cb', by go_num, rfl, by rw [hl3], by omega, HA2, HB3, HT9, HD9⟩
            case measure => simp [intOf]; omega
        · have k1 : ¬ (k : Int) < (v.lanes.length : Int) := by omega
          have HA2 : Hid (A = rootsV v) := by
            have h' := HA.out
            unfold rootsK at h'
            rw [List.take_of_length_le (by omega)] at h'
            exact h'
          have HB2 : Hid (B = v.gl.take n ++ (lanesL v.lanes ++ cellsB (v.h.take 0))) := by
            have h' := HB.out
            rw [show v.lanes.take k = v.lanes from List.take_of_length_le (by omega)] at h'
            show _ = _
            rw [h']
            simp [cellsB]
          have hB0 : B.length ≤ 20000 := by
            have h' := HB.out
            rw [h', List.length_append, List.length_take]
            have h1 := lanesL_le (v.lanes.take k)
            have h2 := flat_le (l := v.lanes) k
            have h3 := HSm.out
            omega
          clear HA HB
          go_wp2_with fail
          clear d0 d6 l1
          go_loopw [10, 12] (fun vb i wr => ∃ (k : Nat) (B : List Int) (rb : Option Addr) (cb : Nat), i = .int .i64 k ∧ vb = .slice rb B.length cb ∧ k ≤ v.h.length ∧ B.length ≤ 20000 + 2 * k ∧ Hid (B = v.gl.take n ++ (lanesL v.lanes ++ cellsB (v.h.take k))) ∧ Hid (HT2 w wr ⟨pcr, pcc, pyr, pyc, pgr, pgc, plr, plc⟩ v (.slice ra A.length ca) A (.slice rb B.length cb) B) ∧ Hid (DR wr 4 g1 v.h.length (fun k u => u = .bool (byM v k)) ∧ DR wr 4 g2 v.h.length (fun k u => u = .bool (wellM v k)))) (fun _ i _ => v.h.length - (intOf i).toNat)
          case atStart => exact ⟨0, B, rb, cb, rfl, rfl, Nat.zero_le _, by omega, HB2, HT, HD⟩
          case round =>
            clear HB2 HT HD hB0
            obtain ⟨k, B, rb, cb, rfl, rfl, hk, hBl, HB, HT, HD⟩ := hrel
            obtain ⟨d0, d1, d2, d3, d4, d5, d6⟩ := HT.out.e.vb.at7
            dsimp only at d0
            clear d1 d2 d3 d4 d5 d6
            have l1 := HT.out.e.lt
            by_cases hkl : k < v.h.length
            · have k2 : (k : Int) < (v.h.length : Int) := by omega
              obtain ⟨x, hx⟩ : ∃ x, v.h[k]? = some x := ⟨_, List.getElem?_eq_getElem hkl⟩
              obtain ⟨b, o, hor, hcs⟩ := HV.out.h.below HT.out.e.bel
              have hcr : pcr = some ⟨b, o, none⟩ := hor.resolve_left (by omega)
              subst hcr
              obtain ⟨g5, ⟨y0, y1, y2, y3⟩, _⟩ := hcs k x hx
              have HB2 : Hid (v.gl.take n ++ (lanesL v.lanes ++ cellsB (v.h.take (k + 1))) = B ++ if blackB x then [x.a, x.b] else []) := by show _ = _; rw [cellsB_more hx, HB.out, List.append_assoc, List.append_assoc]
              have skip : blackB x = false → Hid (B = v.gl.take n ++ (lanesL v.lanes ++ cellsB (v.h.take (k + 1)))) := fun e => by
                have h' := HB2.out
                rw [e] at h'
                show _ = _
                rw [h']; simp
              have HSk : Hid _ := skip
              clear skip hcs hor hx HB
              by_cases hk0 : x.k = 0
              · have z1 : (x.k != 0) = false := by simp [hk0]
                have HB3 := HSk.out (by simp [blackB, usedB, hk0])
                clear hk0
                go_wp2_with fail
                go_roundw
                case rel => exact ⟨k + 1, B, rb, cb, by go_num, rfl, by omega, by omega, HB3, HT, HD⟩
                case measure => simp [intOf]; omega
              · have z1 : (x.k != 0) = true := by simp [hk0]
                by_cases hc2 : x.c = 2
                · have z2 : (x.c == 2) = true := by simp [hc2]
                  have HB3 : Hid (B ++ [x.a, x.b] = v.gl.take n ++ (lanesL v.lanes ++ cellsB (v.h.take (k + 1)))) := by
                    have hg : blackB x = true := by simp [blackB, usedB, hk0, hc2]
                    show _ = _
                    rw [HB2.out, hg]; rfl
                  have hsw := HT.out.e.bel.size
                  clear hk0 hc2 HB2 HSk
                  go_upto_region 21 with fail
                  go_region_law (refine step_append_lies _ rfl _ _ 25 rfl w.heap.size 57 i1 (.int .u64 0) 1 8 Tryd.underlying25 hi1 hy0 hy1 hy2 rfl (by decide) (.slice rb B.length cb) B.length (B.map (Value.int .u64)) rfl (World.ownsRow.alloc (HT.out.below (below_d wr)).o _) ⟨_, 0, none⟩ 2 2 [.int .u64 x.a, .int .u64 x.b] rfl rfl (cell_two_new _ _ _ _) (by intro u hu; simp at hu; rcases hu with rfl | rfl <;> rfl) (by omega) (by unfold maxLen; omega) (by omega) (by show w.heap.size ≤ (wr.alloc _).heap.size; rw [World.size_alloc]; omega) _ rfl ?_; intro gn cn w7 hown7 hgr7 hnw7 _)
                  all_goals
                    have T6 := (HT.out.below (below_d wr)).below ((Below.refl _ wr.drew).alloc (Nat.le_refl _) (.cells #[.int .u64 x.a, .int .u64 x.b] 57))
                    have bb6 := (below_d wr).trans (((Below.refl _ wr.drew).alloc (Nat.le_refl _) (.cells #[.int .u64 x.a, .int .u64 x.b] 57)).mono (Nat.le_refl _))
                    have hl2 : (B ++ [x.a, x.b]).length = B.length + 2 := by rw [List.length_append]; rfl
                    have HT7 : Hid (HT2 w w7 ⟨some ⟨b, o, none⟩, pcc, pyr, pyc, pgr, pgc, plr, plc⟩ v (.slice ra A.length ca) A (.slice (some ⟨gn, 0, none⟩) (B ++ [x.a, x.b]).length cn) (B ++ [x.a, x.b])) := by
                      rw [hl2]
                      refine T6.growB hgr7 (by rw [List.length_append, List.map_append]; exact hown7) (fun g hg => ?_)
                      have e : gn = g := by simpa [Value.ownBlock] using hg
                      subst e
                      rcases hnw7 with h | h
                      · exact .inl h
                      · exact .inr (Nat.le_of_eq h.symm)
                    have HD7 : Hid (DR w7 4 g1 v.h.length (fun k u => u = .bool (byM v k)) ∧ DR w7 4 g2 v.h.length (fun k u => u = .bool (wellM v k))) := ⟨(HD.out.1.kept (bb6.block _ HD.out.1.lt)).grown T6.o (by decide) hgr7, (HD.out.2.kept (bb6.block _ HD.out.2.lt)).grown T6.o (by decide) hgr7⟩
                    clear T6 bb6 hown7 hgr7 hnw7 HT HD d0 y0 y1 y2 y3 l1 g5
                    go_wp2_with fail
                    go_roundw
                    case rel => exact ⟨k + 1, B ++ [x.a, x.b], _, cn, by go_num, by rw [hl2], by omega, by omega, HB3, HT7, HD7⟩
                    case measure => simp [intOf]; omega
                · have z2 : (x.c == 2) = false := by simp [hc2]
                  have HB3 := HSk.out (by simp [blackB, usedB, hc2])
                  clear hk0 hc2
                  go_wp2_with fail
                  go_roundw
                  case rel => exact ⟨k + 1, B, rb, cb, by go_num, rfl, by omega, by omega, HB3, HT, HD⟩
                  case measure => simp [intOf]; omega
            · have k2 : ¬ (k : Int) < (v.h.length : Int) := by omega
              have HB2 : Hid (B = laidL v) := by
                have h' := HB.out
                rw [show v.h.take k = v.h from List.take_of_length_le (by omega), HNn.out] at h'
                exact h'
              have hBm : B.length ≤ 60000 := by omega
              clear HB
              have hAl : A.length ≤ 20000 := by
                have h' := HA2.out
                rw [h']
                unfold rootsV
                rw [List.length_append]
                have h3 := HSm.out
                omega
              have HRn : Hid (∀ x ∈ rootsV v, Rng x) := fun x hx => by
                unfold rootsV at hx
                rcases List.mem_append.1 hx with hx | hx
                · exact wr_rng HV.out.g x hx
                · obtain ⟨l, hl, hxl⟩ := List.mem_flatten.1 hx
                  obtain ⟨y, hy, rfl⟩ := List.mem_map.1 hl
                  obtain ⟨j, hj⟩ := List.getElem?_of_mem hy
                  obtain ⟨_, _, _, h2⟩ := HV.out.l
                  obtain ⟨_, ⟨_, _, _, hwr, _⟩, _⟩ := h2 j y hj
                  exact wr_rng hwr x hxl
              have HRc : Hid (Calls Tryd.prog 63 #[.slice pcr v.h.length pcc, .slice ra A.length ca] wr fun e w' => (∃ g, e = .returned (.slice (some ⟨g, 0, none⟩) v.h.length v.h.length) ∧ DR w' 4 g v.h.length (fun k u => u = .bool ((orderM v.h (rootsV v)).contains k))) ∧ Below wr.heap.size wr w') := by
                rw [← HA2.out]
                refine reach_any v.h A pcr ra pcc ca wr (by omega) (by omega) (HV.out.h.below HT.out.e.bel) (wr_own HT.out.e.rr (by rw [HA2.out]; exact HRn.out)) (okh_of HOk.out (hr_ok HV.out.h)) (fun x hx => ?_)
                rw [HA2.out] at hx
                exact ⟨roots_fit HOk.out hx, HRn.out x hx⟩
              clear HRn
              go_wp2_with fail
              refine Calls.mono HRc.out ?_
              rintro e W5 ⟨⟨g3, rfl, hd3⟩, hb5⟩
              have HT5 : Hid (HT2 w W5 ⟨pcr, pcc, pyr, pyc, pgr, pgc, plr, plc⟩ v (.slice ra A.length ca) A (.slice rb B.length cb) B) := HT.out.below hb5
              have HD5 : Hid ((DR W5 4 g1 v.h.length (fun k u => u = .bool (byM v k)) ∧ DR W5 4 g2 v.h.length (fun k u => u = .bool (wellM v k))) ∧ DR W5 4 g3 v.h.length (fun k u => u = .bool ((orderM v.h (rootsV v)).contains k))) := ⟨⟨HD.out.1.kept (hb5.block _ HD.out.1.lt), HD.out.2.kept (hb5.block _ HD.out.2.lt)⟩, hd3⟩
              clear hd3 hb5 HT HD HRc d0 l1
              obtain ⟨d0, _, _, _, _, _, _⟩ := HT5.out.e.vb.at7
              dsimp only at d0
              have l5 := HT5.out.e.lt
              go_wp2_with (at_make; refine stop_of ?_)
              unfold Hid
              refine wpList_make_full _ rfl _ _ 73 rfl W5.heap.size 4 i0 (.bool false) 1 Tryd.underlying73 hi0 hz0 hz1 .i64 .i64 _ _ v.h.length rfl rfl rfl rfl (by rw [hz2]; omega) (by unfold maxLen; omega) (Nat.le_refl _) ?_
              intro W6 hown6 hgr6
              have b6 : Below W5.heap.size W5 W6 := grown_low hgr6 (fun g hg => by cases hg) (Nat.le_refl _)
              have HT6 : Hid (HT4 w W6 ⟨pcr, pcc, pyr, pyc, pgr, pgc, plr, plc⟩ v (.slice rb B.length cb) B g1 g2 g3 W5.heap.size (nmB (B.take 0))) := by
                have t6 := HT5.out.below b6
                refine ⟨⟨t6.e.vb, World.ownsRow_nil _ _ _ _, World.ownsRow_nil _ _ _ _, t6.o, t6.e.bel⟩, HD5.out.1.1.kept (b6.block _ HD5.out.1.1.lt), HD5.out.1.2.kept (b6.block _ HD5.out.1.2.lt), HD5.out.2.kept (b6.block _ HD5.out.2.lt), (row_made hown6 (false_made _)).mono (fun j u _ hu => by rw [hu]; rfl), ?_, HT5.out.e.bel.size⟩
                have := HD5.out.1.1.lt
                have := HD5.out.1.2.lt
                have := HD5.out.2.lt
                exact ⟨by omega, by omega, by omega⟩
              clear hown6 hgr6 b6 HT5 HD5 d0 l5 hAl HA2
              generalize W5.heap.size = g4 at *
              have HFt : Hid (∀ u ∈ B, fitsW v.h.length u = true ∧ Rng u) := by
                show ∀ u ∈ B, _
                rw [HB2.out]
                exact laid_fit HOk.out HV.out.h HV.out.g HV.out.l
              go_wp2_with fail
              go_loopw [15, 16, 17] (fun i _ _ wr => ∃ k : Nat, i = .int .i64 k ∧ k ≤ B.length ∧ Hid (HT4 w wr ⟨pcr, pcc, pyr, pyc, pgr, pgc, plr, plc⟩ v (.slice rb B.length cb) B g1 g2 g3 g4 (nmB (B.take k)))) (fun i _ _ _ => B.length - (intOf i).toNat)
              case atStart => exact ⟨0, rfl, Nat.zero_le _, HT6⟩
              case round =>
                clear HT6
                obtain ⟨k, rfl, hk, HT⟩ := hrel
                by_cases hkl : k < B.length
                · have k4 : (k : Int) < (B.length : Int) := by omega
                  obtain ⟨x, hx⟩ : ∃ x, B[k]? = some x := ⟨_, List.getElem?_eq_getElem hkl⟩
                  obtain ⟨gl, hrb, e1, lg⟩ := word_at HT.out.e.rr hx
                  subst hrb
                  have hfx := HFt.out x (List.mem_of_getElem? hx)
                  have HCl : Hid (Calls Tryd.prog 72 #[.int .u64 x] wr fun e w' => e = .returned (.tuple #[.int .i64 (cellV x), .bool (refB x)]) ∧ w' = wr) := by
                    have := refCell_any x wr hfx.2
                    rw [cellN_is, isRef_is] at this
                    exact this
                  have HNm : Hid (∀ d, nmB (B.take (k + 1)) d = (nmB (B.take k) d || refN x == some d)) := fun d => nmB_more hx d
                  clear hx
                  cases hrf : refB x
                  · rw [hrf] at HCl
                    have HT2 : Hid (HT4 w wr ⟨pcr, pcc, pyr, pyc, pgr, pgc, plr, plc⟩ v (.slice (some ⟨gl, 0, none⟩) B.length cb) B g1 g2 g3 g4 (nmB (B.take (k + 1)))) := by
                      have e : nmB (B.take (k + 1)) = nmB (B.take k) := funext (fun d => by rw [HNm.out d, refs_none hrf]; simp)
                      rw [e]; exact HT
                    clear hrf
                    go_wp2_with fail
                    refine Calls.mono HCl.out ?_
                    rintro e w5 ⟨rfl, hw5⟩
                    rw [hw5]
                    clear HCl hw5
                    go_wp2_with fail
                    go_roundw
                    case rel => exact ⟨k + 1, by go_num, by omega, HT2⟩
                    case measure => simp [intOf]; omega
                  · rw [hrf] at HCl
                    obtain ⟨c, hc1, hc2, hc3⟩ := refs_some hfx.1 hrf
                    rw [hc3] at HCl
                    have k5 : (c : Int) < (v.h.length : Int) := by omega
                    obtain ⟨u, hu, _⟩ := HT.out.d4.cell hc2
                    have lm := HT.out.d4.lt
                    have fz := HT.out.d4.fz c
                    have HT2 : Hid (HT4 w (wr.setCell ⟨g4, c, none⟩ (.bool true)) ⟨pcr, pcc, pyr, pyc, pgr, pgc, plr, plc⟩ v (.slice (some ⟨gl, 0, none⟩) B.length cb) B g1 g2 g3 g4 (nmB (B.take (k + 1)))) := by
                      have e : nmB (B.take (k + 1)) = fun d => nmB (B.take k) d || d == c := funext (fun d => by
                        rw [HNm.out d, hc1]
                        congr 1
                        rw [Bool.eq_iff_iff]
                        simp
                        exact ⟨fun h => h.symm, fun h => h.symm⟩)
                      rw [e]; exact HT.out.mark c
                    clear hrf hc1 hc3
                    go_wp2_with fail
                    refine Calls.mono HCl.out ?_
                    rintro e w5 ⟨rfl, hw5⟩
                    rw [hw5]
                    clear HCl hw5
                    go_wp2_with fail
                    go_roundw
                    case rel => exact ⟨k + 1, by go_num, by omega, HT2⟩
                    case measure => simp [intOf]; omega
                · have k4 : ¬ (k : Int) < (B.length : Int) := by omega
                  have HT7 : Hid (HT4 w wr ⟨pcr, pcc, pyr, pyc, pgr, pgc, plr, plc⟩ v (.slice rb B.length cb) B g1 g2 g3 g4 (passM v)) := by
                    have e : nmB (B.take k) = passM v := funext (fun d => by
                      rw [List.take_of_length_le (by omega), HB2.out]
                      exact nm_pass (by have := HLd.out.1; omega) d)
                    rw [← e]; exact HT
                  clear HT HB2 HFt
                  go_wp2_with fail
                  go_loopw [8, 18] (fun _ i wr => ∃ j : Nat, i = .int .i64 j ∧ j ≤ v.h.length ∧ Hid (HT4 w wr ⟨pcr, pcc, pyr, pyc, pgr, pgc, plr, plc⟩ v (.slice rb B.length cb) B g1 g2 g3 g4 (passM v)) ∧ Hid (∀ (k : Nat) y, k < j → v.h[k]? = some y → lossB v (0 + k) y = false)) (fun _ i _ => v.h.length - (intOf i).toNat)
                  case atStart => exact ⟨0, rfl, Nat.zero_le _, HT7, fun _ _ h => absurd h (Nat.not_lt_zero _)⟩
                  case round =>
                    clear HT7
                    obtain ⟨j, rfl, hj, HT, HLo⟩ := hrel
                    obtain ⟨d0, d1, d2, d3, d4, d5, d6⟩ := HT.out.e.vb.at7
                    dsimp only at d0
                    clear d1 d2 d3 d4 d5 d6
                    have l1 := HT.out.e.lt
                    by_cases hjl : j < v.h.length
                    · have k6 : (j : Int) < (v.h.length : Int) := by omega
                      obtain ⟨x, hx⟩ : ∃ x, v.h[j]? = some x := ⟨_, List.getElem?_eq_getElem hjl⟩
                      obtain ⟨b, o, hor, hcs⟩ := HV.out.h.below HT.out.e.bel
                      have hcr : pcr = some ⟨b, o, none⟩ := hor.resolve_left (by omega)
                      subst hcr
                      obtain ⟨g5, ⟨y0, y1, y2, y3⟩, _⟩ := hcs j x hx
                      have HWh : Hid _ := refWhite_any x wr
                      unfold cV at HWh
                      have HX : Hid (v.h[j]? = some x) := hx
                      have HLs : Hid (∀ lv bv pv wv, (orderM v.h (rootsV v)).contains j = lv → byM v j = bv → passM v j = pv → wellM v j = wv → whiteB x = true → lossB v (0 + j) x = ((lv && !bv) || (pv && !wv))) := fun lv bv pv wv h1 h2 h3 h4 h5 => by
                        have hk : x.k ≠ 0 := fun e => by simp [whiteB, usedB, e] at h5
                        unfold lossB
                        rw [Nat.zero_add, h5, Bool.true_and, ← live_is hx hk, h1, h2, h3, h4]
                      have HNx : Hid (lossB v (0 + j) x = false → ∀ (k : Nat) y, k < j + 1 → v.h[k]? = some y → lossB v (0 + k) y = false) := fun hf k y hk hy => by
                        by_cases e : k = j
                        · subst e; rw [hx] at hy; cases hy; exact hf
                        · exact HLo.out k y (by omega) hy
                      have HYs : Hid (lossB v (0 + j) x = true → hoE v = .tuple #[.bool false, .int .i64 j, .int .i64 0]) := fun hf => hoE_some HHo.out (by
                        have := loss_at v.h 0 j x hx hf HLo.out
                        rw [Nat.zero_add] at this
                        exact this)
                      clear hcs hor hx HLo
                      go_wp2_with fail
                      refine Calls.mono HWh.out ?_
                      rintro e w6 ⟨rfl, hb6⟩
                      have HT6 : Hid (HT4 w w6 ⟨some ⟨b, o, none⟩, pcc, pyr, pyc, pgr, pgc, plr, plc⟩ v (.slice rb B.length cb) B g1 g2 g3 g4 (passM v)) := HT.out.below hb6
                      clear hb6 HT HWh y0 y1 y2 y3 d0 l1 g5
                      cases hwh : whiteB x
                      · have HN2 := HNx.out (by unfold lossB; rw [hwh]; rfl)
                        have HN3 : Hid (∀ (k : Nat) y, k < j + 1 → v.h[k]? = some y → lossB v (0 + k) y = false) := HN2
                        clear HN2 hwh HNx HYs HLs
                        go_wp2_with fail
                        go_roundw
                        case rel => exact ⟨j + 1, by go_num, by omega, HT6, HN3⟩
                        case measure => simp [intOf]; omega
                      · obtain ⟨u1, c1, e1⟩ := HT6.out.d1.cell hjl
                        obtain ⟨u2, c2, e2⟩ := HT6.out.d2.cell hjl
                        obtain ⟨u3, c3, e3⟩ := HT6.out.d3.cell hjl
                        obtain ⟨u4, c4, e4⟩ := HT6.out.d4.cell hjl
                        rw [e1] at c1
                        rw [e2] at c2
                        rw [e3] at c3
                        rw [e4] at c4
                        have HL5 : Hid _ := fun lv bv pv wv h1 h2 h3 h4 => HLs.out lv bv pv wv h1 h2 h3 h4 hwh
                        clear e1 e2 e3 e4 hwh HLs
                        generalize ha : byM v j = bv at c1
                        generalize hb : wellM v j = wv at c2
                        generalize hc : (orderM v.h (rootsV v)).contains j = lv at c3
                        generalize hd : passM v j = pv at c4
                        have HL6 : Hid (lossB v (0 + j) x = ((lv && !bv) || (pv && !wv))) := HL5.out lv bv pv wv hc ha hd hb
                        clear ha hb hc hd HL5
                        cases lv <;> cases bv <;> cases pv <;> cases wv <;> (
                          first
                          | (have HN2 := HNx.out HL6.out
                             have HN3 : Hid (∀ (k : Nat) y, k < j + 1 → v.h[k]? = some y → lossB v (0 + k) y = false) := HN2
                             clear HN2 HNx HYs HL6
                             go_wp2_with fail
                             go_roundw
                             case rel => exact ⟨j + 1, by go_num, by omega, HT6, HN3⟩
                             case measure => simp [intOf]; omega)
                          | (have HE := HYs.out HL6.out
                             have HE2 : Hid (hoE v = .tuple #[.bool false, .int .i64 j, .int .i64 0]) := HE
                             clear HE HNx HYs HL6
                             go_wp2_with fail
                             exact bodyPost_ret (results_tmp3 rfl _ _ _) rfl ⟨by rw [HE2.out]; rfl, HT6.out.e.bel⟩))
                    · have k6 : ¬ (j : Int) < (v.h.length : Int) := by omega
                      have HE : Hid (hoE v = .tuple #[.bool true, .int .i64 0, .int .i64 0]) := hoE_none HHo.out (loss_none v.h 0 (fun k y hy => HLo.out k y (by have := (List.getElem?_eq_some_iff.1 hy).1; omega) hy))
                      go_wp2_with fail
                      exact bodyPost_ret (results_tmp3 rfl _ _ _) rfl ⟨by rw [HE.out]; rfl, HT.out.e.bel⟩
end Go.Proofs.YtphpkedfcmghmaaDoor
