/- The iterator: its contract, for every loop body that keeps a token's block and what lay before. -/
import Derived.Test.YtfdpbmbafpieoaaDoorBeg
import Derived.Test.YtfdpbmbafpieoaaDoorScanMath
import Derived.RangeFuncNested
import Derived.RangeFuncBound
import Derived.RangeFuncCalls
import Derived.RangeFuncLeaves
import Derived.RangeFuncBox
import Derived.Shelf.Abstract
import Derived.Shelf.RegionOpen
import Derived.OwnWalkIn
import Derived.TacticsInMore
import Derived.LoopNIn
import Derived.LoopIn
namespace Go.Proofs.YtfdpbmbafpieoaaDoor
open Go.RowKit Go.Shelf

attribute [local go_sem] Oper.semAt_some

abbrev encs (x : Tok × Int) : Array Value := #[encT x.1, .int .i64 x.2]

/-- What a round keeps: what lay below n₀, every box of a string, every block of one token. -/
def Kp4 (n₀ : Nat) (A C : World) : Prop := Below n₀ A C ∧ (∀ (k : Nat) (cs : Array Value), A.heap[k]? = some (.cells cs 9 (0, 0)) → C.heap[k]? = some (.cells cs 9 (0, 0))) ∧
  ∀ (k : Nat) (cs : Array Value), A.heap[k]? = some (.cells cs 56 (0, 0)) → cs.size = 4 → C.heap[k]? = some (.cells cs 56 (0, 0))

theorem abides_below {β : Type} {J : β → World → Prop} {B : Nat} (hJ : AbidesFrom B J) {p : β} {W W' : World} (h : J p W) (hb : Below W.heap.size W W') : J p W' :=
  hJ p W W' none h ⟨hb.os, hb.tape, hb.output, hb.size, fun k hk _ => hb.block k hk⟩ (fun r e => by cases e)

theorem cells4_of {W : World} {b : Nat} {v0 v1 v2 v3 : Value} (h : W.heap[b]? = some (.cells #[v0, v1, v2, v3] 56 (0, 0))) : W.cell? ⟨b, 0, none⟩ = some v0 := by
  simp [World.cell?, h]

set_option maxRecDepth 100000 in
set_option maxHeartbeats 1000000 in
theorem steps1_in (n : Nat) (hn : 1 ≤ n) (l Bs n₀ : Nat) (s : ByteArray) (hs : s.size ≤ 281474976710656) (J Jx : List (Tok × Int) → World → Prop)
    (hY : ∀ pre x W, J pre W → pre.length < (items s.data.toList).length → YieldAt Fence.wide (n - 1) Tryd.prog l (encs x) W fun e W' =>
      (e = .returned (.bool true) ∧ J (pre ++ [x]) W' ∧ Kp4 n₀ W W') ∨ (e = .returned (.bool false) ∧ Jx (pre ++ [x]) W'))
    (W : World) (hJ : AbidesFrom W.heap.size J) (h1n : 1 < n₀) (hn₀ : n₀ ≤ W.heap.size) (hBs0 : W.heap[Bs]? = some (.cells #[.string s] 9 (0, 0))) (hE : EV W) (h0 : J [] W) :
    CallsIn Fence.wide n Tryd.prog 46 #[.func (.yield l) #[] #[], .pointer (some ⟨Bs, 0, none⟩)] W fun e W' => (∃ v, e = .returned v) ∧
      ((∃ ys, ys = items s.data.toList ∧ J ys W') ∨ (∃ pre, pre <+: items s.data.toList ∧ Jx pre W')) := by
  have hBs : W.cell? ⟨Bs, 0, none⟩ = some (.string s) := by simp [World.cell?, hBs0]
  have HBs0 : Hid _ := hBs0
  clear hBs0
  refine callsIn_of_wp Tryd.func46 rfl trivial ?_ rfl
  simp only [Tryd.ntmps46, List.size_toArray, List.length_cons, List.length_nil, Nat.reduceAdd, Nat.reduceSub, Array.replicate_succ, Array.replicate_zero, List.push_toArray, List.append_toArray, List.nil_append, List.cons_append]
  by_cases hbig : 65536 < s.size
  · have hit : Hid (items s.data.toList = [(tk 0, 2)]) := by
      show _ = _
      unfold items; rw [← size_len, if_pos hbig]
    obtain ⟨fn, tmps, assign, body, hy, hR⟩ := hY [] (tk 0, 2) W h0 (by rw [hit.out]; simp)
    simp only [encs, encT, tk] at hy
    gi_wp2
    refine hR.mono ?_
    rintro e W1 (⟨rfl, hJ1, hk1⟩ | ⟨rfl, hx1⟩)
    · gi_wp2
      refine bodyPost_ret (results_none rfl _ _ _) rfl ?_
      exact ⟨⟨_, rfl⟩, .inl ⟨_, hit.out.symm, hJ1⟩⟩
    · gi_wp2
      refine bodyPost_ret (results_none rfl _ _ _) rfl ?_
      exact ⟨⟨_, rfl⟩, .inr ⟨_, by rw [hit.out]; exact List.prefix_refl _, hx1⟩⟩
  · have hit : Hid (items s.data.toList = scan s.size (s.size + 1) s.data.toList) := by
      show _ = _
      unfold items; rw [← size_len, if_neg hbig]
    have hmax : Hid (s.size ≤ maxLen) := by show s.size ≤ maxLen; unfold maxLen; omega
    gi_wp2
    gi_loopw [3] (fun i wr => ∃ (k : Nat) (pre : List (Tok × Int)) (f : Nat), k ≤ s.size ∧ i = .int .i64 k ∧ Hid (items s.data.toList = pre ++ scan s.size (f + 1) (s.data.toList.drop k)) ∧ s.size ≤ k + f ∧ J pre wr ∧ Below n₀ W wr ∧ Hid (wr.heap[Bs]? = some (.cells #[.string s] 9 (0, 0))))
      (fun i wr => s.size - (intOf i).toNat)
    case atStart => exact ⟨0, [], s.size, Nat.zero_le _, rfl, by show _ = _; rw [hit.out]; simp, by omega, h0, Below.refl _ _, HBs0⟩
    case round =>
      obtain ⟨k, pre, f, hk, rfl, HI, hf, hJp, hbW, HBr⟩ := hrel
      have hBlt : Hid (Bs < wr.heap.size) := (Array.getElem?_eq_some_iff.1 HBr.out).1
      have hBs1 : wr.cell? ⟨Bs, 0, none⟩ = some (.string s) := by simp [World.cell?, HBr.out]
      have HE1 : Hid (EV wr) := hE.below hbW h1n
      have hsz1 : n₀ ≤ wr.heap.size := Nat.le_trans hn₀ hbW.size
      gi_wp2_with fail
      refine ⟨trivial, ?_⟩
      refine (callsIn_wide.2 (leaveOut_any s k _ hmax.out hk)).mono ?_
      rintro e w' ⟨⟨j, hj, hj', rfl, Hj⟩, rfl⟩
      have HJ : Hid _ := Hj
      clear Hj
      have hex : Hid ((s.extract j s.size).data.toList = leave false (s.data.toList.drop k)) := by
        show _ = _
        rw [HJ.out, Lib.extract_data, List.take_of_length_le (by rw [List.length_drop, ← size_len]; exact Nat.le_refl _)]
      gi_wp2_with fail
      refine ⟨trivial, ?_⟩
      refine (callsIn_wide.2 (begin_any (s.extract j s.size) _ ?_ HE1.out)).mono ?_
      · rw [size_len, hex.out]
        have := leave_le false (s.data.toList.drop k); have := List.length_drop (i := k) (l := s.data.toList); rw [size_len] at hs; omega
      rintro e W1 ⟨rfl, hb1⟩
      rw [hex.out, encT]
      have hpos : (s.size : Int) - ((leave false (s.data.toList.drop k)).length : Nat) = j := by
        rw [HJ.out, List.length_drop, ← size_len]; omega
      have hT : (at0 s.size (s.data.toList.drop k)) = put (begT (leave false (s.data.toList.drop k))) j := by unfold at0; rw [hpos]
      have HT : Hid (items s.data.toList = (pre ++ [(put (begT (leave false (s.data.toList.drop k))) j, begE (leave false (s.data.toList.drop k)))]) ++ (if last (s.data.toList.drop k) then [] else scan s.size f (nx0 (s.data.toList.drop k)))) := by
        show _ = _
        rw [HI.out, scan_ne, hT]; simp [er0]
      have HK : Hid (((begT (leave false (s.data.toList.drop k))).kind == 9) = (leave false (s.data.toList.drop k)).isEmpty) := begT_kind9 _
      have HL : Hid (last (s.data.toList.drop k) = (begE (leave false (s.data.toList.drop k)) != 0 || (leave false (s.data.toList.drop k)).isEmpty)) := rfl
      have hnx : Hid (last (s.data.toList.drop k) = false → nx0 (s.data.toList.drop k) = s.data.toList.drop (j + begS (leave false (s.data.toList.drop k))) ∧ 1 ≤ begS (leave false (s.data.toList.drop k))) := by
        intro h
        simp only [last, er0, Bool.or_eq_false_iff, bne_eq_false_iff_eq, List.isEmpty_eq_false_iff] at h
        exact ⟨by unfold nx0; rw [HJ.out, List.drop_drop], begS_pos _ h.2 h.1⟩
      have hzl : begS (leave false (s.data.toList.drop k)) + j ≤ s.size := by
        have := begS_le (leave false (s.data.toList.drop k)); rw [HJ.out, List.length_drop, ← size_len] at this; rw [HJ.out]; omega
      clear hT hpos hex
      generalize begT (leave false (s.data.toList.drop k)) = t at *
      generalize begE (leave false (s.data.toList.drop k)) = er at *
      generalize begS (leave false (s.data.toList.drop k)) = z at *
      obtain ⟨hc1, hf1⟩ := bcell hb1
      obtain ⟨fn, tmps, assign, body, hy, hR⟩ := hY pre (put t j, er) (W1.alloc (.cells #[.int .u8 t.kind, S t.text, .int .i64 t.n, .int .i64 j] 56)) (abides_below hJ hJp (hb1.alloc hb1.size _)) (by rw [HT.out]; simp)
      simp only [encs, encT, put] at hy
      gi_wp2_with fail
      refine hR.mono ?_
      rintro e W2 (⟨rfl, hJ2, hk2, hk2s, hk2'⟩ | ⟨rfl, hx2⟩)
      · have hb2 : W2.heap[W1.heap.size]? = some (.cells #[.int .u8 t.kind, S t.text, .int .i64 t.n, .int .i64 j] 56 (0, 0)) := hk2' _ _ (World.alloc_heap_new _ _) rfl
        have hc2 := cells4_of hb2
        have hbW2 : Below n₀ W W2 := (hbW.trans ((hb1.alloc hb1.size _).mono hsz1)).trans hk2
        have HB2 : Hid (W2.heap[Bs]? = some (.cells #[.string s] 9 (0, 0))) := hk2s _ _ (((hb1.alloc hb1.size _).block Bs hBlt.out).trans HBr.out)
        clear hy hR hb2
        cases he : (er != 0)
        · cases h9 : (t.kind == 9)
          · have hl : last (s.data.toList.drop k) = false := by rw [HL.out, he, ← HK.out, h9]; rfl
            obtain ⟨hn1, hz1⟩ := hnx.out hl
            have HN : Hid _ := hn1
            have HL' : Hid _ := hl
            have hf1 : 1 ≤ f := by omega
            clear hn1 hl
            gi_wp2
            go_roundw
            case rel =>
              refine ⟨j + z, _, f - 1, by omega, by go_num, ?_, by omega, hJ2, hbW2, HB2⟩
              show _ = _
              rw [HT.out, HL'.out, HN.out, show f - 1 + 1 = f from by omega]; simp
            case measure => simp [intOf]; omega
          · have hl : Hid (last (s.data.toList.drop k) = true) := by show _ = _; rw [HL.out, he, ← HK.out, h9]; rfl
            gi_wp2
            refine bodyPost_ret (results_none rfl _ _ _) rfl ?_
            refine ⟨⟨_, rfl⟩, .inl ⟨_, ?_, hJ2⟩⟩
            rw [HT.out, hl.out]; simp
        · have hl : Hid (last (s.data.toList.drop k) = true) := by show _ = _; rw [HL.out, he]; rfl
          gi_wp2
          refine bodyPost_ret (results_none rfl _ _ _) rfl ?_
          refine ⟨⟨_, rfl⟩, .inl ⟨_, ?_, hJ2⟩⟩
          rw [HT.out, hl.out]; simp
      · gi_wp2
        refine bodyPost_ret (results_none rfl _ _ _) rfl ?_
        exact ⟨⟨_, rfl⟩, .inr ⟨_, ⟨_, HT.out.symm⟩, hx2⟩⟩

/-- The iterator of a source, as a contract for every caller. -/
theorem steps1_stops (n : Nat) (hn : 1 ≤ n) (Bs n₀ : Nat) (s : ByteArray) (hs : s.size ≤ 281474976710656) (w : World) (h1n : 1 < n₀) (hn₀ : n₀ ≤ w.heap.size)
    (hBs : w.heap[Bs]? = some (.cells #[.string s] 9 (0, 0))) (hE : EV w) :
    SeqStopsK Fence.wide n Tryd.prog 46 #[.pointer (some ⟨Bs, 0, none⟩)] encs (Kp4 n₀) (fun ys => ys = items s.data.toList) (fun pre => pre <+: items s.data.toList) (items s.data.toList).length w :=
  fun l J Jx W hW hJ _ hY h0 =>
    steps1_in n hn l Bs n₀ s hs J Jx hY W hJ h1n (Nat.le_trans hn₀ hW.size) ((hW.block Bs (Array.getElem?_eq_some_iff.1 hBs).1).trans hBs) (hE.below hW (Nat.lt_of_lt_of_le h1n hn₀)) h0

set_option maxHeartbeats 1000000 in
theorem steps_in (n : Nat) (s : ByteArray) (w : World) :
    CallsIn Fence.wide n Tryd.prog 24 #[.string s] w fun e w' => e = .returned (.func (.func 46) #[] #[.pointer (some ⟨w.heap.size, 0, none⟩)]) ∧ w' = w.alloc (.cells #[.string s] 9) := by
  refine callsIn_of_wp Tryd.func24 rfl trivial ?_ rfl
  simp only [Tryd.ntmps24, List.size_toArray, List.length_cons, List.length_nil, Nat.reduceAdd, Nat.reduceSub, Array.replicate_succ, Array.replicate_zero, List.push_toArray, List.append_toArray, List.nil_append, List.cons_append]
  gi_wp2
  go_ret
  exact ⟨rfl, rfl⟩

end Go.Proofs.YtfdpbmbafpieoaaDoor
