/- The iterator: its contract, for every loop body that keeps a token's block and what lay before.; The contract of Tokens: the tokens in a list of its own, or the first error and its place.; Tokens, as a plain contract.; Rows of tokens in memory: read token by token.; An append that tells where its answer lies, and that the elder value still reads its row. -/
import Derived.Test.YtlpdfifjdlfpdaaGreatDoorGB
import Derived.Test.YtlpdfifjdlfpdaaGreatDoorGC
import Derived.RangeFuncNested
import Derived.RangeFuncBound
import Derived.RangeFuncCalls
import Derived.RangeFuncLeaves
import Derived.RangeFuncBox
import Derived.Shelf.Abstract
import Derived.Shelf.RegionOpen
import Derived.OwnWalkIn
import Derived.TacticsInMore
import Derived.LoopNIn
import Derived.LoopIn
import Derived.Maps.AppendAt
import Derived.Laws.AppendOwn
import Derived.Laws.OwnMore
/- The iterator: its contract, for every loop body that keeps a token's block and what lay before. -/
namespace Go.Proofs.YtlpdfifjdlfpdaaGreatDoor
open Go.RowKit Go.Shelf

attribute [local go_sem] Oper.semAt_some

abbrev encs (x : Tok × Int) : Array Value := #[encT x.1, .int .i64 x.2]

/-- What a round keeps: what lay below n₀, every box of a string, every block of one token. -/
def Kp4 (n₀ : Nat) (A C : World) : Prop := Below n₀ A C ∧ (∀ (k : Nat) (cs : Array Value), A.heap[k]? = some (.cells cs 9 (0, 0)) → C.heap[k]? = some (.cells cs 9 (0, 0))) ∧
  ∀ (k : Nat) (cs : Array Value), A.heap[k]? = some (.cells cs 71 (0, 0)) → cs.size = 4 → C.heap[k]? = some (.cells cs 71 (0, 0))

theorem abides_below {β : Type} {J : β → World → Prop} {B : Nat} (hJ : AbidesFrom B J) {p : β} {W W' : World} (h : J p W) (hb : Below W.heap.size W W') : J p W' :=
  hJ p W W' none h ⟨hb.os, hb.tape, hb.output, hb.size, fun k hk _ => hb.block k hk⟩ (fun r e => by cases e)

theorem cells4_of {W : World} {b : Nat} {v0 v1 v2 v3 : Value} (h : W.heap[b]? = some (.cells #[v0, v1, v2, v3] 71 (0, 0))) : W.cell? ⟨b, 0, none⟩ = some v0 := by
  simp [World.cell?, h]

set_option maxRecDepth 100000 in
set_option maxHeartbeats 1000000 in
theorem steps1_in (n : Nat) (hn : 1 ≤ n) (l Bs n₀ : Nat) (s : ByteArray) (hs : s.size ≤ 281474976710656) (J Jx : List (Tok × Int) → World → Prop)
    (hY : ∀ pre x W, J pre W → pre.length < (items s.data.toList).length → YieldAt Fence.wide (n - 1) Tryz.prog l (encs x) W fun e W' =>
      (e = .returned (.bool true) ∧ J (pre ++ [x]) W' ∧ Kp4 n₀ W W') ∨ (e = .returned (.bool false) ∧ Jx (pre ++ [x]) W'))
    (W : World) (hJ : AbidesFrom W.heap.size J) (h1n : 4 < n₀) (hn₀ : n₀ ≤ W.heap.size) (hBs0 : W.heap[Bs]? = some (.cells #[.string s] 9 (0, 0))) (hE : EV W) (h0 : J [] W) :
    CallsIn Fence.wide n Tryz.prog 76 #[.func (.yield l) #[] #[], .pointer (some ⟨Bs, 0, none⟩)] W fun e W' => (∃ v, e = .returned v) ∧
      ((∃ ys, ys = items s.data.toList ∧ J ys W') ∨ (∃ pre, pre <+: items s.data.toList ∧ Jx pre W')) := by
  have hBs : W.cell? ⟨Bs, 0, none⟩ = some (.string s) := by simp [World.cell?, hBs0]
  have HBs0 : Hid _ := hBs0
  clear hBs0
  refine callsIn_of_wp Tryz.func76 rfl trivial ?_ rfl
  simp only [Tryz.ntmps76, List.size_toArray, List.length_cons, List.length_nil, Nat.reduceAdd, Nat.reduceSub, Array.replicate_succ, Array.replicate_zero, List.push_toArray, List.append_toArray, List.nil_append, List.cons_append]
  by_cases hbig : 65536 < s.size
  · have hit : Hid (items s.data.toList = [(tk 0, 2)]) := by
      show _ = _
      unfold items; rw [← size_len, if_pos hbig]
    obtain ⟨fn, tmps, assign, body, hy, hR⟩ := hY [] (tk 0, 2) W h0 (by rw [hit.out]; simp)
    simp only [encs, encT, tk] at hy
    gi_wp2
    refine hR.mono ?_
    rintro e W1 (⟨rfl, hJ1, hk1⟩ | ⟨rfl, hx1⟩)
    · gi_wp2
      refine bodyPost_ret (results_none rfl _ _ _) rfl ?_
      exact ⟨⟨_, rfl⟩, .inl ⟨_, hit.out.symm, hJ1⟩⟩
    · gi_wp2
      refine bodyPost_ret (results_none rfl _ _ _) rfl ?_
      exact ⟨⟨_, rfl⟩, .inr ⟨_, by rw [hit.out]; exact List.prefix_refl _, hx1⟩⟩
  · have hit : Hid (items s.data.toList = scan s.size (s.size + 1) s.data.toList) := by
      show _ = _
      unfold items; rw [← size_len, if_neg hbig]
    have hmax : Hid (s.size ≤ maxLen) := by show s.size ≤ maxLen; unfold maxLen; omega
    gi_wp2
    gi_loopw [3] (fun i wr => ∃ (k : Nat) (pre : List (Tok × Int)) (f : Nat), k ≤ s.size ∧ i = .int .i64 k ∧ Hid (items s.data.toList = pre ++ scan s.size (f + 1) (s.data.toList.drop k)) ∧ s.size ≤ k + f ∧ J pre wr ∧ Below n₀ W wr ∧ Hid (wr.heap[Bs]? = some (.cells #[.string s] 9 (0, 0))))
      (fun i wr => s.size - (intOf i).toNat)
    case atStart => exact ⟨0, [], s.size, Nat.zero_le _, rfl, by show _ = _; rw [hit.out]; simp, by omega, h0, Below.refl _ _, HBs0⟩
    case round =>
      obtain ⟨k, pre, f, hk, rfl, HI, hf, hJp, hbW, HBr⟩ := hrel
      have hBlt : Hid (Bs < wr.heap.size) := (Array.getElem?_eq_some_iff.1 HBr.out).1
      have hBs1 : wr.cell? ⟨Bs, 0, none⟩ = some (.string s) := by simp [World.cell?, HBr.out]
      have HE1 : Hid (EV wr) := hE.below hbW h1n
      have hsz1 : n₀ ≤ wr.heap.size := Nat.le_trans hn₀ hbW.size
      gi_wp2_with fail
      refine ⟨trivial, ?_⟩
      refine (callsIn_wide.2 (leaveOut_any s k _ hmax.out hk)).mono ?_
      rintro e w' ⟨⟨j, hj, hj', rfl, Hj⟩, rfl⟩
      have HJ : Hid _ := Hj
      clear Hj
      have hex : Hid ((s.extract j s.size).data.toList = leave false (s.data.toList.drop k)) := by
        show _ = _
        rw [HJ.out, Lib.extract_data, List.take_of_length_le (by rw [List.length_drop, ← size_len]; exact Nat.le_refl _)]
      gi_wp2_with fail
      refine ⟨trivial, ?_⟩
      refine (callsIn_wide.2 (begin_any (s.extract j s.size) _ ?_ HE1.out)).mono ?_
      · rw [size_len, hex.out]
        have := leave_le false (s.data.toList.drop k); have := List.length_drop (i := k) (l := s.data.toList); rw [size_len] at hs; omega
      rintro e W1 ⟨rfl, hb1⟩
      rw [hex.out, encT]
      have hpos : (s.size : Int) - ((leave false (s.data.toList.drop k)).length : Nat) = j := by
        rw [HJ.out, List.length_drop, ← size_len]; omega
      have hT : (at0 s.size (s.data.toList.drop k)) = put (begT (leave false (s.data.toList.drop k))) j := by unfold at0; rw [hpos]
      have HT : Hid (items s.data.toList = (pre ++ [(put (begT (leave false (s.data.toList.drop k))) j, begE (leave false (s.data.toList.drop k)))]) ++ (if last (s.data.toList.drop k) then [] else scan s.size f (nx0 (s.data.toList.drop k)))) := by
        show _ = _
        rw [HI.out, scan_ne, hT]; simp [er0]
      have HK : Hid (((begT (leave false (s.data.toList.drop k))).kind == 9) = (leave false (s.data.toList.drop k)).isEmpty) := begT_kind9 _
      have HL : Hid (last (s.data.toList.drop k) = (begE (leave false (s.data.toList.drop k)) != 0 || (leave false (s.data.toList.drop k)).isEmpty)) := rfl
      have hnx : Hid (last (s.data.toList.drop k) = false → nx0 (s.data.toList.drop k) = s.data.toList.drop (j + begS (leave false (s.data.toList.drop k))) ∧ 1 ≤ begS (leave false (s.data.toList.drop k))) := by
        intro h
        simp only [last, er0, Bool.or_eq_false_iff, bne_eq_false_iff_eq, List.isEmpty_eq_false_iff] at h
        exact ⟨by unfold nx0; rw [HJ.out, List.drop_drop], begS_pos _ h.2 h.1⟩
      have hzl : begS (leave false (s.data.toList.drop k)) + j ≤ s.size := by
        have := begS_le (leave false (s.data.toList.drop k)); rw [HJ.out, List.length_drop, ← size_len] at this; rw [HJ.out]; omega
      clear hT hpos hex
      generalize begT (leave false (s.data.toList.drop k)) = t at *
      generalize begE (leave false (s.data.toList.drop k)) = er at *
      generalize begS (leave false (s.data.toList.drop k)) = z at *
      obtain ⟨hc1, hf1⟩ := bcell hb1
      obtain ⟨fn, tmps, assign, body, hy, hR⟩ := hY pre (put t j, er) (W1.alloc (.cells #[.int .u8 t.kind, S t.text, .int .i64 t.n, .int .i64 j] 71)) (abides_below hJ hJp (hb1.alloc hb1.size _)) (by rw [HT.out]; simp)
      simp only [encs, encT, put] at hy
      gi_wp2_with fail
      refine hR.mono ?_
      rintro e W2 (⟨rfl, hJ2, hk2, hk2s, hk2'⟩ | ⟨rfl, hx2⟩)
      · have hb2 : W2.heap[W1.heap.size]? = some (.cells #[.int .u8 t.kind, S t.text, .int .i64 t.n, .int .i64 j] 71 (0, 0)) := hk2' _ _ (World.alloc_heap_new _ _) rfl
        have hc2 := cells4_of hb2
        have hbW2 : Below n₀ W W2 := (hbW.trans ((hb1.alloc hb1.size _).mono hsz1)).trans hk2
        have HB2 : Hid (W2.heap[Bs]? = some (.cells #[.string s] 9 (0, 0))) := hk2s _ _ (((hb1.alloc hb1.size _).block Bs hBlt.out).trans HBr.out)
        clear hy hR hb2
        cases he : (er != 0)
        · cases h9 : (t.kind == 9)
          · have hl : last (s.data.toList.drop k) = false := by rw [HL.out, he, ← HK.out, h9]; rfl
            obtain ⟨hn1, hz1⟩ := hnx.out hl
            have HN : Hid _ := hn1
            have HL' : Hid _ := hl
            have hf1 : 1 ≤ f := by omega
            clear hn1 hl
            gi_wp2
            go_roundw
            case rel =>
              refine ⟨j + z, _, f - 1, by omega, by go_num, ?_, by omega, hJ2, hbW2, HB2⟩
              show _ = _
              rw [HT.out, HL'.out, HN.out, show f - 1 + 1 = f from by omega]; simp
            case measure => simp [intOf]; omega
          · have hl : Hid (last (s.data.toList.drop k) = true) := by show _ = _; rw [HL.out, he, ← HK.out, h9]; rfl
            gi_wp2
            refine bodyPost_ret (results_none rfl _ _ _) rfl ?_
            refine ⟨⟨_, rfl⟩, .inl ⟨_, ?_, hJ2⟩⟩
            rw [HT.out, hl.out]; simp
        · have hl : Hid (last (s.data.toList.drop k) = true) := by show _ = _; rw [HL.out, he]; rfl
          gi_wp2
          refine bodyPost_ret (results_none rfl _ _ _) rfl ?_
          refine ⟨⟨_, rfl⟩, .inl ⟨_, ?_, hJ2⟩⟩
          rw [HT.out, hl.out]; simp
      · gi_wp2
        refine bodyPost_ret (results_none rfl _ _ _) rfl ?_
        exact ⟨⟨_, rfl⟩, .inr ⟨_, ⟨_, HT.out.symm⟩, hx2⟩⟩

/-- The iterator of a source, as a contract for every caller. -/
theorem steps1_stops (n : Nat) (hn : 1 ≤ n) (Bs n₀ : Nat) (s : ByteArray) (hs : s.size ≤ 281474976710656) (w : World) (h1n : 4 < n₀) (hn₀ : n₀ ≤ w.heap.size)
    (hBs : w.heap[Bs]? = some (.cells #[.string s] 9 (0, 0))) (hE : EV w) :
    SeqStopsK Fence.wide n Tryz.prog 76 #[.pointer (some ⟨Bs, 0, none⟩)] encs (Kp4 n₀) (fun ys => ys = items s.data.toList) (fun pre => pre <+: items s.data.toList) (items s.data.toList).length w :=
  fun l J Jx W hW hJ _ hY h0 =>
    steps1_in n hn l Bs n₀ s hs J Jx hY W hJ h1n (Nat.le_trans hn₀ hW.size) ((hW.block Bs (Array.getElem?_eq_some_iff.1 hBs).1).trans hBs) (hE.below hW (Nat.lt_of_lt_of_le h1n hn₀)) h0

set_option maxHeartbeats 1000000 in
theorem steps_in (n : Nat) (s : ByteArray) (w : World) :
    CallsIn Fence.wide n Tryz.prog 62 #[.string s] w fun e w' => e = .returned (.func (.func 76) #[] #[.pointer (some ⟨w.heap.size, 0, none⟩)]) ∧ w' = w.alloc (.cells #[.string s] 9) := by
  refine callsIn_of_wp Tryz.func62 rfl trivial ?_ rfl
  simp only [Tryz.ntmps62, List.size_toArray, List.length_cons, List.length_nil, Nat.reduceAdd, Nat.reduceSub, Array.replicate_succ, Array.replicate_zero, List.push_toArray, List.append_toArray, List.nil_append, List.cons_append]
  gi_wp2
  go_ret
  exact ⟨rfl, rfl⟩

end Go.Proofs.YtlpdfifjdlfpdaaGreatDoor

/- The contract of Tokens: the tokens in a list of its own, or the first error and its place. -/
namespace Go.Proofs.YtlpdfifjdlfpdaaGreatDoor
open Go.RowKit Go.Shelf

attribute [local go_sem] Oper.semAt_some

/-- A full row that is appended to stays as it was. -/
theorem append_full {P : Program} (w : World) (t ty e : TypeId) (i : TypeInfo) (z : Value) (ht : P.underlying t = some (.slice e)) (hi : P.info? e = some i) (hz : i.zero = some z)
    (base g n cap : Nat) (xs : List Value) (hown : w.ownsRow base e i.size (.slice (some ⟨g, 0, none⟩) n cap) n xs) (a : Addr) (m c : Nat) (news : List Value) (hl : news.length = m * i.size)
    (hnews : ∀ j u, news[j]? = some u → w.cell? (a.add j) = some u) (h63 : n + m ≤ maxLen) (hb : (n + m) * i.bytes ≤ 140737488355328) (hfull : cap < n + m) {v' : Value} {w' : World}
    (hrun : (Builtin.append_ #[t, t] ty #[.slice (some ⟨g, 0, none⟩) n cap, .slice (some a) m c]).run P w = .ok v' w') : Below w.heap.size w w' := by
  have holds : ∀ j u, xs[j]? = some u → w.cell? ((⟨g, 0, none⟩ : Addr).add j) = some u := hown.cells (g := g) rfl
  have hr := run_append_grow (P := P) w t ty e i z ht hi hz ⟨g, 0, none⟩ n cap xs hown.1 holds a m c news hl hnews (by omega) (by simp only [maxLen] at h63; omega) (growslice_fits (by omega) hb)
  rw [hrun] at hr
  cases hr
  exact ((Below.refl _ w).drew).alloc (Nat.le_refl _) _

theorem wpListIn_append_keep {F : Fence} {n : Nat} {P : Program} (w : World) {ops : Array Oper} {rest : List Oper} {o : Oper} {a : Act} {Q : Exit → Act → World → Prop}
    (hg : o.guard = none) (s x : Operand) (t : TypeId) (hop : o.op = Op.call { callee := Callee.builtin Builtin.append, args := #[s, x], argTypes := #[t, t] })
    (base : Nat) (e : TypeId) (i : TypeInfo) (z : Value) (size bytes : Nat) (h1 : P.underlying t = some (.slice e)) (h2 : P.info? e = some i) (h3 : i.zero = some z) (h4 : i.size = size) (h5 : i.bytes = bytes) (h6 : z.cells.size = size) (h7 : 0 < size)
    (v : Value) (k : Nat) (xs : List Value) (hs : a.eval s = v) (hown : w.ownsRow base e size v k xs) (ad : Addr) (m c : Nat) (news : List Value) (hx : a.eval x = .slice (some ad) m c) (hn : news.length = m * size)
    (hc : ∀ j u, news[j]? = some u → w.cell? (ad.add j) = some u) (h1c : ∀ u ∈ news, u.oneCell' = true) (b1 : k + m ≤ maxLen) (b2 : (k + m) * bytes ≤ 140737488355328) (b3 : base ≤ w.heap.size)
    (hK : ∀ v' w', w'.ownsRow base e size v' (k + m) (xs ++ news) → w.grownBy w' v.ownBlock → (v' = .slice none 0 0 ↔ v = .slice none 0 0 ∧ m = 0) → (∀ g cap, v = .slice (some ⟨g, 0, none⟩) k cap → cap < k + m → Below w.heap.size w w') → wpListIn F n P ops Q rest (a.put o.dst v') w') :
    wpListIn F n P ops Q (o :: rest) a w := by
  refine wpListIn_plain hg fun K hK' => ?_
  obtain ⟨v', w', hrun, r1, r2, r3⟩ := run_append_own (P := P) w base t o.type e i z size bytes h1 h2 h3 h4 h5 h6 h7 v k xs hown ad m c news hn hc h1c b1 b2 b3
  have r4 : ∀ g cap, v = .slice (some ⟨g, 0, none⟩) k cap → cap < k + m → Below w.heap.size w w' := by
    rintro g cap rfl hf
    subst h4 h5
    exact append_full w t o.type e i z h1 h2 h3 base g k cap xs hown ad m c news hn hc b1 b2 hf hrun
  unfold Oper.wpIn
  refine ⟨by simp [Oper.about, hop, resolve, Target.leads, Sem.run_pure], ?_⟩
  rw [Oper.semAt_plain F _ _ (by rw [hop]; intro c hc'; cases hc')]
  simp [execOp, hop, resolve, invoke, builtin, hs, hx, hrun, Result.andThen]
  exact hK' _ _ (hK v' w' r1 r2 r3 r4)

/-- A token's four cells. -/
def cells4 (t : Tok) : List Value := [.int .u8 t.kind, S t.text, .int .i64 t.n, .int .i64 t.pos]
theorem cell_four_new (W : World) (a0 a1 a2 a3 : Value) (t : TypeId) (j : Nat) (u : Value) (h : [a0, a1, a2, a3][j]? = some u) : (W.alloc (.cells #[a0, a1, a2, a3] t)).cell? ((⟨W.heap.size, 0, none⟩ : Addr).add j) = some u := by
  have hn := World.alloc_heap_new W (.cells #[a0, a1, a2, a3] t)
  have e : ((⟨W.heap.size, 0, none⟩ : Addr).add j) = ⟨W.heap.size, j, none⟩ := by simp [Addr.add]; exact fun h => h.symm
  rw [e]
  simp only [World.cell?, hn]
  simpa using h
theorem cells4_one (t : Tok) : ∀ u ∈ cells4 t, u.oneCell' = true := by
  intro u hu
  simp only [cells4, List.mem_cons, List.not_mem_nil, or_false] at hu
  rcases hu with rfl | rfl | rfl | rfl <;> rfl
def rowOf (xs : List (Tok × Int)) : List Value := xs.flatMap fun x => cells4 x.1
theorem rowOf_snoc (xs : List (Tok × Int)) (x : Tok × Int) : rowOf (xs ++ [x]) = rowOf xs ++ cells4 x.1 := by simp [rowOf]
theorem rowOf_nil : rowOf [] = [] := rfl

theorem infoTok : (Tryz.prog.info? 71).map (fun i => (i.zero, i.size, i.bytes)) = some (some (.agg #[.int .u8 0, .string ⟨#[]⟩, .int .i64 0, .int .i64 0]), 4, 40) := by kernel_rfl

/-- No error among them. -/
def fine (xs : List (Tok × Int)) : Prop := ∀ x ∈ xs, x.2 = 0

theorem kp4_t {n₀ : Nat} {A B C : World} (h : Kp4 n₀ A B) (k : Kp4 n₀ B C) : Kp4 n₀ A C :=
  ⟨h.1.trans k.1, fun i cs hi => k.2.1 i cs (h.2.1 i cs hi), fun i cs hi h4 => k.2.2 i cs (h.2.2 i cs hi h4) h4⟩
theorem kp4_b {n₀ : Nat} {w : World} (hn : n₀ ≤ w.heap.size) (W : World) (l : Nat) (o o' : Obj) (hl : w.heap.size ≤ l) (h : W.heap[l]? = some o) (hc : o.isCells = false) (hw : o.isWalk = false) : Kp4 n₀ W (W.putObj l o') := by
  refine ⟨belowK_b hn W l o o' hl h hc hw, fun k cs hk => ?_, fun k cs hk _ => ?_⟩
  all_goals
    rw [World.putObj_heap_other (by rintro rfl; rw [h] at hk; cases hk; cases hc)]
    exact hk
theorem kp4_below {n₀ : Nat} {A C : World} (hn : n₀ ≤ A.heap.size) (h : Below A.heap.size A C) : Kp4 n₀ A C :=
  ⟨h.mono hn, fun k _ hk => (h.block k (Array.getElem?_eq_some_iff.1 hk).1).trans hk, fun k _ hk _ => (h.block k (Array.getElem?_eq_some_iff.1 hk).1).trans hk⟩

theorem kp4_appended {W w1 : World} {n₀ B : Nat} {v v' : Value} {k : Nat} {xs : List Value} {tmp : Obj} (hv : Boxed W B 62 v) (hrow : W.ownsRow n₀ 71 4 v k xs) (h1 : ¬ v = .slice none 0 0 → 1 ≤ k)
    (hgrow : (W.alloc tmp).grownBy w1 v.ownBlock) (hfull : ∀ g cap, v = .slice (some ⟨g, 0, none⟩) k cap → cap < k + 1 → Below (W.alloc tmp).heap.size (W.alloc tmp) w1) (hb : Below n₀ W (w1.setCell ⟨B, 0, none⟩ v')) :
    Kp4 n₀ W (w1.setCell ⟨B, 0, none⟩ v') := by
  have keep : ∀ (j : Nat) (cs : Array Value) (t : TypeId), t ≠ 62 → W.heap[j]? = some (.cells cs t (0, 0)) → w1.heap[j]? = some (.cells cs t (0, 0)) → (w1.setCell ⟨B, 0, none⟩ v').heap[j]? = some (.cells cs t (0, 0)) := fun j cs t ht hj hj1 => by
    rw [Below.heap_setCell _ _ _ _ (by rintro rfl; rw [show W.heap[_]? = _ from hv] at hj; cases hj; exact ht rfl)]
    exact hj1
  have old : ∀ (j : Nat) (o : Obj), W.heap[j]? = some o → some j ≠ v.ownBlock → w1.heap[j]? = some o := fun j o hj hne => by
    have hlt := (Array.getElem?_eq_some_iff.1 hj).1
    rw [hgrow.block j (by simp; omega) hne, Below.heap_alloc _ _ _ hlt]
    exact hj
  refine ⟨hb, fun j cs hj => keep j cs 9 (by decide) hj (old j _ hj ?_), fun j cs hj h4 => keep j cs 71 (by decide) hj ?_⟩
  · rcases hrow.2 with ⟨rfl, _⟩ | ⟨g, cap, cur, rfl, _, hg, _⟩
    · simp [Value.ownBlock]
    · intro e
      obtain rfl : j = g := by simpa [Value.ownBlock] using e
      rw [hg] at hj; simp at hj
  · rcases hrow.2 with ⟨rfl, _⟩ | ⟨g, cap, cur, rfl, _, hg, hkc, _, hcs, _⟩
    · exact old j _ hj (by simp [Value.ownBlock])
    · by_cases e : j = g
      · subst e
        rw [hg] at hj; cases hj
        have hk1 := h1 (by simp)
        have hlt := (Array.getElem?_eq_some_iff.1 hg).1
        rw [(hfull _ _ rfl (by omega)).block j (by simp; omega), Below.heap_alloc _ _ _ hlt]
        exact hg
      · exact old j _ hj (by simp [Value.ownBlock]; exact e)

/-- What the function's own blocks hold between two rounds. -/
def Inv (w : World) (pre : List (Tok × Int)) (W : World) : Prop :=
  ((∃ v, Boxed W (w.heap.size + 3) 62 v ∧ W.ownsRow w.heap.size 71 4 v pre.length (rowOf pre) ∧ (v = .slice none 0 0 ↔ pre = [])) ∧
    (Boxed W w.heap.size 62 (.slice none 0 0) ∧ Boxed W (w.heap.size + 1) 24 (.int .i64 0) ∧ Boxed W (w.heap.size + 2) 3 (.int .i64 0))) ∧ (Below w.heap.size w W ∧ fine pre)
/-- .. and when a round has left. -/
def InvX (w : World) (c : Code) (pre : List (Tok × Int)) (W : World) : Prop :=
  (c = .ret ∧ ∃ q x, pre = q ++ [x] ∧ fine q ∧ ¬ x.2 = 0 ∧ Boxed W w.heap.size 62 (.slice none 0 0) ∧ Boxed W (w.heap.size + 1) 24 (.int .i64 x.2) ∧ Boxed W (w.heap.size + 2) 3 (.int .i64 x.1.pos)) ∧ Below w.heap.size w W

theorem inv_own (w : World) (B : Nat) (hB : w.heap.size ≤ B) : OwnFrom B (Inv w) := by
  refine OwnFrom.and (OwnFrom.and (Own.from (holdsRow_own w.heap.size (w.heap.size + 3) 62 71 4 (fun pre => pre.length) (fun pre => rowOf pre) (fun pre v => v = .slice none 0 0 ↔ pre = [])) _) ?_) (OwnFrom.and (ownFrom_below (Nat.le_refl _) hB) ?_)
  · exact OwnFrom.and (Own.from (boxed_own _ _ _) _) (OwnFrom.and (Own.from (boxed_own _ _ _) _) (Own.from (boxed_own _ _ _) _))
  · intro s A B' row hs _ _; exact hs
theorem invX_own (w : World) (B : Nat) (hB : w.heap.size ≤ B) (c : Code) : OwnFrom B (InvX w c) := by
  refine OwnFrom.and ?_ (ownFrom_below (Nat.le_refl _) hB)
  rintro s A B' row ⟨hc, q, x, h1, h2, h3, h4, h5, h6⟩ hg hr
  refine ⟨hc, q, x, h1, h2, h3, ?_, ?_, ?_⟩
  · exact h4.kept hg (fun e => by obtain ⟨_, o, ho, hn⟩ := hr _ e.symm; rw [show A.heap[w.heap.size]? = _ from h4] at ho; cases ho; cases hn)
  · exact h5.kept hg (fun e => by obtain ⟨_, o, ho, hn⟩ := hr _ e.symm; rw [show A.heap[w.heap.size + 1]? = _ from h5] at ho; cases ho; cases hn)
  · exact h6.kept hg (fun e => by obtain ⟨_, o, ho, hn⟩ := hr _ e.symm; rw [show A.heap[w.heap.size + 2]? = _ from h6] at ho; cases ho; cases hn)

theorem left_ok {w W : World} {pre : List (Tok × Int)} {x : Tok × Int} (r0 : Boxed W w.heap.size 62 (.slice none 0 0)) (r1 : Boxed W (w.heap.size + 1) 24 (.int .i64 0)) (r2 : Boxed W (w.heap.size + 2) 3 (.int .i64 0))
    (hB : Below w.heap.size w W) (hf : fine pre) (hx : ¬ x.2 = 0) (B : Nat) :
    KeepsFrom B W (((W.setCell ⟨w.heap.size, 0, none⟩ (.slice none 0 0)).setCell ⟨w.heap.size + 1, 0, none⟩ (.int .i64 x.2)).setCell ⟨w.heap.size + 2, 0, none⟩ (.int .i64 x.1.pos)).drew ∧
      InvX w .ret (pre ++ [x]) (((W.setCell ⟨w.heap.size, 0, none⟩ (.slice none 0 0)).setCell ⟨w.heap.size + 1, 0, none⟩ (.int .i64 x.2)).setCell ⟨w.heap.size + 2, 0, none⟩ (.int .i64 x.1.pos)).drew := by
  refine ⟨((((KeepsOthers.setCell _ _ _).trans (KeepsOthers.setCell _ _ _)).trans (KeepsOthers.setCell _ _ _)).trans (KeepsOthers.drew _)).from _, ⟨rfl, pre, x, rfl, hf, hx, ?_, ?_, ?_⟩, ?_⟩
  · exact ((r0.set (.slice none 0 0)).other (by omega) _).other (by omega) _
  · exact ((r1.other (by omega) _).set (.int .i64 x.2)).other (by omega) _
  · exact ((r2.other (by omega) _).other (by omega) _).set _
  · exact (((hB.setCell (p := ⟨w.heap.size, 0, none⟩) (Nat.le_refl _) _).setCell (p := ⟨w.heap.size + 1, 0, none⟩) (Nat.le_succ _) _).setCell (p := ⟨w.heap.size + 2, 0, none⟩) (by simp) _).drew

theorem boxed_putObj {W : World} {B : Nat} {t : TypeId} {v : Value} (h : Boxed W B t v) {l : Nat} {o : Obj} (o' : Obj) (hl : W.heap[l]? = some o) (ho : o.isCells = false) : Boxed (W.putObj l o') B t v :=
  h.kept (grownBy_putObj' W l o') (fun e => by cases e; rw [show W.heap[_]? = _ from h] at hl; cases hl; cases ho)

theorem done_ok {w W : World} {v : Value} {k D : Nat} {xs : List Value} (hB : Below w.heap.size w W) (r0 : Boxed W w.heap.size 62 (.slice none 0 0)) (r1 : Boxed W (w.heap.size + 1) 24 (.int .i64 0)) (r2 : Boxed W (w.heap.size + 2) 3 (.int .i64 0))
    (hrow : W.ownsRow w.heap.size 71 4 v k xs)
    (hK : (((W.setCell ⟨w.heap.size, 0, none⟩ v).setCell ⟨w.heap.size + 1, 0, none⟩ (.int .i64 0)).setCell ⟨w.heap.size + 2, 0, none⟩ (.int .i64 0)).heap[D]? = some (.deferred (some []))) (hD : w.heap.size ≤ D) :
    Boxed ((((W.setCell ⟨w.heap.size, 0, none⟩ v).setCell ⟨w.heap.size + 1, 0, none⟩ (.int .i64 0)).setCell ⟨w.heap.size + 2, 0, none⟩ (.int .i64 0)).putObj D (.deferred none)) w.heap.size 62 v ∧
    Boxed ((((W.setCell ⟨w.heap.size, 0, none⟩ v).setCell ⟨w.heap.size + 1, 0, none⟩ (.int .i64 0)).setCell ⟨w.heap.size + 2, 0, none⟩ (.int .i64 0)).putObj D (.deferred none)) (w.heap.size + 1) 24 (.int .i64 0) ∧
    Boxed ((((W.setCell ⟨w.heap.size, 0, none⟩ v).setCell ⟨w.heap.size + 1, 0, none⟩ (.int .i64 0)).setCell ⟨w.heap.size + 2, 0, none⟩ (.int .i64 0)).putObj D (.deferred none)) (w.heap.size + 2) 3 (.int .i64 0) ∧
    ((((W.setCell ⟨w.heap.size, 0, none⟩ v).setCell ⟨w.heap.size + 1, 0, none⟩ (.int .i64 0)).setCell ⟨w.heap.size + 2, 0, none⟩ (.int .i64 0)).putObj D (.deferred none)).ownsRow w.heap.size 71 4 v k xs ∧
    Below w.heap.size w ((((W.setCell ⟨w.heap.size, 0, none⟩ v).setCell ⟨w.heap.size + 1, 0, none⟩ (.int .i64 0)).setCell ⟨w.heap.size + 2, 0, none⟩ (.int .i64 0)).putObj D (.deferred none)) := by
  have a0 := r0.set v
  have a1 : Boxed (W.setCell ⟨w.heap.size, 0, none⟩ v) (w.heap.size + 1) 24 (.int .i64 0) := r1.other (by omega) _
  have a2 : Boxed (W.setCell ⟨w.heap.size, 0, none⟩ v) (w.heap.size + 2) 3 (.int .i64 0) := r2.other (by omega) _
  have o1 := hrow.kept (grownBy_setCell' W w.heap.size v) (.inr (r0.not_row (by decide) hrow).symm)
  have o2 := o1.kept (grownBy_setCell' _ (w.heap.size + 1) (.int .i64 0)) (.inr (a1.not_row (by decide) o1).symm)
  have a2' : Boxed ((W.setCell ⟨w.heap.size, 0, none⟩ v).setCell ⟨w.heap.size + 1, 0, none⟩ (.int .i64 0)) (w.heap.size + 2) 3 (.int .i64 0) := a2.other (by omega) _
  have o3 := o2.kept (grownBy_setCell' _ (w.heap.size + 2) (.int .i64 0)) (.inr (a2'.not_row (by decide) o2).symm)
  refine ⟨boxed_putObj ((a0.other (by omega) _).other (by omega) _) _ hK rfl, boxed_putObj ((a1.set _).other (by omega) _) _ hK rfl, boxed_putObj (a2'.set _) _ hK rfl, ownsRow_putObj o3 _ hK rfl, ?_⟩
  exact (((hB.setCell (p := ⟨w.heap.size, 0, none⟩) (Nat.le_refl _) _).setCell (p := ⟨w.heap.size + 1, 0, none⟩) (Nat.le_succ _) _).setCell (p := ⟨w.heap.size + 2, 0, none⟩) (by simp) _).trans
    (belowK_b (w := w) (Nat.le_refl _) _ D _ _ hD hK rfl rfl)

def isE (x : Tok × Int) : Bool := x.2 != 0

set_option maxRecDepth 100000 in
set_option maxHeartbeats 2000000 in
theorem tokens_in (s : ByteArray) (hs : s.size ≤ 281474976710656) (w : World) (hE : EV w) :
    CallsIn Fence.wide 6 Tryz.prog 23 #[.string s] w fun e w' => Below w.heap.size w w' ∧
      ((∃ v, e = .returned (.tuple #[v, .int .i64 0, .int .i64 0]) ∧ fine (items s.data.toList) ∧ w'.ownsRow w.heap.size 71 4 v (items s.data.toList).length (rowOf (items s.data.toList))) ∨
       (∃ q x, q ++ [x] <+: items s.data.toList ∧ fine q ∧ ¬ x.2 = 0 ∧ e = .returned (.tuple #[.slice none 0 0, .int .i64 x.2, .int .i64 x.1.pos]))) := by
  obtain ⟨i0, hi, hz0, hz1, hz2⟩ := info_parts infoTok
  have hlen := (items_len s.data.toList).2
  refine callsIn_of_wp_marks Tryz.func23 rfl trivial ?_ rfl
  simp only [Tryz.ntmps23, List.size_toArray, List.length_cons, List.length_nil, Nat.reduceAdd, Nat.reduceSub, Array.replicate_succ, Array.replicate_zero, List.push_toArray, List.append_toArray, List.nil_append, List.cons_append]
  gi_wp2_with (refine ⟨trivial, ?_⟩; gi_at_call 62; refine (steps_in _ s _).mono ?_; rintro e w' ⟨rfl, rfl⟩)
  have hW0 : Below w.heap.size w (((((w.alloc (.cells #[.slice none 0 0] 62)).alloc (.cells #[.int .i64 0] 24)).alloc (.cells #[.int .i64 0] 3)).alloc (.cells #[.slice none 0 0] 62)).alloc (.cells #[.string s] 9)) :=
    (((((Below.refl _ w).alloc (Nat.le_refl _) _).alloc (by simp) _).alloc (by simp; omega) _).alloc (by simp; omega) _).alloc (by simp; omega) _
  have b0 : Boxed (((((w.alloc (.cells #[.slice none 0 0] 62)).alloc (.cells #[.int .i64 0] 24)).alloc (.cells #[.int .i64 0] 3)).alloc (.cells #[.slice none 0 0] 62)).alloc (.cells #[.string s] 9)) w.heap.size 62 (.slice none 0 0) :=
    ((((Boxed.new w 62 (.slice none 0 0)).alloc _).alloc _).alloc _).alloc _
  have b1 : Boxed (((((w.alloc (.cells #[.slice none 0 0] 62)).alloc (.cells #[.int .i64 0] 24)).alloc (.cells #[.int .i64 0] 3)).alloc (.cells #[.slice none 0 0] 62)).alloc (.cells #[.string s] 9)) (w.heap.size + 1) 24 (.int .i64 0) := by
    have := Boxed.new (w.alloc (.cells #[.slice none 0 0] 62)) 24 (.int .i64 0)
    rw [World.size_alloc] at this
    exact ((this.alloc _).alloc _).alloc _
  have b2 : Boxed (((((w.alloc (.cells #[.slice none 0 0] 62)).alloc (.cells #[.int .i64 0] 24)).alloc (.cells #[.int .i64 0] 3)).alloc (.cells #[.slice none 0 0] 62)).alloc (.cells #[.string s] 9)) (w.heap.size + 2) 3 (.int .i64 0) := by
    have := Boxed.new ((w.alloc (.cells #[.slice none 0 0] 62)).alloc (.cells #[.int .i64 0] 24)) 3 (.int .i64 0)
    rw [World.size_alloc, World.size_alloc] at this
    exact (this.alloc _).alloc _
  have b3 : Boxed (((((w.alloc (.cells #[.slice none 0 0] 62)).alloc (.cells #[.int .i64 0] 24)).alloc (.cells #[.int .i64 0] 3)).alloc (.cells #[.slice none 0 0] 62)).alloc (.cells #[.string s] 9)) (w.heap.size + 3) 62 (.slice none 0 0) := by
    have := Boxed.new (((w.alloc (.cells #[.slice none 0 0] 62)).alloc (.cells #[.int .i64 0] 24)).alloc (.cells #[.int .i64 0] 3)) 62 (.slice none 0 0)
    rw [World.size_alloc, World.size_alloc, World.size_alloc] at this
    exact this.alloc _
  have b4 : Boxed (((((w.alloc (.cells #[.slice none 0 0] 62)).alloc (.cells #[.int .i64 0] 24)).alloc (.cells #[.int .i64 0] 3)).alloc (.cells #[.slice none 0 0] 62)).alloc (.cells #[.string s] 9)) (w.heap.size + 4) 9 (.string s) := by
    have := Boxed.new ((((w.alloc (.cells #[.slice none 0 0] 62)).alloc (.cells #[.int .i64 0] 24)).alloc (.cells #[.int .i64 0] 3)).alloc (.cells #[.slice none 0 0] 62)) 9 (.string s)
    rw [World.size_alloc, World.size_alloc, World.size_alloc, World.size_alloc] at this
    exact this
  have hsz : (((((w.alloc (.cells #[.slice none 0 0] 62)).alloc (.cells #[.int .i64 0] 24)).alloc (.cells #[.int .i64 0] 3)).alloc (.cells #[.slice none 0 0] 62)).alloc (.cells #[.string s] 9)).heap.size = w.heap.size + 5 := by
    rw [World.size_alloc, World.size_alloc, World.size_alloc, World.size_alloc, World.size_alloc]
  have h1w := hE.lt
  obtain ⟨W0, hW0e⟩ : ∃ W0, (((((w.alloc (.cells #[.slice none 0 0] 62)).alloc (.cells #[.int .i64 0] 24)).alloc (.cells #[.int .i64 0] 3)).alloc (.cells #[.slice none 0 0] 62)).alloc (.cells #[.string s] 9)) = W0 := ⟨_, rfl⟩
  rw [hW0e] at hW0 b0 b1 b2 b3 b4 hsz ⊢
  clear hW0e
  have hE0 : EV W0 := hE.below hW0 h1w
  refine wpIn_rangeFunc_ownH rfl (by omega) (gf := 76) (lb := #[.pointer (some ⟨w.heap.size + 4, 0, none⟩)]) rfl trivial (enters_of Tryz.func76 (by kernel_rfl) rfl)
    (steps1_stops 5 (by omega) (w.heap.size + 4) w.heap.size s hs W0 h1w (by omega) b4 hE0) kp4_t (kp4_b (by omega)) (Below.refl _ _) (fun _ => rfl)
    (Inv w) (InvX w) (inv_own w _ (by omega)) (invX_own w _ (by omega))
    ⟨⟨⟨_, b3, World.ownsRow_nil _ _ _ _, by simp⟩, b0, b1, b2⟩, hW0, by intro x hx; cases hx⟩
    (fun x a' W => ∃ Bx, w.heap.size + 4 ≤ Bx ∧ W.heap[Bx]? = some (.cells #[.int .u8 x.1.kind, S x.1.text, .int .i64 x.1.n, .int .i64 x.1.pos] 71 (0, 0)) ∧
      a' = { tmps := #[.string s, undef, .pointer (some ⟨w.heap.size, 0, none⟩), .pointer (some ⟨w.heap.size + 1, 0, none⟩), .pointer (some ⟨w.heap.size + 2, 0, none⟩), .pointer (some ⟨w.heap.size + 3, 0, none⟩), .pointer (some ⟨Bx, 0, none⟩), .int .i64 x.2, .string s, .func (.func 76) #[] #[.pointer (some ⟨w.heap.size + 4, 0, none⟩)], .agg #[.int .u8 x.1.kind, S x.1.text, .int .i64 x.1.n, .int .i64 x.1.pos], .int .i64 x.2, undef, undef, undef, undef, undef, undef, undef, undef, undef, undef], defers := [] })
    ?hAx ?assign ?body ?done ?stop
  case hAx =>
    rintro x a' _ A B row ⟨Bx, h1, h2, h3⟩ hg hr
    refine ⟨Bx, h1, (hg.block Bx (Array.getElem?_eq_some_iff.1 h2).1 (fun e => ?_)).trans h2, h3⟩
    obtain ⟨_, o, ho, hn⟩ := hr _ e.symm
    rw [h2] at ho; cases ho; cases hn
  case assign =>
    rintro l pre x W K hi hK
    simp only [encs, encT]
    obtain ⟨⟨⟨v, hv, hrow, hnil⟩, r0, r1, r2⟩, hB, hfn⟩ := hi
    have hlt : w.heap.size + 3 < W.heap.size := hv.lt
    have hal : Below W.heap.size W (W.alloc (.cells #[.int .u8 x.1.kind, S x.1.text, .int .i64 x.1.n, .int .i64 x.1.pos] 71)) := (Below.refl _ W).alloc (Nat.le_refl _) _
    gi_wp2
    exact hK _ _ ((KeepsOthers.alloc _ _).from _) (kp4_below (by omega) hal) ⟨⟨⟨v, hv.alloc _, hrow.alloc _, hnil⟩, r0.alloc _, r1.alloc _, r2.alloc _⟩, hB.alloc (by omega) _, hfn⟩ ⟨W.heap.size, by omega, World.alloc_heap_new _ _, rfl⟩
  case body =>
    rintro l pre x a' W hl hr ⟨⟨⟨v, hv, hrow, hnil⟩, r0, r1, r2⟩, hB, hfn⟩ ⟨Bx, hBx, hx, rfl⟩ hlt
    have hc := hv.cell
    have hx0 : W.cell? ⟨Bx, 0, none⟩ = some (.int .u8 x.1.kind) := by simp [World.cell?, hx]
    have hx1 : W.cell? ⟨Bx, 1, none⟩ = some (S x.1.text) := by simp [World.cell?, hx]
    have hx2 : W.cell? ⟨Bx, 2, none⟩ = some (.int .i64 x.1.n) := by simp [World.cell?, hx]
    have hx3 : W.cell? ⟨Bx, 3, none⟩ = some (.int .i64 x.1.pos) := by simp [World.cell?, hx]
    have HX : Hid _ := hx
    clear hx
    cases he : (x.2 != 0)
    · have he' : x.2 = 0 := by simpa using he
      have He : Hid _ := he'
      clear he'
      gi_wp2_with (gi_at_builtin; refine wpListIn_append_keep _ rfl _ _ 62 rfl w.heap.size 71 i0 (.agg #[.int .u8 0, .string ⟨#[]⟩, .int .i64 0, .int .i64 0]) 4 40 Tryz.underlying62 hi hz0 hz1 hz2 rfl (by decide) v pre.length (rowOf pre) rfl (hrow.alloc _) ⟨W.heap.size, 0, none⟩ 1 1 (cells4 x.1) rfl rfl (cell_four_new _ _ _ _ _ _) (cells4_one _) (by unfold maxLen; omega) (by omega) (by have := hB.size; simp; omega) ?_; intro v' w1 hown' hgrow hn' hfull; obtain ⟨g', cap', rfl⟩ := ownsRow_succ hown'; obtain ⟨hv1, hv2, hr2, hk2, hb2⟩ := hv.appended (by decide) hrow hB.size (by omega) hown' hgrow; have hc1 := hv1.cell; have hf1 := hv1.frozen)
      refine ⟨hk2.from _, kp4_appended hv hrow (fun h => by rw [hnil] at h; exact List.length_pos_iff.2 h) hgrow hfull hb2,
        ⟨⟨⟨_, hv2, by rw [rowOf_snoc, List.length_append]; exact hr2, by simp⟩, ?_, ?_, ?_⟩, hB.trans hb2, ?_⟩⟩
      · exact ((r0.alloc _).kept hgrow (r0.not_row (by decide) hrow)).other (by omega) _
      · exact ((r1.alloc _).kept hgrow (r1.not_row (by decide) hrow)).other (by omega) _
      · exact ((r2.alloc _).kept hgrow (r2.not_row (by decide) hrow)).other (by omega) _
      · intro y hy
        rcases List.mem_append.1 hy with h | h
        · exact hfn y h
        · obtain rfl : y = x := by simpa using h
          exact He.out
    · have He : Hid _ := he
      have c0 := r0.cell
      have c1 := r1.cell
      have c2 := r2.cell
      have f0 := r0.frozen
      have f1 := r1.frozen
      have f2 := r2.frozen
      have hmx : Tryz.prog.follows .mixedOrders = true := by kernel_rfl
      gi_wp2_with fail
      gi_region_o
      all_goals gi_wp2
      all_goals exact left_ok r0 r1 r2 hB hfn (by simpa using He.out) _
  case done =>
    rintro D ys W hD rfl ⟨⟨⟨v, hv, hrow, hnil⟩, r0, r1, r2⟩, hB, hfn⟩ hK
    have hc := hv.cell
    have c0 := r0.cell
    have c1 := r1.cell
    have c2 := r2.cell
    have f0 := r0.frozen
    have f1 := r1.frozen
    have f2 := r2.frozen
    have hK3 : ∀ u, (((W.setCell ⟨w.heap.size, 0, none⟩ u).setCell ⟨w.heap.size + 1, 0, none⟩ (.int .i64 0)).setCell ⟨w.heap.size + 2, 0, none⟩ (.int .i64 0)).heap[D]? = some (.deferred (some [])) := fun u =>
      (((KeepsOthers.setCell W ⟨w.heap.size, 0, none⟩ u).trans (KeepsOthers.setCell _ ⟨w.heap.size + 1, 0, none⟩ (.int .i64 0))).trans (KeepsOthers.setCell _ ⟨w.heap.size + 2, 0, none⟩ (.int .i64 0))).same D _ hK rfl
    have HK3 : Hid _ := hK3
    clear hK3
    rcases hrow.2 with ⟨rfl, hz⟩ | ⟨g, cap, cur, rfl, hgb⟩
    · exact absurd (List.length_eq_zero_iff.1 hz) (items_ne _)
    · gi_wp2
      refine ⟨by simp, .inl ⟨_, _, rfl, run_takeDeferred (HK3.out _), ?_⟩⟩
      obtain ⟨q0, q1, q2, q3, q4⟩ := done_ok hB r0 r1 r2 hrow (HK3.out _) (by omega)
      have d0 := q0.cell
      have d1 := q1.cell
      have d2 := q2.cell
      exact ⟨.tuple #[.slice (some ⟨g, 0, none⟩) (items s.data.toList).length cap, .int .i64 0, .int .i64 0], by simp [results, Tryz.results23, go_sem, d0, d1, d2], q4, .inl ⟨_, rfl, hfn, q3⟩⟩
  case stop =>
    rintro D c pre W hD hSp ⟨⟨rfl, q, x, rfl, hq, hx, r0, r1, r2⟩, hB⟩ hK
    gi_wp2
    refine ⟨by simp, .inl ⟨_, _, rfl, run_takeDeferred hK, ?_⟩⟩
    have d0 := (boxed_putObj r0 (.deferred none) hK rfl).cell
    have d1 := (boxed_putObj r1 (.deferred none) hK rfl).cell
    have d2 := (boxed_putObj r2 (.deferred none) hK rfl).cell
    exact ⟨.tuple #[.slice none 0 0, .int .i64 x.2, .int .i64 x.1.pos], by simp [results, Tryz.results23, go_sem, d0, d1, d2], hB.trans (belowK_b (w := w) (Nat.le_refl _) _ D _ _ (by omega) hK rfl rfl), .inr ⟨q, x, hSp, hq, hx, rfl⟩⟩

end Go.Proofs.YtlpdfifjdlfpdaaGreatDoor

/- Tokens, as a plain contract. -/
namespace Go.Proofs.YtlpdfifjdlfpdaaGreatDoor
open Go.RowKit

theorem tokens_any (s : ByteArray) (hs : s.size ≤ 281474976710656) (w : World) (hE : EV w) :
    Calls Tryz.prog 23 #[.string s] w fun e w' => Below w.heap.size w w' ∧
      ((∃ v, e = .returned (.tuple #[v, .int .i64 0, .int .i64 0]) ∧ fine (items s.data.toList) ∧ w'.ownsRow w.heap.size 71 4 v (items s.data.toList).length (rowOf (items s.data.toList))) ∨
       (∃ q x, q ++ [x] <+: items s.data.toList ∧ fine q ∧ ¬ x.2 = 0 ∧ e = .returned (.tuple #[.slice none 0 0, .int .i64 x.2, .int .i64 x.1.pos]))) :=
  callsIn_wide.1 (tokens_in s hs w hE)

/-- What a row holds, cell by cell. -/
theorem ownsRow_cells {w : World} {base e size k : Nat} {v : Value} {xs : List Value} (h : w.ownsRow base e size v (k + 1) xs) :
    ∃ g cap, v = .slice (some ⟨g, 0, none⟩) (k + 1) cap ∧ base ≤ g ∧ g < w.heap.size ∧ ∀ j u, xs[j]? = some u → w.cell? ⟨g, j, none⟩ = some u := by
  rcases h.2 with ⟨_, h0⟩ | ⟨g, cap, cur, rfl, hb, hg, hk, _, hcs, ht⟩
  · omega
  · refine ⟨g, cap, rfl, hb, (Array.getElem?_eq_some_iff.1 hg).1, fun j u hu => ?_⟩
    rw [← ht] at hu
    have hj : j < (k + 1) * size := by
      have := (List.getElem?_eq_some_iff.1 hu).1; rw [List.length_take] at this; omega
    rw [List.getElem?_take_of_lt hj] at hu
    simp [World.cell?, hg]
    simpa using hu

end Go.Proofs.YtlpdfifjdlfpdaaGreatDoor

/- Rows of tokens in memory: read token by token. -/
namespace Go.Proofs.YtlpdfifjdlfpdaaGreatDoor
open Go.RowKit

/-- Block g holds the tokens xs, one behind the other. -/
def TRow (w : World) (g : Nat) (xs : List (Tok × Int)) : Prop := g < w.heap.size ∧ ∀ (k : Nat) (x : Tok × Int), xs[k]? = some x →
  w.cell? ⟨g, k * 4, none⟩ = some (.int .u8 x.1.kind) ∧ w.cell? ⟨g, k * 4 + 1, none⟩ = some (S x.1.text) ∧ w.cell? ⟨g, k * 4 + 1 + 1, none⟩ = some (.int .i64 x.1.n) ∧ w.cell? ⟨g, k * 4 + 1 + 1 + 1, none⟩ = some (.int .i64 x.1.pos)

theorem rowOf_get : ∀ (xs : List (Tok × Int)) (k j : Nat) (x : Tok × Int), xs[k]? = some x → j < 4 → (rowOf xs)[k * 4 + j]? = (cells4 x.1)[j]?
  | [], k, j, x, h, _ => by simp at h
  | y :: r, 0, j, x, h, hj => by
    obtain rfl : y = x := by simpa using h
    show (cells4 y.1 ++ rowOf r)[0 * 4 + j]? = _
    rw [Nat.zero_mul, Nat.zero_add, List.getElem?_append_left (by simpa [cells4] using hj)]
  | y :: r, k + 1, j, x, h, hj => by
    show (cells4 y.1 ++ rowOf r)[(k + 1) * 4 + j]? = _
    rw [List.getElem?_append_right (by simp [cells4]; omega), show (k + 1) * 4 + j - (cells4 y.1).length = k * 4 + j from by simp [cells4]; omega]
    exact rowOf_get r k j x (by simpa using h) hj

theorem trow_of {w : World} {base : Nat} {v : Value} {xs : List (Tok × Int)} (hne : xs ≠ []) (h : w.ownsRow base 71 4 v xs.length (rowOf xs)) :
    ∃ g cap, v = .slice (some ⟨g, 0, none⟩) xs.length cap ∧ base ≤ g ∧ TRow w g xs := by
  obtain ⟨n, hn⟩ : ∃ n, xs.length = n + 1 := ⟨xs.length - 1, by have := List.length_pos_iff.2 hne; omega⟩
  rw [hn] at h ⊢
  obtain ⟨g, cap, rfl, hb, hg, hc⟩ := ownsRow_cells h
  refine ⟨g, cap, rfl, hb, hg, fun k x hx => ⟨?_, ?_, ?_, ?_⟩⟩
  · exact hc _ _ (by have := rowOf_get xs k 0 x hx (by omega); simpa [cells4] using this)
  · exact hc _ _ (by have := rowOf_get xs k 1 x hx (by omega); simpa [cells4] using this)
  · exact hc _ _ (by have := rowOf_get xs k 2 x hx (by omega); simpa [cells4] using this)
  · exact hc _ _ (by have := rowOf_get xs k 3 x hx (by omega); simpa [cells4] using this)

theorem TRow.below {w w' : World} {B g : Nat} {xs : List (Tok × Int)} (h : TRow w g xs) (hb : Below B w w') (hB : g < B) : TRow w' g xs :=
  ⟨Nat.lt_of_lt_of_le h.1 hb.size, fun k x hx => by
    obtain ⟨a, b, c, d⟩ := h.2 k x hx
    exact ⟨(hb.cell (p := ⟨g, k * 4, none⟩) hB).trans a, (hb.cell (p := ⟨g, k * 4 + 1, none⟩) hB).trans b, (hb.cell (p := ⟨g, k * 4 + 1 + 1, none⟩) hB).trans c, (hb.cell (p := ⟨g, k * 4 + 1 + 1 + 1, none⟩) hB).trans d⟩⟩

/-- .. kept, where its block is. -/
theorem TRow.kept {w w' : World} {g : Nat} {xs : List (Tok × Int)} (h : TRow w g xs) (hb : w'.heap[g]? = w.heap[g]?) (hs : w.heap.size ≤ w'.heap.size) : TRow w' g xs :=
  ⟨Nat.lt_of_lt_of_le h.1 hs, fun k x hx => by
    obtain ⟨a, b, c, d⟩ := h.2 k x hx
    have e : ∀ o, w'.cell? ⟨g, o, none⟩ = w.cell? ⟨g, o, none⟩ := fun o => World.cell?_of_block (w := w) (a := ⟨g, o, none⟩) hb
    exact ⟨(e _).trans a, (e _).trans b, (e _).trans c, (e _).trans d⟩⟩
end Go.Proofs.YtlpdfifjdlfpdaaGreatDoor

/- An append that tells where its answer lies, and that the elder value still reads its row. -/
namespace Go.Proofs.YtlpdfifjdlfpdaaGreatDoor
open Go.RowKit

theorem own_prefix {w w' : World} {base e size g n n' cap cap' : Nat} {xs r : List Value} (h : w.ownsRow base e size (.slice (some ⟨g, 0, none⟩) n cap) n xs) (h1 : w.ownsRow base e size (.slice (some ⟨g, 0, none⟩) n' cap') n' (xs ++ r))
    (h2 : w'.ownsRow base e size (.slice (some ⟨g, 0, none⟩) n' cap') n' (xs ++ r)) : w'.ownsRow base e size (.slice (some ⟨g, 0, none⟩) n cap) n xs := by
  obtain ⟨hl, hc⟩ := h
  rcases hc with ⟨h', _⟩ | ⟨a, b, cur, hv, hb, hh, hn, hm, hz, ht⟩
  · simp at h'
  rcases h1.2 with ⟨h', _⟩ | ⟨a1, b1, cur1, hv1, _, hh1, _, _, hz1, _⟩
  · simp at h'
  obtain ⟨hl2, hc2⟩ := h2
  rcases hc2 with ⟨h', _⟩ | ⟨a2, b2, cur2, hv2, _, hh2, _, _, hz2, ht2⟩
  · simp at h'
  simp only [Value.slice.injEq, Option.some.injEq, Addr.mk.injEq, and_true, true_and] at hv hv1 hv2
  obtain ⟨rfl, rfl⟩ := hv
  obtain ⟨rfl, rfl⟩ := hv1
  obtain ⟨rfl, rfl⟩ := hv2
  rw [hh] at hh1
  cases hh1
  refine ⟨hl, .inr ⟨g, cap, cur2, rfl, hb, hh2, hn, hm, by rw [hz2, ← hz1, hz], ?_⟩⟩
  have : n * size ≤ n' * size := by rw [← hl, ← hl2, List.length_append]; omega
  have h3 : (cur2.toList.take (n' * size)).take (n * size) = cur2.toList.take (n * size) := by rw [List.take_take, Nat.min_eq_left this]
  rw [← h3, ht2, ← hl, List.take_left]

theorem own_told {w w' : World} {base e size n n' : Nat} {v u : Value} {xs r : List Value} (h : w.ownsRow base e size v n xs) (h1 : w.ownsRow base e size u n' (xs ++ r))
    (h2 : w'.ownsRow base e size u n' (xs ++ r)) (hg : w.grownBy w' u.ownBlock) : w'.ownsRow base e size v n xs := by
  by_cases e : v.ownBlock = none ∨ v.ownBlock ≠ u.ownBlock
  · exact h.kept hg e
  · rcases h.2 with ⟨rfl, _⟩ | ⟨g, cap, cur, rfl, _⟩
    · exact absurd (.inl rfl) e
    · rcases h1.2 with ⟨rfl, _⟩ | ⟨g1, cap1, cur1, rfl, _⟩
      · exact absurd (.inr (by simp [Value.ownBlock])) e
      · have : g = g1 := by
          by_cases e' : g = g1
          · exact e'
          · exact absurd (.inr (by simp [Value.ownBlock, e'])) e
        subst this
        exact own_prefix h h1 h2

theorem append_told {P : Program} {w w' : World} {base : Nat} {t ty e : TypeId} {i : TypeInfo} {z : Value} {size bytes : Nat} (ht : P.underlying t = some (.slice e)) (hi : P.info? e = some i) (hz : i.zero = some z)
    (hsize : i.size = size) (hby : i.bytes = bytes) (hsz : 0 < size) {v v' : Value} {n : Nat} {xs : List Value} (hown : w.ownsRow base e size v n xs)
    {a : Addr} {m c : Nat} {news : List Value} (hl : news.length = m * size) (hnews : ∀ j u, news[j]? = some u → w.cell? (a.add j) = some u) (h1 : ∀ u ∈ news, u.oneCell' = true)
    (h63 : n + m ≤ maxLen) (hbytes : (n + m) * bytes ≤ 140737488355328) (hm : 0 < m)
    (hrun : (Builtin.append_ #[t, t] ty #[v, .slice (some a) m c]).run P w = .ok v' w') (hown' : w'.ownsRow base e size v' (n + m) (xs ++ news)) (hg : w.grownBy w' v.ownBlock) :
    w'.ownsRow base e size v n xs ∧ (v'.ownBlock = v.ownBlock ∨ v'.ownBlock = some w.heap.size) := by
  subst hsize
  subst hby
  have hsmall : n + m ≤ 9223372036854775807 := by simp only [maxLen] at h63; omega
  rcases hown.2 with ⟨rfl, rfl⟩ | ⟨g, cap, cur, rfl, hbg, hgg, hnc, hcm, hcs, htake⟩
  · have hx : xs = [] := List.eq_nil_of_length_eq_zero (by simpa using hown.1)
    subst hx
    have hr := run_append_nil (P := P) w t ty e i z ht hi hz a m c news hl hnews hm (by omega) (by have hb := hbytes; simp only [Nat.zero_add] at hb; omega)
    rw [hrun] at hr
    cases hr
    exact ⟨World.ownsRow_nil _ _ _ _, .inr rfl⟩
  · by_cases hroom : n + m ≤ cap
    · have hfit : n * i.size + news.length ≤ cur.size := by rw [hl, hcs, ← Nat.add_mul]; exact Nat.mul_le_mul_right _ hroom
      have hr := run_append_room (P := P) w t ty e i ht hi g n cap cur hgg a m c news hl hnews h1 hroom hfit
      rw [hrun] at hr
      cases hr
      refine ⟨?_, .inl rfl⟩
      obtain ⟨hl2, hc2⟩ := hown'
      rcases hc2 with ⟨h', _⟩ | ⟨a2, b2, cur2, hv2, _, hh2, _, _, hz2, ht2⟩
      · simp at h'
      simp only [Value.slice.injEq, Option.some.injEq, Addr.mk.injEq, and_true, true_and] at hv2
      obtain ⟨rfl, rfl⟩ := hv2
      refine ⟨hown.1, .inr ⟨g, cap, cur2, rfl, hbg, hh2, hnc, hcm, hz2, ?_⟩⟩
      have : n * i.size ≤ (n + m) * i.size := Nat.mul_le_mul_right _ (by omega)
      have h3 : (cur2.toList.take ((n + m) * i.size)).take (n * i.size) = cur2.toList.take (n * i.size) := by rw [List.take_take, Nat.min_eq_left this]
      rw [← h3, ht2, ← hown.1, List.take_left]
    · have hb := append_full w t ty e i z ht hi hz base g n cap xs hown a m c news hl hnews h63 hbytes (by omega) hrun
      have holds : ∀ j u, xs[j]? = some u → w.cell? ((⟨g, 0, none⟩ : Addr).add j) = some u := hown.cells (g := g) rfl
      have hr := run_append_grow (P := P) w t ty e i z ht hi hz ⟨g, 0, none⟩ n cap xs hown.1 holds a m c news hl hnews (by omega) (by omega) (growslice_fits (by omega) hbytes)
      rw [hrun] at hr
      cases hr
      refine ⟨⟨hown.1, .inr ⟨g, cap, cur, rfl, hbg, ?_, hnc, hcm, hcs, htake⟩⟩, .inr rfl⟩
      rw [hb.block g (Array.getElem?_eq_some_iff.1 hgg).1]; exact hgg

theorem wpList_append_told {P : Program} (w : World) {ops : Array Oper} {rest : List Oper} {o : Oper} {a : Act} {Q : Exit → Act → World → Prop} (hgd : o.guard = none) (s x : Operand) (t : TypeId)
    (ho : o.op = .call { callee := .builtin .append, args := #[s, x], argTypes := #[t, t] })
    (base : Nat) (e : TypeId) (i : TypeInfo) (z : Value) (size bytes : Nat) (ht : P.underlying t = some (.slice e)) (hi : P.info? e = some i) (hz : i.zero = some z)
    (hsize : i.size = size) (hby : i.bytes = bytes) (hzs : z.cells.size = size) (hsz : 0 < size)
    (v : Value) (n : Nat) (xs : List Value) (hs : a.eval s = v) (hown : w.ownsRow base e size v n xs)
    (ad : Addr) (m c : Nat) (news : List Value) (hx : a.eval x = .slice (some ad) m c) (hl : news.length = m * size) (hnews : ∀ j u, news[j]? = some u → w.cell? (ad.add j) = some u) (h1 : ∀ u ∈ news, u.oneCell' = true)
    (h63 : n + m ≤ maxLen) (hbytes : (n + m) * bytes ≤ 140737488355328) (hbase : base ≤ w.heap.size) (hm : 0 < m)
    (h : ∀ v' w', w'.ownsRow base e size v' (n + m) (xs ++ news) → w.grownBy w' v.ownBlock → w'.ownsRow base e size v n xs → (v'.ownBlock = v.ownBlock ∨ v'.ownBlock = some w.heap.size) → wpList P ops Q rest (a.put o.dst v') w') : wpList P ops Q (o :: rest) a w :=
  wpList_plain hgd fun _ hK => by
    obtain ⟨v', w', hr, h2, h3, _⟩ := run_append_own (P := P) w base t o.type e i z size bytes ht hi hz hsize hby hzs hsz v n xs hown ad m c news hl hnews h1 h63 hbytes hbase
    obtain ⟨h4, h5⟩ := append_told ht hi hz hsize hby hsz hown hl hnews h1 h63 hbytes hm hr h2 h3
    unfold Oper.wp execOp
    simp only [ho, resolve, invoke, builtin, Sem.run_bind, Sem.run_pure, Result.andThen_ok, List.map_toArray, List.map_cons, List.map_nil, hs, hx, hr]
    exact hK _ _ (h v' w' h2 h3 h4 h5)
end Go.Proofs.YtlpdfifjdlfpdaaGreatDoor
