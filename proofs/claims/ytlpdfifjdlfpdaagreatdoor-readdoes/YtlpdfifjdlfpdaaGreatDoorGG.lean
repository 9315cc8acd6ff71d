/- The reader's datum, whatever it is.; The reader's three, for any tokens.; The reader's data: all that a source has.; What a call is given up with: caught.; The deferred function that recovers.; The deferred function that recovers: a fault. -/
import Derived.Test.YtlpdfifjdlfpdaaGreatDoorGF
import Derived.Test.YtlpdfifjdlfpdaaGreatDoorHLeaf
import Derived.Test.YtlpdfifjdlfpdaaGreatDoorHQuote
import Derived.Test.YtlpdfifjdlfpdaaGreatDoorHQuoted
/- The reader's datum, whatever it is. -/
namespace Go.Proofs.YtlpdfifjdlfpdaaGreatDoor
open Go.RowKit

theorem datum_step {rb tb T cap : Nat} {xs : List (Tok × Int)} {N : Nat} (hL : ListC rb tb T cap xs N) (hQ : QuotedC rb tb T cap xs N) : DatumC rb tb T cap xs (N + 1) := by
  intro w i o c ts hA hN
  obtain ⟨x, ts', hx, rfl, htl, hlen⟩ := hA.head
  have hN' : ts'.length ≤ N := by simpa using hN
  by_cases h1 : x.1.kind = 1
  · obtain ⟨⟨kind, text, n, pos⟩, er⟩ := x
    obtain rfl : kind = 1 := h1
    exact datum_list hL w i o c text n pos er ts' hA hN' hx htl
  by_cases h3 : x.1.kind = 3
  · obtain ⟨⟨kind, text, n, pos⟩, er⟩ := x
    obtain rfl : kind = 3 := h3
    exact datum_quote hQ w i o c text n pos er ts' hA hN' hx htl
  by_cases h5 : x.1.kind = 5
  · obtain ⟨⟨kind, text, n, pos⟩, er⟩ := x
    obtain rfl : kind = 5 := h5
    exact datum_leaf5 w i o c text n pos er ts' hA hx hlen
  by_cases h6 : x.1.kind = 6
  · obtain ⟨⟨kind, text, n, pos⟩, er⟩ := x
    obtain rfl : kind = 6 := h6
    exact datum_leaf6 w i o c text n pos er ts' hA hx hlen
  by_cases h7 : x.1.kind = 7
  · obtain ⟨⟨kind, text, n, pos⟩, er⟩ := x
    obtain rfl : kind = 7 := h7
    exact datum_leaf7 w i o c text n pos er ts' hA hx hlen
  by_cases h8 : x.1.kind = 8
  · obtain ⟨⟨kind, text, n, pos⟩, er⟩ := x
    obtain rfl : kind = 8 := h8
    exact datum_leaf8 w i o c text n pos er ts' hA hx hlen
  exact datum_other w i o c x ts' hA hx h1 h3 h5 h6 h7 h8
end Go.Proofs.YtlpdfifjdlfpdaaGreatDoor

/- The reader's three, for any tokens. -/
namespace Go.Proofs.YtlpdfifjdlfpdaaGreatDoor
open Go.RowKit

theorem datum_all (rb tb T cap : Nat) (xs : List (Tok × Int)) : ∀ N, DatumC rb tb T cap xs N
  | 0 => fun _ _ _ _ _ hA hN => absurd (List.eq_nil_of_length_eq_zero (Nat.le_zero.1 hN)) hA.ended.ne
  | N + 1 => datum_step (list_of (datum_all rb tb T cap xs N)) (quoted_of (datum_all rb tb T cap xs N))
theorem datum_any {rb tb T cap : Nat} {xs : List (Tok × Int)} (w : World) (i o c : Nat) (ts : List Tok) (hA : At rb tb T cap xs w i o c ts) :
    Calls Tryz.prog 64 #[.pointer (some ⟨rb, 0, none⟩)] w (PostD w.heap.size rb tb T cap o w (rdf 0 ts o c)) := datum_all rb tb T cap xs ts.length w i o c ts hA (Nat.le_refl _)
end Go.Proofs.YtlpdfifjdlfpdaaGreatDoor

/- The reader's data: all that a source has. -/
namespace Go.Proofs.YtlpdfifjdlfpdaaGreatDoor
open Go.RowKit

/-- What reading all ends in. -/
def PostS (rb : Nat) (w : World) : Res → Ending → World → Prop
  | .ok f _ _ _, e, w' => ButB w.heap.size rb w w' ∧ ∃ v, e = .returned v ∧ Tree w' w.heap.size v f
  | .bad er p, e, w' => ButB w.heap.size rb w w' ∧ e = .panicked (fault er p)

set_option maxRecDepth 100000 in
set_option maxHeartbeats 4000000 in
theorem data_any {rb tb T cap : Nat} {xs : List (Tok × Int)} (w : World) (i o c : Nat) (ts : List Tok) (hA : At rb tb T cap xs w i o c ts) :
    Calls Tryz.prog 26 #[.pointer (some ⟨rb, 0, none⟩)] w (PostS rb w (rdf 3 ts o c)) := by
  have HA : Hid (At rb tb T cap xs w i o c ts) := hA
  have hlt := hA.reader.lt
  obtain ⟨i0, hi0, hz0, hz1, hz2⟩ := info_parts infoDat
  clear hA
  go_enter Tryz.func26, Tryz.ntmps26
  go_wp2
  go_loopw [3] (fun v wr => ∃ (i' c' : Nat) (ts' : List Tok) (f : Fo), Hid (At rb tb T cap xs wr i' o c' ts') ∧ Hid (Tree wr w.heap.size v f) ∧ Hid (ButB w.heap.size rb w wr) ∧ f.len + i ≤ i' ∧ Hid (rdf 3 ts o c = (rdf 3 ts' o c').behind f)) (fun _ wr => leftAt rb T wr)
  case atStart =>
    exact ⟨i, c, ts, .nil, HA, Tree.nil _ _, (But.refl rb w).b (Nat.le_refl _), by simp [Fo.len], by show _ = _; rw [Res.behind_nil]⟩
  case round =>
    obtain ⟨i', c', ts', f, HA', HT, HB, hfl, HE⟩ := hrel
    obtain ⟨x, ts2, hx, rfl, htl, hlen⟩ := HA'.out.head
    obtain ⟨ra, cv, rfl⟩ := HT.out.slice
    have Hx : Hid _ := hx
    have hTm := HA'.out.hTm
    have sz : w.heap.size ≤ wr.heap.size := HB.out.size
    have hlr := HA'.out.reader.lt
    have HFT : Hid (f.len ≤ 100000) := by show f.len ≤ _; omega
    clear hx htl
    by_cases h9 : x.1.kind = 9
    · have hR : rdf 3 ts o c = .ok (f.app .nil) false ts2 c' := by rw [HE.out, rdf_lst (by decide)]; unfold lst; rw [if_pos rfl, if_pos h9]; rfl
      have b9 : (x.1.kind == 9) = true := beq_iff_eq.2 h9
      have HR : Hid _ := hR
      clear h9 hR
      go_wp2_with fail
      refine (kind_any rb tb T cap i' o c' xs x wr HA'.out.reader HA'.out.hT (by omega) HA'.out.row Hx.out).mono ?_
      rintro e w1 ⟨rfl, hb1⟩
      go_wp2_with fail
      go_ret
      rw [HR.out]
      refine ⟨HB.out.trans ((But.of_below (rb := rb) hb1).b sz), _, rfl, ?_⟩
      rw [Fo.app_nil]
      exact HT.out.kept (fun g _ hg => hb1.block g hg)
    · have b9 : (x.1.kind == 9) = false := beq_eq_false_iff_ne.2 h9
      have hM : rdf 3 (x.1 :: ts2) o c' = more rdf 3 (x.1 :: ts2) o c' := by rw [rdf_lst (by decide)]; unfold lst; rw [if_pos rfl, if_neg h9]
      clear h9
      cases hX : rdf 0 (x.1 :: ts2) o c' with
      | bad e p =>
        have hR : rdf 3 ts o c = .bad e p := by rw [HE.out, hM]; unfold more; rw [hX]; rfl
        have HX : Hid _ := hX
        have HR : Hid _ := hR
        clear hX hR hM
        go_wp2_with fail
        refine (kind_any rb tb T cap i' o c' xs x wr HA'.out.reader HA'.out.hT (by omega) HA'.out.row Hx.out).mono ?_
        rintro e' w1 ⟨rfl, hb1⟩
        have A1 := HA'.out.same hb1
        go_wp2_with fail
        refine (datum_any w1 i' o c' (x.1 :: ts2) A1).mono ?_
        rw [HX.out]
        rintro e' w2 ⟨hb2, rfl, i2, c2, hr2⟩
        go_wp2_with fail
        refine ⟨rfl, ?_⟩
        rw [HR.out]
        exact ⟨(HB.out.trans ((But.of_below (rb := rb) hb1).b sz)).trans (hb2.mono (by have := hb1.size; omega)), rfl⟩
      | ok f1 d1 r c1 =>
        have hg := rdf_good hX
        obtain ⟨qq, eqq, hqpos, hone, _⟩ := hg.suf
        obtain ⟨k, n, t, s, d, rfl, hsl⟩ := hone rfl
        have hEq : rdf 3 ts o c = (rdf 3 r o c1).behind (f.app (.cons k n t s d .nil)) := by rw [HE.out, hM]; unfold more; rw [hX]; simp only [Res.then]; rw [Res.behind_behind]
        have HEq : Hid (rdf 3 ts o c = (rdf 3 r o c1).behind (f.app (.cons k n t s d .nil))) := hEq
        have hrl : r.length + qq.length = ts2.length + 1 := by have := congrArg List.length eqq; simp at this; omega
        have HX : Hid _ := hX
        have HG : Hid (Good 0 (x.1 :: ts2) (.cons k n t s d .nil) r c' c1) := hg
        have Heqq : Hid _ := eqq
        have htbl : Hid (tb < w.heap.size) := HA.out.row.1
        clear hX hM hg hEq hsl eqq
        go_wp2_with fail
        refine (kind_any rb tb T cap i' o c' xs x wr HA'.out.reader HA'.out.hT (by omega) HA'.out.row Hx.out).mono ?_
        rintro e' w1 ⟨rfl, hb1⟩
        have A1 := HA'.out.same hb1
        have T1 : Tree w1 (w.heap.size) (.slice ra f.len cv) f := HT.out.kept (fun g _ hg => hb1.block g hg)
        have ls1 := hb1.size
        go_wp2_with fail
        refine (datum_any w1 i' o c' (x.1 :: ts2) A1).mono ?_
        rw [HX.out]
        rintro e' w2 ⟨hb2, k', n', t', s', d', kv, hf, rfl, hr2, hT2⟩
        cases hf
        obtain ⟨ra2, cap2, rfl⟩ := hT2.slice
        obtain ⟨cs, bs, ho1, hrr1, hnd⟩ := T1.ex
        have ho := own_same ho1 (fun g hg => hb2.block g (ho1.lt g hg).2 (by have := (ho1.lt g hg).1; omega))
        have hrr := hrr1.kept (fun g hg => hb2.block g (hrr1.lt g hg).2 (by have := (hrr1.lt g hg).1; omega))
        have A2 : At rb tb T cap xs w2 (T - r.length) o c1 r := A1.moved hr2 (hb2.block _ A1.row.1 A1.ne.symm) hb2.size (A1.rest Heqq.out).1 (HG.out.ended (by decide) A1.ended) A1.ho (HG.out.much A1.hc)
        have B2 : ButB w.heap.size rb w w2 := (HB.out.trans ((But.of_below (rb := rb) hb1).b sz)).trans (hb2.mono (by omega))
        have vb : ∀ g, (Value.slice ra f.len cv).ownBlock = some g → w.heap.size ≤ g := fun g hg => (ho.lt g hg).1
        have ls2 := hb2.size
        have HA2 : Hid (At rb tb T cap xs w2 (T - r.length) o c1 r) := A2
        have HB2 : Hid (ButB w.heap.size rb w w2) := B2
        have Hvb : Hid (∀ g, (Value.slice ra f.len cv).ownBlock = some g → w.heap.size ≤ g) := vb
        have Ho : Hid (w2.ownsRow (w.heap.size) 58 5 (.slice ra f.len cv) f.len cs) := ho
        have Hrr : Hid (Row w2 (w.heap.size) f cs bs) := hrr
        have Hnd : Hid (own1 (.slice ra f.len cv) ++ bs).Nodup := hnd
        have HT2 : Hid (Tree w2 w1.heap.size (.slice ra2 s.len cap2) s) := hT2
        have Hold : Hid (∀ y ∈ own1 (.slice ra f.len cv) ++ bs, y < w1.heap.size) := by
          show ∀ y ∈ own1 (.slice ra f.len cv) ++ bs, y < w1.heap.size
          intro y hy
          rcases List.mem_append.1 hy with h | h
          · exact (ho1.lt y (mem_own1.1 h)).2
          · exact (hrr1.lt y h).2
        clear hb1 hb2 T1 A1 A2 ho hrr hnd ho1 hrr1 hr2 hT2 B2 vb
        go_wp2_with (at_builtin; refine stop_of ?_)
        unfold Hid
        refine wpList_append_lies _ rfl _ _ 23 rfl (w.heap.size) 58 i0 (.agg #[.int .u8 0, .int .i64 0, .string ⟨#[]⟩, .slice none 0 0, .bool false]) 5 64 Tryz.underlying23 hi0 hz0 hz1 hz2 rfl (by decide) (.slice ra f.len cv) f.len cs rfl (Ho.out.alloc _) ⟨_, 0, none⟩ 1 1 [.int .u8 k, .int .i64 n, S t, .slice ra2 s.len cap2, .bool d] rfl rfl (cell_five_at _ _ (by simp) _ _ _ _ _ _) (five_one _ _ _ _ _ _ _) (by omega) (by have := HFT.out; unfold maxLen; omega) (by have := HFT.out; omega) (by simp; omega) _ rfl ?_
        intro g cap6 w6 hown hgr hat hlt6
        obtain ⟨ncs, nbs, nho, nhr, nnd⟩ := HT2.out.ex
        have HTX := tree_append (Ho.out.alloc _) (Hrr.out.alloc _) Hnd.out (((Row.single nho nhr).alloc _).mono (by omega)) nnd (fun y hy hm => by
            have h1 := ((Row.single (k := k) (n := n) (t := t) (d := d) nho nhr).lt y hy).1
            have := Hold.out y hm
            omega) rfl rfl hown hgr (hat.imp (fun h => h.symm) (fun h => by rw [h]; rfl))
        have hk6 : ∀ g, g < w.heap.size → w6.heap[g]? = w2.heap[g]? := fun g hg => (hgr.block g (by simp; omega) (fun e => by have := Hvb.out g e.symm; omega)).trans (Below.heap_alloc _ _ _ (by omega))
        have s6 : w2.heap.size ≤ w6.heap.size := by have := hgr.size; simp at this; omega
        have HT6 : Hid (Tree w6 (w.heap.size) (.slice (some ⟨g, 0, none⟩) (f.len + 1) cap6) (f.app (.cons k n t s d .nil))) := ⟨_, _, HTX⟩
        have HA6 : Hid (At rb tb T cap xs w6 (T - r.length) o c1 r) := HA2.out.moved (HA2.out.reader.kept (hk6 _ (by omega))) (hk6 _ (by have := htbl.out; omega)) s6 HA2.out.toks HA2.out.ended HA2.out.ho HA2.out.hc
        have HB6 : Hid (ButB w.heap.size rb w w6) := HB2.out.trans ⟨hgr.os, hgr.tape, hgr.output, s6, fun g hg _ => hk6 g (by omega)⟩
        clear hgr hown hat hk6 HTX nho nhr nnd
        go_wp2_with fail
        go_roundw
        case rel => exact ⟨T - r.length, c1, r, f.app (.cons k n t s d .nil), HA6, HT6, HB6, by rw [Fo.len_app]; simp [Fo.len]; omega, HEq⟩
        case measure => rw [leftAt_of HA6.out.reader, leftAt_of HA'.out.reader]; omega
end Go.Proofs.YtlpdfifjdlfpdaaGreatDoor

/- What a call is given up with: caught. -/
namespace Go.Proofs.YtlpdfifjdlfpdaaGreatDoor
open Go.RowKit

theorem assert_fault (e p : Int) (W : World) : (Instr.typeAssert (.iface 76 (.agg #[.int .i64 e, .int .i64 p])) 20 76 true).run Tryz.prog W = .ok (.tuple #[.agg #[.int .i64 e, .int .i64 p], .bool true]) W := by kernel_rfl
theorem assert_nil (W : World) : (Instr.typeAssert .nilIface 20 76 true).run Tryz.prog W = .ok (.tuple #[.agg #[.int .i64 0, .int .i64 0], .bool false]) W := by kernel_rfl

set_option maxRecDepth 100000 in
set_option maxHeartbeats 1000000 in
theorem caught_fault (e p : Int) (w : World) : Calls Tryz.prog 25 #[.iface 76 (.agg #[.int .i64 e, .int .i64 p])] w fun r w' => r = .returned (.tuple #[.agg #[.int .i64 e, .int .i64 p], .bool true]) ∧ Below w.heap.size w w' := by
  have h1 := assert_fault e p
  go_enter Tryz.func25, Tryz.ntmps25
  go_wp2
  refine bodyPost_ret (v := .tuple #[.agg #[.int .i64 e, .int .i64 p], .bool true]) (by simp [results, Tryz.results25, go_sem]) rfl ⟨rfl, ?_⟩
  exact ((Below.refl _ _).alloc (Nat.le_refl _) _).alloc (by simp) _

set_option maxRecDepth 100000 in
set_option maxHeartbeats 1000000 in
theorem caught_nil (w : World) : Calls Tryz.prog 25 #[.nilIface] w fun r w' => r = .returned (.tuple #[.agg #[.int .i64 0, .int .i64 0], .bool false]) ∧ Below w.heap.size w w' := by
  have h1 := assert_nil
  have h2 : ∀ W : World, (binOp .neq 20 .nilIface .nilIface).run Tryz.prog W = .ok (.bool false) W := fun W => by kernel_rfl
  go_enter Tryz.func25, Tryz.ntmps25
  go_wp2
  refine bodyPost_ret (v := .tuple #[.agg #[.int .i64 0, .int .i64 0], .bool false]) (by simp [results, Tryz.results25, go_sem]) rfl ⟨rfl, ?_⟩
  exact ((Below.refl _ _).alloc (Nat.le_refl _) _).alloc (by simp) _
end Go.Proofs.YtlpdfifjdlfpdaaGreatDoor

/- The deferred function that recovers. -/
namespace Go.Proofs.YtlpdfifjdlfpdaaGreatDoor
open Go.RowKit

section
variable {P : Program} {ops : Array Oper} {Q : Exit → Act → List Frame → World → Prop} {a : Act} {cs cs' : List Frame} {w : World} {i : Nat} {rest : List Nat} {o : Oper} {v : Value}
theorem wpOpsS_cons (ho : ops[i]? = some o) (hw : Region.wanted o (yielded ops a.tmps) = true) (hr : o.wp P a w (fun a' w' => wpOpsS P ops Q rest a' cs w') (fun e a' w' => Q e a' cs w')) : wpOpsS P ops Q (i :: rest) a cs w := by
  unfold wpOpsS
  rw [ho]
  simp only [hw, if_true]
  unfold Oper.wp at hr
  cases h : (execOp a.eval o).run P w with
  | halt x w' => rw [h] at hr; exact hr
  | ok x w' =>
    rw [h] at hr
    cases x <;> first | exact hr | exact hr.elim
theorem wpOpsS_none (ho : ops[i]? = some o) (hw : Region.wanted o (yielded ops a.tmps) = true) (hx : (execOp a.eval o).run P w = .ok .recover w) (hd : recoverD cs = none) (h : wpOpsS P ops Q rest (a.put o.dst .nilIface) cs w) : wpOpsS P ops Q (i :: rest) a cs w := by
  unfold wpOpsS
  rw [ho]
  simp only [hw, if_true, hx, hd]
  exact h
theorem wpOpsS_some (ho : ops[i]? = some o) (hw : Region.wanted o (yielded ops a.tmps) = true) (hx : (execOp a.eval o).run P w = .ok .recover w) (hd : recoverD cs = some (v, cs')) (h : wpOpsS P ops Q rest (a.put o.dst v) cs' w) : wpOpsS P ops Q (i :: rest) a cs w := by
  unfold wpOpsS
  rw [ho]
  simp only [hw, if_true, hx, hd]
  exact h
end

set_option maxRecDepth 100000 in
set_option maxHeartbeats 4000000 in
theorem catch_idle (b0 b1 b2 : Nat) (w : World) :
    CallsD Tryz.prog 24 #[.pointer (some ⟨b0, 0, none⟩), .pointer (some ⟨b1, 0, none⟩), .pointer (some ⟨b2, 0, none⟩)] .returning w fun r u' w' => (∃ v, r = .returned v) ∧ u' = .returning ∧ Below w.heap.size w w' := by
  refine callsD_of_wpS Tryz.func24 rfl fun c₀ cs hu => ?_
  simp only [Tryz.ntmps24, List.size_toArray, List.length_cons, List.length_nil, Nat.reduceAdd, Nat.reduceSub, Array.replicate_succ, Array.replicate_zero, List.push_toArray, List.append_toArray, List.nil_append, List.cons_append]
  apply wpS_seq
  apply wpS_region
  show wpOpsS _ _ _ [0, 1, 2, 3, 4, 5, 6, 7] _ _ _
  refine wpOpsS_none rfl rfl rfl (by simp [recoverD, hu]) ?_
  refine wpOpsS_cons rfl rfl ?_
  simp [go_sem]
  refine (caught_nil w).mono ?_
  rintro e w1 ⟨rfl, hb1⟩
  simp only
  iterate 6 (refine wpOpsS_cons rfl rfl ?_; simp [go_sem])
  unfold wpOpsS
  simp only [Exit.thenS]
  refine wpS_of_wp ?_
  go_wp2
  refine ⟨rfl, .returning, by cases c₀; simp_all, .tuple #[], by simp [results, Tryz.results24, go_sem], ⟨_, rfl⟩, rfl, hb1.alloc hb1.size _⟩

end Go.Proofs.YtlpdfifjdlfpdaaGreatDoor

/- The deferred function that recovers: a fault. -/
namespace Go.Proofs.YtlpdfifjdlfpdaaGreatDoor
open Go.RowKit

/-- Nothing but these three blocks has turned. -/
structure But3 (b0 b1 b2 : Nat) (w w' : World) : Prop where
  os : w'.os = w.os
  tape : w'.tape = w.tape
  output : w'.output = w.output
  size : w.heap.size ≤ w'.heap.size
  block : ∀ g, g < w.heap.size → g ≠ b0 → g ≠ b1 → g ≠ b2 → w'.heap[g]? = w.heap[g]?

theorem But3.trans {b0 b1 b2 : Nat} {a b c : World} (h : But3 b0 b1 b2 a b) (k : But3 b0 b1 b2 b c) : But3 b0 b1 b2 a c :=
  ⟨k.os.trans h.os, k.tape.trans h.tape, k.output.trans h.output, Nat.le_trans h.size k.size, fun g hg n0 n1 n2 => (k.block g (Nat.lt_of_lt_of_le hg h.size) n0 n1 n2).trans (h.block g hg n0 n1 n2)⟩
theorem But3.of_below {b0 b1 b2 : Nat} {w w' : World} (h : Below w.heap.size w w') : But3 b0 b1 b2 w w' := ⟨h.os, h.tape, h.output, h.size, fun g hg _ _ _ => h.block g hg⟩
theorem But3.set {b0 b1 b2 b o : Nat} {w w' : World} (h : But3 b0 b1 b2 w w') (hb : b = b0 ∨ b = b1 ∨ b = b2) (v : Value) : But3 b0 b1 b2 w (w'.setCell ⟨b, o, none⟩ v) :=
  h.trans ⟨rfl, rfl, rfl, by simp [World.setCell], fun g _ n0 n1 n2 => Below.heap_setCell _ _ _ _ (by show g ≠ b; rcases hb with rfl | rfl | rfl <;> assumption)⟩
theorem But3.alloc {b0 b1 b2 : Nat} {w w' : World} (h : But3 b0 b1 b2 w w') (o : Obj) : But3 b0 b1 b2 w (w'.alloc o) := h.trans (But3.of_below ((Below.refl _ _).alloc (Nat.le_refl _) _))
theorem But3.drew {b0 b1 b2 : Nat} {w w' : World} (h : But3 b0 b1 b2 w w') : But3 b0 b1 b2 w w'.drew := h.trans ⟨rfl, rfl, rfl, Nat.le_refl _, fun _ _ _ _ _ => rfl⟩

set_option maxRecDepth 100000 in
set_option maxHeartbeats 4000000 in
theorem catch_fault (b0 b1 b2 : Nat) (e p : Int) (v0 v1 v2 : Value) (w : World) (h0 : Boxed w b0 23 v0) (h1 : Boxed w b1 24 v1) (h2 : Boxed w b2 3 v2) (n01 : b0 ≠ b1) (n02 : b0 ≠ b2) (n12 : b1 ≠ b2) :
    CallsD Tryz.prog 24 #[.pointer (some ⟨b0, 0, none⟩), .pointer (some ⟨b1, 0, none⟩), .pointer (some ⟨b2, 0, none⟩)] (.panicking (fault e p)) w fun r u' w' =>
      ((∃ v, r = .returned v) ∧ ∃ v, u' = .panicking [{ v, recovered := true }]) ∧ But3 b0 b1 b2 w w' ∧ Boxed w' b0 23 (.slice none 0 0) ∧ Boxed w' b1 24 (.int .i64 e) ∧ Boxed w' b2 3 (.int .i64 p) := by
  refine callsD_of_wpS Tryz.func24 rfl fun c₀ cs hu => ?_
  simp only [Tryz.ntmps24, List.size_toArray, List.length_cons, List.length_nil, Nat.reduceAdd, Nat.reduceSub, Array.replicate_succ, Array.replicate_zero, List.push_toArray, List.append_toArray, List.nil_append, List.cons_append]
  apply wpS_seq
  apply wpS_region
  show wpOpsS _ _ _ [0, 1, 2, 3, 4, 5, 6, 7] _ _ _
  refine wpOpsS_some (v := .iface 76 (.agg #[.int .i64 e, .int .i64 p])) (cs' := { c₀ with mode := .panicking [{ v := .iface 76 (.agg #[.int .i64 e, .int .i64 p]), recovered := true }] } :: cs) rfl rfl rfl (by simp [recoverD, hu, fault]) ?_
  refine wpOpsS_cons rfl rfl ?_
  simp [go_sem]
  refine (caught_fault e p w).mono ?_
  rintro r w1 ⟨rfl, hb1⟩
  simp only
  iterate 6 (refine wpOpsS_cons rfl rfl ?_; simp [go_sem])
  unfold wpOpsS
  simp only [Exit.thenS]
  refine wpS_of_wp ?_
  have l0 := h0.lt
  have l1 := h1.lt
  have l2 := h2.lt
  have g0 : Boxed w1 b0 23 v0 := (hb1.block _ l0).trans h0
  have g1 : Boxed w1 b1 24 v1 := (hb1.block _ l1).trans h1
  have g2 : Boxed w1 b2 3 v2 := (hb1.block _ l2).trans h2
  have m0 := g0.lt
  have m1 := g1.lt
  have m2 := g2.lt
  have c0 := g0.cell
  have c1 := g1.cell
  have c2 := g2.cell
  have f0 := g0.frozen
  have f1 := g1.frozen
  have f2 := g2.frozen
  have Hb1 : Hid (Below w.heap.size w w1) := hb1
  have G0 : Hid (Boxed w1 b0 23 v0) := g0
  have G1 : Hid (Boxed w1 b1 24 v1) := g1
  have G2 : Hid (Boxed w1 b2 3 v2) := g2
  have x0 : ¬ w1.heap.size = b0 := by omega
  have x1 : ¬ w1.heap.size = b1 := by omega
  have x2 : ¬ w1.heap.size = b2 := by omega
  clear g0 g1 g2 h0 h1 h2 hb1
  go_wp2_with fail
  go_region
  all_goals go_wp2
  refine ⟨rfl, .panicking [{ v := .iface 76 (.agg #[.int .i64 e, .int .i64 p]), recovered := true }], rfl, .tuple #[], by simp [results, Tryz.results24, go_sem], ⟨⟨_, rfl⟩, _, rfl⟩, ?_, ?_, ?_, ?_⟩
  · exact (((((But3.of_below Hb1.out).set (.inl rfl) _).set (.inr (.inl rfl)) _).set (.inr (.inr rfl)) _).alloc _).drew
  · exact (((G0.out.set (.slice none 0 0)).other n01 _).other n02 _).alloc _
  · exact (((G1.out.other n01.symm _).set (.int .i64 e)).other n12 _).alloc _
  · exact (((G2.out.other n02.symm _).other n12.symm _).set (.int .i64 p)).alloc _
end Go.Proofs.YtlpdfifjdlfpdaaGreatDoor
