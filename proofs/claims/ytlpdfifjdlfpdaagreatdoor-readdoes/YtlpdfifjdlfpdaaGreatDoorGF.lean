/- The reader's dotted.; The reader's dotted, whatever comes.; The reader's list. -/
import Derived.Test.YtlpdfifjdlfpdaaGreatDoorGE
import Derived.Deep.AppendLies
import Derived.Deep.Upon
/- The reader's dotted. -/
namespace Go.Proofs.YtlpdfifjdlfpdaaGreatDoor
open Go.RowKit

theorem wp_append_nothing {P : Program} (w : World) {o : Oper} {a : Act} {K : Act → World → Prop} {Q : Exit → Act → World → Prop} (s x : Operand) (t : TypeId)
    (ho : o.op = .call { callee := .builtin .append, args := #[s, x], argTypes := #[t, t] }) (e : TypeId) (i : TypeInfo) (ht : P.underlying t = some (.slice e)) (hi : P.info? e = some i) (base xa : Option Addr) (n c xc : Nat) (hle : n ≤ c)
    (hs : a.eval s = .slice base n c) (hx : a.eval x = .slice xa 0 xc) (h : K (a.put o.dst (.slice base n c)) w) : o.wp P a w K Q := by
  have hr : (Builtin.append_ #[t, t] o.type #[.slice base n c, .slice xa 0 xc]).run P w = .ok (.slice base n c) w := by
    refine run_append_nothing w t t o.type e i ht hi base n c hle _ ?_
    cases xa with
    | none => exact Src.ofNil w ht xc
    | some ad => exact Src.ofSlice w ht ad 0 xc [] (by simp) (fun j u hj => by simp at hj) (fun u hu => by cases hu)
  unfold Oper.wp execOp
  simp only [ho, resolve, invoke, builtin, Sem.run_bind, Sem.run_pure, Result.andThen_ok, List.map_toArray, List.map_cons, List.map_nil, hs, hx, hr]
  exact h
theorem step_append_nothing {P : Program} (w : World) {ops : Array Oper} {o : Oper} {a : Act} {K : Act → World → Prop} {Q : Exit → Act → World → Prop} {E : Prop} (hgd : o.guard = none) (s x : Operand) (t : TypeId)
    (ho : o.op = .call { callee := .builtin .append, args := #[s, x], argTypes := #[t, t] }) (e : TypeId) (i : TypeInfo) (ht : P.underlying t = some (.slice e)) (hi : P.info? e = some i) (base xa : Option Addr) (n c xc : Nat) (hle : n ≤ c)
    (hs : a.eval s = .slice base n c) (hx : a.eval x = .slice xa 0 xc) (h : K (a.put o.dst (.slice base n c)) w) :
    if Region.wanted o (yielded ops a.tmps) = true then Oper.wp P o a w K Q else E := by
  have hw : Region.wanted o (yielded ops a.tmps) = true := by simp [Region.wanted, hgd]
  rw [if_pos hw]
  exact wp_append_nothing w s x t ho e i ht hi base xa n c xc hle hs hx h

theorem stop_of {P : Prop} (h : Hid P) : P := h
theorem cell_five_new (W : World) (a0 a1 a2 a3 a4 : Value) (t : TypeId) (j : Nat) (u : Value) (h : [a0, a1, a2, a3, a4][j]? = some u) : (W.alloc (.cells #[a0, a1, a2, a3, a4] t)).cell? ((⟨W.heap.size, 0, none⟩ : Addr).add j) = some u := by
  have hn := World.alloc_heap_new W (.cells #[a0, a1, a2, a3, a4] t)
  have e : ((⟨W.heap.size, 0, none⟩ : Addr).add j) = ⟨W.heap.size, j, none⟩ := by simp [Addr.add]; exact fun h => h.symm
  rw [e]
  simp only [World.cell?, hn]
  simpa using h
theorem cell_five_at (W : World) (b : Nat) (hb : W.heap.size = b) (a0 a1 a2 a3 a4 : Value) (t : TypeId) (j : Nat) (u : Value) (h : [a0, a1, a2, a3, a4][j]? = some u) : (W.alloc (.cells #[a0, a1, a2, a3, a4] t)).cell? ((⟨b, 0, none⟩ : Addr).add j) = some u := by
  subst hb; exact cell_five_new W a0 a1 a2 a3 a4 t j u h
theorem add_block (g j : Nat) : ((⟨g, 0, none⟩ : Addr).add j).block = g := by unfold Addr.add; split <;> simp_all
theorem five_one (k n : Int) (t : List UInt8) (ra : Option Addr) (m c : Nat) (d : Bool) : ∀ u ∈ [Value.int .u8 k, .int .i64 n, S t, .slice ra m c, .bool d], u.oneCell' = true := by
  intro u hu
  simp only [List.mem_cons, List.not_mem_nil, or_false] at hu
  rcases hu with rfl | rfl | rfl | rfl | rfl <;> rfl
theorem infoDat : (Tryz.prog.info? 58).map (fun i => (i.zero, i.size, i.bytes)) = some (some (.agg #[.int .u8 0, .int .i64 0, .string ⟨#[]⟩, .slice none 0 0, .bool false]), 5, 64) := by kernel_rfl

set_option maxRecDepth 100000 in
set_option maxHeartbeats 4000000 in
theorem dotted_nil {rb tb T cap : Nat} {xs : List (Tok × Int)} (base : Nat) (w : World) (i o c cv : Nat) (ra : Option Addr) (x : Tok × Int) (ts' : List Tok) (hA : At rb tb T cap xs w i o c (x.1 :: ts')) (hx : xs[i]? = some x) (hbs : base ≤ w.heap.size) :
    Calls Tryz.prog 99 #[.pointer (some ⟨rb, 0, none⟩), .slice ra 0 cv] w (PostD base rb tb T cap o w (.bad 60 x.1.pos)) := by
  have HA : Hid (At rb tb T cap xs w i o c (x.1 :: ts')) := hA
  have Hx : Hid _ := hx
  have hlt := hA.reader.lt
  clear hA hx
  go_enter Tryz.func99, Tryz.ntmps99
  go_wp2_with fail
  refine (take_any rb tb T cap i o c xs _ _ (HA.out.alloc _).reader HA.out.hT (by have := HA.out.hTm; omega) (HA.out.alloc _).row Hx.out).mono ?_
  rintro e w1 ⟨rfl, hr1, hb1⟩
  have hl1 := hr1.lt
  go_wp2_with fail
  exact ⟨rfl, ((((But.refl _ _).alloc _).trans hb1).alloc _).b hbs, rfl, _, _, hr1.kept (Below.heap_alloc _ _ _ hl1)⟩

set_option maxRecDepth 100000 in
set_option maxHeartbeats 4000000 in
theorem dotted_bad {rb tb T cap : Nat} {xs : List (Tok × Int)} {N : Nat} (hD : DatumC rb tb T cap xs N) (base : Nat) (w : World) (i o c q cv : Nat) (ra : Option Addr) (x : Tok × Int) (ts' : List Tok) (hA : At rb tb T cap xs w i o c (x.1 :: ts')) (hx : xs[i]? = some x) (htl : (xs.drop (i + 1)).map Prod.fst = ts') (h4 : x.1.kind = 4) (hN : ts'.length ≤ N) (hbs : base ≤ w.heap.size)
    (e p : Int) (hX : rdf 0 ts' o c = .bad e p) :
    Calls Tryz.prog 99 #[.pointer (some ⟨rb, 0, none⟩), .slice ra (q + 1) cv] w (PostD base rb tb T cap o w (.bad e p)) := by
  have HA : Hid (At rb tb T cap xs w i o c (x.1 :: ts')) := hA
  have HD : Hid (DatumC rb tb T cap xs N) := hD
  have Hx : Hid _ := hx
  have HX : Hid _ := hX
  have hlt := hA.reader.lt
  have hE : Hid (Ended ts') := hA.ended.tail (by rw [h4]; decide)
  have Htl : Hid _ := htl
  clear hA hx hD hX htl h4
  go_enter Tryz.func99, Tryz.ntmps99
  go_wp2_with fail
  refine (take_any rb tb T cap i o c xs _ _ (HA.out.alloc _).reader HA.out.hT (by have := HA.out.hTm; omega) (HA.out.alloc _).row Hx.out).mono ?_
  rintro e w1 ⟨rfl, hr1, hb1⟩
  have hl1 := hr1.lt
  have B2 : But rb w (w1.alloc (.cells #[.int .u8 x.1.kind, S x.1.text, .int .i64 x.1.n, .int .i64 x.1.pos] 71)) := ((((But.refl _ _).alloc _).trans hb1).alloc _)
  have A2 := HA.out.moved (hr1.kept (Below.heap_alloc w1 (.cells #[.int .u8 x.1.kind, S x.1.text, .int .i64 x.1.n, .int .i64 x.1.pos] 71) _ hl1)) (B2.block _ HA.out.row.1 HA.out.ne.symm) B2.size Htl.out hE.out HA.out.ho HA.out.hc
  have HB2 : Hid _ := B2
  have HA2 : Hid _ := A2
  clear hb1 hr1 B2 A2
  go_wp2_with fail
  refine (HD.out _ (i + 1) o c ts' HA2.out hN).mono ?_
  rw [HX.out]
  rintro e' w3 ⟨hb3, rfl, i', c', hr3⟩
  go_wp2_with fail
  exact ⟨rfl, (HB2.out.trans hb3.but).b hbs, rfl, i', c', hr3⟩
/- GENERATED -/
set_option maxRecDepth 100000 in
set_option maxHeartbeats 4000000 in
theorem dotted_form {rb tb T cap : Nat} {xs : List (Tok × Int)} {N : Nat} (hD : DatumC rb tb T cap xs N) (base : Nat) (w : World) (i o c q cv : Nat) (ra : Option Addr) (x : Tok × Int) (ts' : List Tok) (hA : At rb tb T cap xs w i o c (x.1 :: ts')) (hx : xs[i]? = some x) (htl : (xs.drop (i + 1)).map Prod.fst = ts') (h4 : x.1.kind = 4) (hN : ts'.length ≤ N) (hbs : base ≤ w.heap.size)
    (k n : Int) (t : List UInt8) (s : Fo) (d d0 : Bool) (t1 : Tok) (r1 : List Tok) (c' : Nat) (hX : rdf 0 ts' o c = .ok (.cons k n t s d .nil) d0 (t1 :: r1) c') (h1 : ¬ t1.kind = 2) :
    Calls Tryz.prog 99 #[.pointer (some ⟨rb, 0, none⟩), .slice ra (q + 1) cv] w (PostD base rb tb T cap o w (.bad 60 t1.pos)) := by
  have HA : Hid (At rb tb T cap xs w i o c (x.1 :: ts')) := hA
  have HD : Hid (DatumC rb tb T cap xs N) := hD
  have Hx : Hid _ := hx
  have HX : Hid _ := hX
  have hlt := hA.reader.lt
  have hE : Hid (Ended ts') := hA.ended.tail (by rw [h4]; decide)
  have Htl : Hid _ := htl
  have HG : Hid (Good 0 ts' (.cons k n t s d .nil) (t1 :: r1) c c') := rdf_good hX
  clear hA hx hD hX htl h4
  go_enter Tryz.func99, Tryz.ntmps99
  go_wp2_with fail
  refine (take_any rb tb T cap i o c xs _ _ (HA.out.alloc _).reader HA.out.hT (by have := HA.out.hTm; omega) (HA.out.alloc _).row Hx.out).mono ?_
  rintro e w1 ⟨rfl, hr1, hb1⟩
  have hl1 := hr1.lt
  have q1 : w1.heap[w.heap.size]? = some Z5 := (hb1.block _ (by simp) (by omega)).trans (World.alloc_heap_new _ _)
  have lq1 := (Array.getElem?_eq_some_iff.1 q1).1
  have q2 := (Below.heap_alloc w1 (.cells #[.int .u8 x.1.kind, S x.1.text, .int .i64 x.1.n, .int .i64 x.1.pos] 71) _ lq1).trans q1
  have B2 : But rb w (w1.alloc (.cells #[.int .u8 x.1.kind, S x.1.text, .int .i64 x.1.n, .int .i64 x.1.pos] 71)) := ((((But.refl _ _).alloc _).trans hb1).alloc _)
  have A2 := HA.out.moved (hr1.kept (Below.heap_alloc w1 (.cells #[.int .u8 x.1.kind, S x.1.text, .int .i64 x.1.n, .int .i64 x.1.pos] 71) _ hl1)) (B2.block _ HA.out.row.1 HA.out.ne.symm) B2.size Htl.out hE.out HA.out.ho HA.out.hc
  have HB2 : Hid (But rb w (w1.alloc (.cells #[.int .u8 x.1.kind, S x.1.text, .int .i64 x.1.n, .int .i64 x.1.pos] 71))) := B2
  have HA2 : Hid (At rb tb T cap xs (w1.alloc (.cells #[.int .u8 x.1.kind, S x.1.text, .int .i64 x.1.n, .int .i64 x.1.pos] 71)) (i + 1) o c ts') := A2
  have HQ2 : Hid _ := q2
  have hs1 : w.heap.size < w1.heap.size := lq1
  clear hb1 hr1 B2 A2 q1 q2 lq1
  go_wp2_with fail
  refine (HD.out _ (i + 1) o c ts' HA2.out hN).mono ?_
  rw [HX.out]
  rintro e' w3 ⟨hb3, k', n', t', s', d', kv, hf, rfl, hr3, hT3⟩
  cases hf
  obtain ⟨ra3, cap3, rfl⟩ := hT3.slice
  have lq2 := (Array.getElem?_eq_some_iff.1 HQ2.out).1
  have q3 : w3.heap[w.heap.size]? = some Z5 := (hb3.block _ lq2 (by omega)).trans HQ2.out
  have B3 : But rb w w3 := HB2.out.trans hb3.but
  have ls3 : w1.heap.size + 1 ≤ w3.heap.size := by have := hb3.size; simpa using this
  have hc' : c' ≤ 10000 := HG.out.much HA.out.hc
  obtain ⟨qq, eqq, _⟩ := HG.out.suf
  have A3 : At rb tb T cap xs w3 (T - (t1 :: r1).length) o c' (t1 :: r1) := HA.out.moved hr3 (B3.block _ HA.out.row.1 HA.out.ne.symm) B3.size (HA2.out.rest eqq).1 (HG.out.ended (by decide) hE.out) HA.out.ho hc'
  obtain ⟨x1, r1', hx1, hcons, htl1, hlen1⟩ := A3.head
  obtain ⟨rfl, rfl⟩ : t1 = x1.1 ∧ r1 = r1' := by simpa using hcons
  have hT3' : Tree w3 (w1.heap.size + 1) (.slice ra3 s.len cap3) s := by simpa using hT3
  have HT3 : Hid (Tree w3 (w1.heap.size + 1) (.slice ra3 s.len cap3) s) := hT3'
  have HB3 : Hid (But rb w w3) := B3
  have HA3 : Hid (At rb tb T cap xs w3 (T - (x1.1 :: r1).length) o c' (x1.1 :: r1)) := A3
  have Hx1 : Hid _ := hx1
  have HQ3 : Hid (w3.heap[w.heap.size]? = some Z5) := q3
  clear hb3 hr3 hT3 hT3' q3 B3 A3 hx1 hcons lq2 hc' eqq
  go_wp2_with fail
  refine (take_any rb tb T cap _ o c' xs _ _ (HA3.out.alloc _).reader HA3.out.hT (by have := HA3.out.hTm; omega) (HA3.out.alloc _).row Hx1.out).mono ?_
  rintro e w4 ⟨rfl, hr4, hb4⟩
  have hl4 := hr4.lt
  have ls4 : w3.heap.size + 1 ≤ w4.heap.size := by have := hb4.size; simpa using this
  have p4 : w4.heap[w3.heap.size]? = some (.cells #[.int .u8 k, .int .i64 n, S t, .slice ra3 s.len cap3, .bool d] 58 (0, 0)) := (hb4.block _ (by simp) (by omega)).trans (World.alloc_heap_new _ _)
  have HB4 : Hid (But rb w w4) := (HB3.out.alloc _).trans hb4
  have Hk4 : Hid (∀ g, g < w3.heap.size → g ≠ rb → w4.heap[g]? = w3.heap[g]?) := fun g hg hne => (hb4.block g (by simp; omega) hne).trans (Below.heap_alloc _ _ _ hg)
  have Hr4 : Hid _ := hr4
  clear hr4 hb4
  have b2 : (x1.1.kind == 2) = false := beq_eq_false_iff_ne.2 h1
  clear h1 p4
  go_wp2_with fail
  exact ⟨rfl, (HB4.out.alloc _).b hbs, rfl, _, _, Hr4.out.kept (Below.heap_alloc _ _ _ hl4)⟩

set_option maxRecDepth 100000 in
set_option maxHeartbeats 4000000 in
theorem dotted_atom {rb tb T cap : Nat} {xs : List (Tok × Int)} {N : Nat} (hD : DatumC rb tb T cap xs N) (base : Nat) (w : World) (i o c q cv : Nat) (ra : Option Addr) (x : Tok × Int) (ts' : List Tok) (hA : At rb tb T cap xs w i o c (x.1 :: ts')) (hx : xs[i]? = some x) (htl : (xs.drop (i + 1)).map Prod.fst = ts') (h4 : x.1.kind = 4) (hN : ts'.length ≤ N) (hbs : base ≤ w.heap.size)
    (k n : Int) (t : List UInt8) (s : Fo) (d d0 : Bool) (t1 : Tok) (r1 : List Tok) (c' : Nat) (hX : rdf 0 ts' o c = .ok (.cons k n t s d .nil) d0 (t1 :: r1) c') (h1 : t1.kind = 2) (h5 : ¬ k = 5) (f : Fo) (hT : Tree w base (.slice ra (q + 1) cv) f) (hf : f.len = q + 1) (hrb : rb < base) (hqm : q ≤ 100000) :
    Calls Tryz.prog 99 #[.pointer (some ⟨rb, 0, none⟩), .slice ra (q + 1) cv] w (PostD base rb tb T cap o w ((Res.behind f (.ok (.cons k n t s d .nil) true r1 c')).list)) := by
  have H5 : Hid _ := h5
  have HT : Hid (Tree w base (.slice ra (q + 1) cv) f) := hT
  clear h5 hT
  obtain ⟨i0, hi0, hz0, hz1, hz2⟩ := info_parts infoDat
  have HA : Hid (At rb tb T cap xs w i o c (x.1 :: ts')) := hA
  have HD : Hid (DatumC rb tb T cap xs N) := hD
  have Hx : Hid _ := hx
  have HX : Hid _ := hX
  have hlt := hA.reader.lt
  have hE : Hid (Ended ts') := hA.ended.tail (by rw [h4]; decide)
  have Htl : Hid _ := htl
  have HG : Hid (Good 0 ts' (.cons k n t s d .nil) (t1 :: r1) c c') := rdf_good hX
  clear hA hx hD hX htl h4
  go_enter Tryz.func99, Tryz.ntmps99
  go_wp2_with fail
  refine (take_any rb tb T cap i o c xs _ _ (HA.out.alloc _).reader HA.out.hT (by have := HA.out.hTm; omega) (HA.out.alloc _).row Hx.out).mono ?_
  rintro e w1 ⟨rfl, hr1, hb1⟩
  have hl1 := hr1.lt
  have q1 : w1.heap[w.heap.size]? = some Z5 := (hb1.block _ (by simp) (by omega)).trans (World.alloc_heap_new _ _)
  have lq1 := (Array.getElem?_eq_some_iff.1 q1).1
  have q2 := (Below.heap_alloc w1 (.cells #[.int .u8 x.1.kind, S x.1.text, .int .i64 x.1.n, .int .i64 x.1.pos] 71) _ lq1).trans q1
  have B2 : But rb w (w1.alloc (.cells #[.int .u8 x.1.kind, S x.1.text, .int .i64 x.1.n, .int .i64 x.1.pos] 71)) := ((((But.refl _ _).alloc _).trans hb1).alloc _)
  have A2 := HA.out.moved (hr1.kept (Below.heap_alloc w1 (.cells #[.int .u8 x.1.kind, S x.1.text, .int .i64 x.1.n, .int .i64 x.1.pos] 71) _ hl1)) (B2.block _ HA.out.row.1 HA.out.ne.symm) B2.size Htl.out hE.out HA.out.ho HA.out.hc
  have HB2 : Hid (But rb w (w1.alloc (.cells #[.int .u8 x.1.kind, S x.1.text, .int .i64 x.1.n, .int .i64 x.1.pos] 71))) := B2
  have HA2 : Hid (At rb tb T cap xs (w1.alloc (.cells #[.int .u8 x.1.kind, S x.1.text, .int .i64 x.1.n, .int .i64 x.1.pos] 71)) (i + 1) o c ts') := A2
  have HQ2 : Hid _ := q2
  have hs1 : w.heap.size < w1.heap.size := lq1
  clear hb1 hr1 B2 A2 q1 q2 lq1
  go_wp2_with fail
  refine (HD.out _ (i + 1) o c ts' HA2.out hN).mono ?_
  rw [HX.out]
  rintro e' w3 ⟨hb3, k', n', t', s', d', kv, hf, rfl, hr3, hT3⟩
  cases hf
  obtain ⟨ra3, cap3, rfl⟩ := hT3.slice
  have lq2 := (Array.getElem?_eq_some_iff.1 HQ2.out).1
  have q3 : w3.heap[w.heap.size]? = some Z5 := (hb3.block _ lq2 (by omega)).trans HQ2.out
  have B3 : But rb w w3 := HB2.out.trans hb3.but
  have ls3 : w1.heap.size + 1 ≤ w3.heap.size := by have := hb3.size; simpa using this
  have hc' : c' ≤ 10000 := HG.out.much HA.out.hc
  obtain ⟨qq, eqq, _⟩ := HG.out.suf
  have A3 : At rb tb T cap xs w3 (T - (t1 :: r1).length) o c' (t1 :: r1) := HA.out.moved hr3 (B3.block _ HA.out.row.1 HA.out.ne.symm) B3.size (HA2.out.rest eqq).1 (HG.out.ended (by decide) hE.out) HA.out.ho hc'
  obtain ⟨x1, r1', hx1, hcons, htl1, hlen1⟩ := A3.head
  obtain ⟨rfl, rfl⟩ : t1 = x1.1 ∧ r1 = r1' := by simpa using hcons
  have hT3' : Tree w3 (w1.heap.size + 1) (.slice ra3 s.len cap3) s := by simpa using hT3
  have HT3 : Hid (Tree w3 (w1.heap.size + 1) (.slice ra3 s.len cap3) s) := hT3'
  have HB3 : Hid (But rb w w3) := B3
  have HA3 : Hid (At rb tb T cap xs w3 (T - (x1.1 :: r1).length) o c' (x1.1 :: r1)) := A3
  have Hx1 : Hid _ := hx1
  have HQ3 : Hid (w3.heap[w.heap.size]? = some Z5) := q3
  clear hb3 hr3 hT3 hT3' q3 B3 A3 hx1 hcons lq2 hc' eqq
  go_wp2_with fail
  refine (take_any rb tb T cap _ o c' xs _ _ (HA3.out.alloc _).reader HA3.out.hT (by have := HA3.out.hTm; omega) (HA3.out.alloc _).row Hx1.out).mono ?_
  rintro e w4 ⟨rfl, hr4, hb4⟩
  have hl4 := hr4.lt
  have ls4 : w3.heap.size + 1 ≤ w4.heap.size := by have := hb4.size; simpa using this
  have p4 : w4.heap[w3.heap.size]? = some (.cells #[.int .u8 k, .int .i64 n, S t, .slice ra3 s.len cap3, .bool d] 58 (0, 0)) := (hb4.block _ (by simp) (by omega)).trans (World.alloc_heap_new _ _)
  have HB4 : Hid (But rb w w4) := (HB3.out.alloc _).trans hb4
  have Hk4 : Hid (∀ g, g < w3.heap.size → g ≠ rb → w4.heap[g]? = w3.heap[g]?) := fun g hg hne => (hb4.block g (by simp; omega) hne).trans (Below.heap_alloc _ _ _ hg)
  have Hr4 : Hid _ := hr4
  clear hr4 hb4
  have b5 : (k == 5) = false := beq_eq_false_iff_ne.2 H5.out
  have l34 : w3.heap.size < w4.heap.size := by omega
  have c0 : x1.1.kind = 2 := h1
  obtain ⟨cs, bs, ho, hr, hnd⟩ := HT.out.ex
  rw [hf] at ho
  have hkeep : ∀ g, base ≤ g → g < w.heap.size → w4.heap[g]? = w.heap[g]? := fun g hg hg' => HB4.out.block g hg' (by omega)
  have Hr5 : Hid (Row w4 base f cs bs) := hr.kept (fun g hg => hkeep g (hr.lt g hg).1 (hr.lt g hg).2)
  have Ho5 : Hid (w4.ownsRow base 58 5 (.slice ra (q + 1) cv) (q + 1) cs) := own_same ho (fun g hg => hkeep g (ho.lt g hg).1 (ho.lt g hg).2)
  have vlt : Hid (∀ g, (Value.slice ra (q + 1) cv).ownBlock = some g → g < w.heap.size) := fun g hg => (ho.lt g hg).2
  have HTB : Hid (∀ g, (Value.slice ra (q + 1) cv).ownBlock = some g → base ≤ g) := fun g hg => (ho.lt g hg).1
  have blt : Hid (∀ g ∈ bs, g < w.heap.size) := fun g hg => (hr.lt g hg).2
  obtain ⟨ncs, nbs, nho, nhr, nnd⟩ := HT3.out.ex
  have nkeep : ∀ g, w1.heap.size + 1 ≤ g → g < w3.heap.size → w4.heap[g]? = w3.heap[g]? := fun g hg hg' => Hk4.out g hg' (by omega)
  have Hn5 : Hid (Row w4 (w1.heap.size + 1) (.cons k n t s d .nil) [.int .u8 k, .int .i64 n, S t, .slice ra3 s.len cap3, .bool d] (own1 (.slice ra3 s.len cap3) ++ nbs)) := Row.single (own_same nho (fun g hg => nkeep g (nho.lt g hg).1 (nho.lt g hg).2)) (nhr.kept (fun g hg => nkeep g (nhr.lt g hg).1 (nhr.lt g hg).2))
  have HQ4 : Hid (w4.heap[w.heap.size]? = some Z5) := (Hk4.out _ (by omega) (by omega)).trans HQ3.out
  have Hnd : Hid ((own1 (.slice ra (q + 1) cv) ++ bs).Nodup) := hnd
  have Hnnd : Hid ((own1 (.slice ra3 s.len cap3) ++ nbs).Nodup) := nnd
  obtain ⟨p0, p1, p2, p3, p4', pf⟩ := cells5 p4
  clear h1 pf p4 ho hr hkeep nkeep nho nhr hnd nnd
  go_wp2_with (at_builtin; refine stop_of ?_)
  unfold Hid
  refine wpList_append_lies _ rfl _ _ 23 rfl base 58 i0 (.agg #[.int .u8 0, .int .i64 0, .string ⟨#[]⟩, .slice none 0 0, .bool false]) 5 64 Tryz.underlying23 hi0 hz0 hz1 hz2 rfl (by decide) (.slice ra (q + 1) cv) (q + 1) cs rfl ((Ho5.out.alloc _).alloc _) ⟨_, 0, none⟩ 1 1 [.int .u8 k, .int .i64 n, S t, .slice ra3 s.len cap3, .bool d] rfl rfl (cell_five_at _ _ (by simp) _ _ _ _ _ _) (five_one _ _ _ _ _ _ _) (by omega) (by unfold maxLen; omega) (by omega) (by simp; omega) _ rfl ?_
  intro g cap6 w6 hown hgr hat hlt6
  have q6 : w6.heap[w.heap.size]? = some Z5 := (hgr.block _ (by simp; omega) (fun e => by have := vlt.out _ e.symm; omega)).trans ((Below.heap_alloc _ _ _ (by simp; omega)).trans ((Below.heap_alloc _ _ _ (by omega)).trans HQ4.out))
  obtain ⟨z0, z1, z2, z3, z4, zf⟩ := cells5 q6
  have zf0 := zf 0
  have zf1 := zf 1
  have zf2 := zf 2
  have zf3 := zf 3
  have zf4 := zf 4
  clear zf
  go_wp2_with fail
  obtain ⟨hTr, hsame⟩ := grow_tree (rblk := w.heap.size) (fun g hg => (Below.heap_alloc _ _ _ (by simp; omega)).trans (Below.heap_alloc _ _ _ hg)) (by simp; omega) Ho5.out Hr5.out Hnd.out Hn5.out Hnnd.out (Nat.le_trans hbs (Nat.le_of_lt (Nat.lt_succ_of_lt hs1))) vlt.out blt.out (Nat.lt_succ_of_lt hs1) (Nat.lt_of_lt_of_le (Nat.lt_trans hs1 ls3) (Nat.le_of_lt l34)) hf rfl hown hgr hat
  have HTr : Hid _ := hTr
  have HQ6 : Hid _ := q6
  have hl6 : w.heap.size < w6.heap.size := (Array.getElem?_eq_some_iff.1 q6).1
  have hr6 : Rb w6 rb tb T cap (T - (x1.1 :: r1).length + 1) o c' := Hr4.out.kept (hsame _ hl4 (fun e => by have := HTB.out _ e; omega))
  have hb6 : ButB base rb w w6 := (HB4.out.b hbs).trans ⟨hgr.os, hgr.tape, hgr.output, by have := hgr.size; simp at this; omega, fun y hy _ => hsame y (by omega) (fun e => by have := HTB.out _ e; omega)⟩
  clear z0 z1 z2 z3 z4 zf0 zf1 zf2 zf3 zf4 hgr hown hat hTr hsame q6
  refine bodyPost_five (s := 4) rfl rfl rfl HQ6.out fun W5 o5 b5 => ?_
  refine ⟨hb6.trans (b5 _ _ hbs), 5, 0, [], f.app (.cons k n t s d .nil), true, _, rfl, rfl, ?_, HTr.out _ o5⟩
  rw [show T - r1.length = T - (x1.1 :: r1).length + 1 by simp only [List.length_cons]; omega]
  exact hr6.kept (o5 _ (by omega))

set_option maxRecDepth 100000 in
set_option maxHeartbeats 4000000 in
theorem dotted_list0 {rb tb T cap : Nat} {xs : List (Tok × Int)} {N : Nat} (hD : DatumC rb tb T cap xs N) (base : Nat) (w : World) (i o c q cv : Nat) (ra : Option Addr) (x : Tok × Int) (ts' : List Tok) (hA : At rb tb T cap xs w i o c (x.1 :: ts')) (hx : xs[i]? = some x) (htl : (xs.drop (i + 1)).map Prod.fst = ts') (h4 : x.1.kind = 4) (hN : ts'.length ≤ N) (hbs : base ≤ w.heap.size)
    (k n : Int) (t : List UInt8) (s : Fo) (d d0 : Bool) (t1 : Tok) (r1 : List Tok) (c' : Nat) (hX : rdf 0 ts' o c = .ok (.cons k n t s d .nil) d0 (t1 :: r1) c') (h1 : t1.kind = 2) (h5 : k = 5) (f : Fo) (hT : Tree w base (.slice ra (q + 1) cv) f) (hf : f.len = q + 1) (hrb : rb < base) (hqm : q ≤ 100000) (hs0 : s.len = 0) :
    Calls Tryz.prog 99 #[.pointer (some ⟨rb, 0, none⟩), .slice ra (q + 1) cv] w (PostD base rb tb T cap o w ((Res.behind f (.ok s d r1 c')).list)) := by
  have HT : Hid (Tree w base (.slice ra (q + 1) cv) f) := hT
  clear hT
  have b5 : (k == 5) = true := beq_iff_eq.2 h5
  have H5 : Hid _ := h5
  have Hs0 : Hid _ := hs0
  clear h5 hs0
  obtain ⟨i0, hi0, hz0, hz1, hz2⟩ := info_parts infoDat
  have HA : Hid (At rb tb T cap xs w i o c (x.1 :: ts')) := hA
  have HD : Hid (DatumC rb tb T cap xs N) := hD
  have Hx : Hid _ := hx
  have HX : Hid _ := hX
  have hlt := hA.reader.lt
  have hE : Hid (Ended ts') := hA.ended.tail (by rw [h4]; decide)
  have Htl : Hid _ := htl
  have HG : Hid (Good 0 ts' (.cons k n t s d .nil) (t1 :: r1) c c') := rdf_good hX
  clear hA hx hD hX htl h4
  go_enter Tryz.func99, Tryz.ntmps99
  go_wp2_with fail
  refine (take_any rb tb T cap i o c xs _ _ (HA.out.alloc _).reader HA.out.hT (by have := HA.out.hTm; omega) (HA.out.alloc _).row Hx.out).mono ?_
  rintro e w1 ⟨rfl, hr1, hb1⟩
  have hl1 := hr1.lt
  have q1 : w1.heap[w.heap.size]? = some Z5 := (hb1.block _ (by simp) (by omega)).trans (World.alloc_heap_new _ _)
  have lq1 := (Array.getElem?_eq_some_iff.1 q1).1
  have q2 := (Below.heap_alloc w1 (.cells #[.int .u8 x.1.kind, S x.1.text, .int .i64 x.1.n, .int .i64 x.1.pos] 71) _ lq1).trans q1
  have B2 : But rb w (w1.alloc (.cells #[.int .u8 x.1.kind, S x.1.text, .int .i64 x.1.n, .int .i64 x.1.pos] 71)) := ((((But.refl _ _).alloc _).trans hb1).alloc _)
  have A2 := HA.out.moved (hr1.kept (Below.heap_alloc w1 (.cells #[.int .u8 x.1.kind, S x.1.text, .int .i64 x.1.n, .int .i64 x.1.pos] 71) _ hl1)) (B2.block _ HA.out.row.1 HA.out.ne.symm) B2.size Htl.out hE.out HA.out.ho HA.out.hc
  have HB2 : Hid (But rb w (w1.alloc (.cells #[.int .u8 x.1.kind, S x.1.text, .int .i64 x.1.n, .int .i64 x.1.pos] 71))) := B2
  have HA2 : Hid (At rb tb T cap xs (w1.alloc (.cells #[.int .u8 x.1.kind, S x.1.text, .int .i64 x.1.n, .int .i64 x.1.pos] 71)) (i + 1) o c ts') := A2
  have HQ2 : Hid _ := q2
  have hs1 : w.heap.size < w1.heap.size := lq1
  clear hb1 hr1 B2 A2 q1 q2 lq1
  go_wp2_with fail
  refine (HD.out _ (i + 1) o c ts' HA2.out hN).mono ?_
  rw [HX.out]
  rintro e' w3 ⟨hb3, k', n', t', s', d', kv, hf, rfl, hr3, hT3⟩
  cases hf
  obtain ⟨ra3, cap3, rfl⟩ := hT3.slice
  have lq2 := (Array.getElem?_eq_some_iff.1 HQ2.out).1
  have q3 : w3.heap[w.heap.size]? = some Z5 := (hb3.block _ lq2 (by omega)).trans HQ2.out
  have B3 : But rb w w3 := HB2.out.trans hb3.but
  have ls3 : w1.heap.size + 1 ≤ w3.heap.size := by have := hb3.size; simpa using this
  have hc' : c' ≤ 10000 := HG.out.much HA.out.hc
  obtain ⟨qq, eqq, _⟩ := HG.out.suf
  have A3 : At rb tb T cap xs w3 (T - (t1 :: r1).length) o c' (t1 :: r1) := HA.out.moved hr3 (B3.block _ HA.out.row.1 HA.out.ne.symm) B3.size (HA2.out.rest eqq).1 (HG.out.ended (by decide) hE.out) HA.out.ho hc'
  obtain ⟨x1, r1', hx1, hcons, htl1, hlen1⟩ := A3.head
  obtain ⟨rfl, rfl⟩ : t1 = x1.1 ∧ r1 = r1' := by simpa using hcons
  have hT3' : Tree w3 (w1.heap.size + 1) (.slice ra3 s.len cap3) s := by simpa using hT3
  have HT3 : Hid (Tree w3 (w1.heap.size + 1) (.slice ra3 s.len cap3) s) := hT3'
  have HB3 : Hid (But rb w w3) := B3
  have HA3 : Hid (At rb tb T cap xs w3 (T - (x1.1 :: r1).length) o c' (x1.1 :: r1)) := A3
  have Hx1 : Hid _ := hx1
  have HQ3 : Hid (w3.heap[w.heap.size]? = some Z5) := q3
  clear hb3 hr3 hT3 hT3' q3 B3 A3 hx1 hcons lq2 hc' eqq
  go_wp2_with fail
  refine (take_any rb tb T cap _ o c' xs _ _ (HA3.out.alloc _).reader HA3.out.hT (by have := HA3.out.hTm; omega) (HA3.out.alloc _).row Hx1.out).mono ?_
  rintro e w4 ⟨rfl, hr4, hb4⟩
  have hl4 := hr4.lt
  have ls4 : w3.heap.size + 1 ≤ w4.heap.size := by have := hb4.size; simpa using this
  have p4 : w4.heap[w3.heap.size]? = some (.cells #[.int .u8 k, .int .i64 n, S t, .slice ra3 s.len cap3, .bool d] 58 (0, 0)) := (hb4.block _ (by simp) (by omega)).trans (World.alloc_heap_new _ _)
  have HB4 : Hid (But rb w w4) := (HB3.out.alloc _).trans hb4
  have Hk4 : Hid (∀ g, g < w3.heap.size → g ≠ rb → w4.heap[g]? = w3.heap[g]?) := fun g hg hne => (hb4.block g (by simp; omega) hne).trans (Below.heap_alloc _ _ _ hg)
  have Hr4 : Hid _ := hr4
  clear hr4 hb4
  have l34 : w3.heap.size < w4.heap.size := by omega
  have c0 : x1.1.kind = 2 := h1
  obtain ⟨cs, bs, ho, hr, hnd⟩ := HT.out.ex
  rw [hf] at ho
  have hkeep : ∀ g, base ≤ g → g < w.heap.size → w4.heap[g]? = w.heap[g]? := fun g hg hg' => HB4.out.block g hg' (by omega)
  have Hr5 : Hid (Row w4 base f cs bs) := hr.kept (fun g hg => hkeep g (hr.lt g hg).1 (hr.lt g hg).2)
  have Ho5 : Hid (w4.ownsRow base 58 5 (.slice ra (q + 1) cv) (q + 1) cs) := own_same ho (fun g hg => hkeep g (ho.lt g hg).1 (ho.lt g hg).2)
  have vlt : Hid (∀ g, (Value.slice ra (q + 1) cv).ownBlock = some g → g < w.heap.size) := fun g hg => (ho.lt g hg).2
  have HTB : Hid (∀ g, (Value.slice ra (q + 1) cv).ownBlock = some g → base ≤ g) := fun g hg => (ho.lt g hg).1
  have blt : Hid (∀ g ∈ bs, g < w.heap.size) := fun g hg => (hr.lt g hg).2
  have Hnd : Hid ((own1 (.slice ra (q + 1) cv) ++ bs).Nodup) := hnd
  have HQ4 : Hid (w4.heap[w.heap.size]? = some Z5) := (Hk4.out _ (by omega) (by omega)).trans HQ3.out
  obtain ⟨z0, z1, z2, z3, z4, zf⟩ := cells5 HQ4.out
  have zf0 := zf 0
  have zf1 := zf 1
  have zf2 := zf 2
  have zf3 := zf 3
  have zf4 := zf 4
  obtain ⟨p0, p1, p2, p3, p4', pf⟩ := cells5 p4
  have lr4 : w.heap.size < w4.heap.size := by omega
  have lr5 : w.heap.size < w4.heap.size + 1 := by omega
  have ne3 : ¬ w3.heap.size = w.heap.size := by omega
  have ne3' : ¬ w.heap.size = w3.heap.size := by omega
  have l35 : w3.heap.size < w4.heap.size + 1 := by omega
  have hle : q + 1 ≤ cv := by
    rcases ho.2 with ⟨_, h0⟩ | ⟨g, cp, cur, hv, _, _, hc, _⟩
    · omega
    · cases hv; exact hc
  clear h1 pf p4 ho hr hkeep hnd zf
  rw [Hs0.out] at p3
  go_wp2_with fail
  go_region_held3 (fun wx => wx.cell? ⟨w3.heap.size, 3, none⟩ = some (.slice ra3 0 cap3) ∧ wx.cell? ⟨w3.heap.size, 4, none⟩ = some (.bool d)) (go_keep)
    (first | (refine step_append_nothing _ (by rfl) _ _ 23 (by rfl) 58 i0 Tryz.underlying23 hi0 ra ra3 (q + 1) cv cap3 hle rfl rfl ?_))
  go_wp2_with fail
  refine bodyPost_fiveA (s := 4) rfl rfl rfl HQ4.out fun W5 o5 b5 => ?_
  have hsn : s = .nil := Fo.len0 Hs0.out
  refine ⟨(HB4.out.b hbs).trans (b5 _ _ hbs), 5, 0, [], f.app s, d, _, rfl, rfl, ?_, ?_⟩
  · rw [show T - r1.length = T - (x1.1 :: r1).length + 1 by simp only [List.length_cons]; omega]
    exact Hr4.out.kept (o5 _ hl4 (by omega))
  · rw [hsn, Fo.app_nil]
    refine tree_kept ⟨by rw [hf]; exact Ho5.out, Hr5.out, Hnd.out⟩ (fun y hy => ?_)
    have hy' : y < w.heap.size := by
      rcases List.mem_append.1 hy with h | h
      · exact vlt.out y (mem_own1.1 h)
      · exact blt.out y h
    exact o5 y (by omega) (by omega)

set_option maxRecDepth 100000 in
set_option maxHeartbeats 4000000 in
theorem dotted_list1 {rb tb T cap : Nat} {xs : List (Tok × Int)} {N : Nat} (hD : DatumC rb tb T cap xs N) (base : Nat) (w : World) (i o c q cv : Nat) (ra : Option Addr) (x : Tok × Int) (ts' : List Tok) (hA : At rb tb T cap xs w i o c (x.1 :: ts')) (hx : xs[i]? = some x) (htl : (xs.drop (i + 1)).map Prod.fst = ts') (h4 : x.1.kind = 4) (hN : ts'.length ≤ N) (hbs : base ≤ w.heap.size)
    (k n : Int) (t : List UInt8) (s : Fo) (d d0 : Bool) (t1 : Tok) (r1 : List Tok) (c' : Nat) (hX : rdf 0 ts' o c = .ok (.cons k n t s d .nil) d0 (t1 :: r1) c') (h1 : t1.kind = 2) (h5 : k = 5) (f : Fo) (hT : Tree w base (.slice ra (q + 1) cv) f) (hf : f.len = q + 1) (hrb : rb < base) (hqm : q ≤ 100000) (hs0 : 0 < s.len) (hsm : s.len ≤ 100000) :
    Calls Tryz.prog 99 #[.pointer (some ⟨rb, 0, none⟩), .slice ra (q + 1) cv] w (PostD base rb tb T cap o w ((Res.behind f (.ok s d r1 c')).list)) := by
  have HT : Hid (Tree w base (.slice ra (q + 1) cv) f) := hT
  clear hT
  have b5 : (k == 5) = true := beq_iff_eq.2 h5
  have H5 : Hid _ := h5
  clear h5
  obtain ⟨i0, hi0, hz0, hz1, hz2⟩ := info_parts infoDat
  have HA : Hid (At rb tb T cap xs w i o c (x.1 :: ts')) := hA
  have HD : Hid (DatumC rb tb T cap xs N) := hD
  have Hx : Hid _ := hx
  have HX : Hid _ := hX
  have hlt := hA.reader.lt
  have hE : Hid (Ended ts') := hA.ended.tail (by rw [h4]; decide)
  have Htl : Hid _ := htl
  have HG : Hid (Good 0 ts' (.cons k n t s d .nil) (t1 :: r1) c c') := rdf_good hX
  clear hA hx hD hX htl h4
  go_enter Tryz.func99, Tryz.ntmps99
  go_wp2_with fail
  refine (take_any rb tb T cap i o c xs _ _ (HA.out.alloc _).reader HA.out.hT (by have := HA.out.hTm; omega) (HA.out.alloc _).row Hx.out).mono ?_
  rintro e w1 ⟨rfl, hr1, hb1⟩
  have hl1 := hr1.lt
  have q1 : w1.heap[w.heap.size]? = some Z5 := (hb1.block _ (by simp) (by omega)).trans (World.alloc_heap_new _ _)
  have lq1 := (Array.getElem?_eq_some_iff.1 q1).1
  have q2 := (Below.heap_alloc w1 (.cells #[.int .u8 x.1.kind, S x.1.text, .int .i64 x.1.n, .int .i64 x.1.pos] 71) _ lq1).trans q1
  have B2 : But rb w (w1.alloc (.cells #[.int .u8 x.1.kind, S x.1.text, .int .i64 x.1.n, .int .i64 x.1.pos] 71)) := ((((But.refl _ _).alloc _).trans hb1).alloc _)
  have A2 := HA.out.moved (hr1.kept (Below.heap_alloc w1 (.cells #[.int .u8 x.1.kind, S x.1.text, .int .i64 x.1.n, .int .i64 x.1.pos] 71) _ hl1)) (B2.block _ HA.out.row.1 HA.out.ne.symm) B2.size Htl.out hE.out HA.out.ho HA.out.hc
  have HB2 : Hid (But rb w (w1.alloc (.cells #[.int .u8 x.1.kind, S x.1.text, .int .i64 x.1.n, .int .i64 x.1.pos] 71))) := B2
  have HA2 : Hid (At rb tb T cap xs (w1.alloc (.cells #[.int .u8 x.1.kind, S x.1.text, .int .i64 x.1.n, .int .i64 x.1.pos] 71)) (i + 1) o c ts') := A2
  have HQ2 : Hid _ := q2
  have hs1 : w.heap.size < w1.heap.size := lq1
  clear hb1 hr1 B2 A2 q1 q2 lq1
  go_wp2_with fail
  refine (HD.out _ (i + 1) o c ts' HA2.out hN).mono ?_
  rw [HX.out]
  rintro e' w3 ⟨hb3, k', n', t', s', d', kv, hf, rfl, hr3, hT3⟩
  cases hf
  obtain ⟨ra3, cap3, rfl⟩ := hT3.slice
  have lq2 := (Array.getElem?_eq_some_iff.1 HQ2.out).1
  have q3 : w3.heap[w.heap.size]? = some Z5 := (hb3.block _ lq2 (by omega)).trans HQ2.out
  have B3 : But rb w w3 := HB2.out.trans hb3.but
  have ls3 : w1.heap.size + 1 ≤ w3.heap.size := by have := hb3.size; simpa using this
  have hc' : c' ≤ 10000 := HG.out.much HA.out.hc
  obtain ⟨qq, eqq, _⟩ := HG.out.suf
  have A3 : At rb tb T cap xs w3 (T - (t1 :: r1).length) o c' (t1 :: r1) := HA.out.moved hr3 (B3.block _ HA.out.row.1 HA.out.ne.symm) B3.size (HA2.out.rest eqq).1 (HG.out.ended (by decide) hE.out) HA.out.ho hc'
  obtain ⟨x1, r1', hx1, hcons, htl1, hlen1⟩ := A3.head
  obtain ⟨rfl, rfl⟩ : t1 = x1.1 ∧ r1 = r1' := by simpa using hcons
  have hT3' : Tree w3 (w1.heap.size + 1) (.slice ra3 s.len cap3) s := by simpa using hT3
  have HT3 : Hid (Tree w3 (w1.heap.size + 1) (.slice ra3 s.len cap3) s) := hT3'
  have HB3 : Hid (But rb w w3) := B3
  have HA3 : Hid (At rb tb T cap xs w3 (T - (x1.1 :: r1).length) o c' (x1.1 :: r1)) := A3
  have Hx1 : Hid _ := hx1
  have HQ3 : Hid (w3.heap[w.heap.size]? = some Z5) := q3
  clear hb3 hr3 hT3 hT3' q3 B3 A3 hx1 hcons lq2 hc' eqq
  go_wp2_with fail
  refine (take_any rb tb T cap _ o c' xs _ _ (HA3.out.alloc _).reader HA3.out.hT (by have := HA3.out.hTm; omega) (HA3.out.alloc _).row Hx1.out).mono ?_
  rintro e w4 ⟨rfl, hr4, hb4⟩
  have hl4 := hr4.lt
  have ls4 : w3.heap.size + 1 ≤ w4.heap.size := by have := hb4.size; simpa using this
  have p4 : w4.heap[w3.heap.size]? = some (.cells #[.int .u8 k, .int .i64 n, S t, .slice ra3 s.len cap3, .bool d] 58 (0, 0)) := (hb4.block _ (by simp) (by omega)).trans (World.alloc_heap_new _ _)
  have HB4 : Hid (But rb w w4) := (HB3.out.alloc _).trans hb4
  have Hk4 : Hid (∀ g, g < w3.heap.size → g ≠ rb → w4.heap[g]? = w3.heap[g]?) := fun g hg hne => (hb4.block g (by simp; omega) hne).trans (Below.heap_alloc _ _ _ hg)
  have Hr4 : Hid _ := hr4
  clear hr4 hb4
  have l34 : w3.heap.size < w4.heap.size := by omega
  have c0 : x1.1.kind = 2 := h1
  obtain ⟨cs, bs, ho, hr, hnd⟩ := HT.out.ex
  rw [hf] at ho
  have hkeep : ∀ g, base ≤ g → g < w.heap.size → w4.heap[g]? = w.heap[g]? := fun g hg hg' => HB4.out.block g hg' (by omega)
  have Hr5 : Hid (Row w4 base f cs bs) := hr.kept (fun g hg => hkeep g (hr.lt g hg).1 (hr.lt g hg).2)
  have Ho5 : Hid (w4.ownsRow base 58 5 (.slice ra (q + 1) cv) (q + 1) cs) := own_same ho (fun g hg => hkeep g (ho.lt g hg).1 (ho.lt g hg).2)
  have vlt : Hid (∀ g, (Value.slice ra (q + 1) cv).ownBlock = some g → g < w.heap.size) := fun g hg => (ho.lt g hg).2
  have HTB : Hid (∀ g, (Value.slice ra (q + 1) cv).ownBlock = some g → base ≤ g) := fun g hg => (ho.lt g hg).1
  have blt : Hid (∀ g ∈ bs, g < w.heap.size) := fun g hg => (hr.lt g hg).2
  have Hnd : Hid ((own1 (.slice ra (q + 1) cv) ++ bs).Nodup) := hnd
  have HQ4 : Hid (w4.heap[w.heap.size]? = some Z5) := (Hk4.out _ (by omega) (by omega)).trans HQ3.out
  obtain ⟨z0, z1, z2, z3, z4, zf⟩ := cells5 HQ4.out
  have zf0 := zf 0
  have zf1 := zf 1
  have zf2 := zf 2
  have zf3 := zf 3
  have zf4 := zf 4
  obtain ⟨p0, p1, p2, p3, p4', pf⟩ := cells5 p4
  have lr4 : w.heap.size < w4.heap.size := by omega
  have lr5 : w.heap.size < w4.heap.size + 1 := by omega
  have ne3 : ¬ w3.heap.size = w.heap.size := by omega
  have ne3' : ¬ w.heap.size = w3.heap.size := by omega
  have l35 : w3.heap.size < w4.heap.size + 1 := by omega
  obtain ⟨ncs, nbs, nho, nhr, nnd⟩ := HT3.out.ex
  have nkeep : ∀ g, w1.heap.size + 1 ≤ g → g < w3.heap.size → w4.heap[g]? = w3.heap[g]? := fun g hg hg' => Hk4.out g hg' (by omega)
  have Hn5 : Hid (Row w4 (w1.heap.size + 1) s ncs nbs) := nhr.kept (fun g hg => nkeep g (nhr.lt g hg).1 (nhr.lt g hg).2)
  have nho4 : w4.ownsRow (w1.heap.size + 1) 58 5 (.slice ra3 s.len cap3) s.len ncs := own_same nho (fun g hg => nkeep g (nho.lt g hg).1 (nho.lt g hg).2)
  obtain ⟨gk, capk, hgk, hgkb, hgkl⟩ := nho4.form hs0
  cases hgk
  have hcells := nho4.cells (g := gk) rfl
  have Hcells : Hid (∀ j u, ncs[j]? = some u → w4.cell? ((⟨gk, 0, none⟩ : Addr).add j) = some u) := hcells
  have Hncl : Hid (ncs.length = s.len * 5) := nho4.1
  have Hone : Hid (∀ u ∈ ncs, u.oneCell' = true) := nhr.one
  have Hnnd : Hid nbs.Nodup := (List.nodup_append.1 nnd).2.1
  clear h1 pf p4 ho hr hkeep hnd zf nho nhr nkeep nho4 hcells nnd
  go_wp2_with fail
  go_region_held3 (fun wx => wx.cell? ⟨w3.heap.size, 3, none⟩ = some (.slice (some ⟨gk, 0, none⟩) s.len cap3) ∧ wx.cell? ⟨w3.heap.size, 4, none⟩ = some (.bool d)) (first | go_keep | exact ⟨(hgr.cell_far ⟨w3.heap.size, 3, none⟩ (show w3.heap.size < (World.alloc _ _).heap.size by rw [World.size_alloc]; omega) (fun e => absurd (vlt.out w3.heap.size e.symm) (by omega))).trans (by go_keep), (hgr.cell_far ⟨w3.heap.size, 4, none⟩ (show w3.heap.size < (World.alloc _ _).heap.size by rw [World.size_alloc]; omega) (fun e => absurd (vlt.out w3.heap.size e.symm) (by omega))).trans (by go_keep)⟩)
    (first | (refine step_append_lies _ (by rfl) _ _ 23 (by rfl) base 58 i0 (.agg #[.int .u8 0, .int .i64 0, .string ⟨#[]⟩, .slice none 0 0, .bool false]) 5 64 Tryz.underlying23 hi0 hz0 hz1 hz2 rfl (by decide) (.slice ra (q + 1) cv) (q + 1) cs rfl (own_same (Ho5.out.alloc _) (fun _ _ => rfl)) ⟨gk, 0, none⟩ s.len cap3 ncs rfl Hncl.out (fun j u hj => (World.cell?_of_block (w := w4) (Below.heap_alloc _ _ _ (by rw [add_block]; exact hgkl))).trans (Hcells.out j u hj)) Hone.out hs0 (by unfold maxLen; omega) (by omega) (by simp; omega) _ rfl ?_; intro g cap6 w6 hown hgr hat hlt6; have q6 : w6.heap[w.heap.size]? = some Z5 := (hgr.block _ (by simp; omega) (fun e => by have := vlt.out _ e.symm; omega)).trans ((Below.heap_alloc _ _ _ (by omega)).trans HQ4.out); obtain ⟨y0, y1, y2, y3, y4, yf⟩ := cells5 q6; have yf0 := yf 0; have yf1 := yf 1; have yf2 := yf 2; have yf3 := yf 3; have yf4 := yf 4; clear yf))
  go_wp2_with fail
  have hkX : ∀ (o : Obj) (g : Nat), g < w4.heap.size → (w4.alloc o).drew.heap[g]? = w4.heap[g]? := fun o g hg => Below.heap_alloc _ _ _ hg
  have hsX : ∀ o : Obj, w4.heap.size ≤ (w4.alloc o).drew.heap.size := fun o => by show w4.heap.size ≤ (w4.alloc o).heap.size; rw [World.size_alloc]; omega
  obtain ⟨hTr, hsame⟩ := grow_tree (hgr := hgr) (hown := hown) (hat := hat) (rblk := w.heap.size) (hkX _) (hsX _) Ho5.out Hr5.out Hnd.out Hn5.out Hnnd.out (Nat.le_trans hbs (Nat.le_of_lt (Nat.lt_succ_of_lt hs1))) vlt.out blt.out (Nat.lt_succ_of_lt hs1) lr4 hf rfl
  have HTr : Hid _ := hTr
  have hr6 : Rb w6 rb tb T cap (T - (x1.1 :: r1).length + 1) o c' := Hr4.out.kept (hsame _ hl4 (fun e => by have := HTB.out _ e; omega))
  have hb6 : ButB base rb w w6 := (HB4.out.b hbs).trans ⟨hgr.os, hgr.tape, hgr.output, Nat.le_trans (hsX _) hgr.size, fun y hy _ => hsame y (by omega) (fun e => by have := HTB.out _ e; omega)⟩
  refine bodyPost_five (s := 4) rfl rfl rfl q6 fun W5 o5 b5 => ?_
  refine ⟨hb6.trans (b5 _ _ hbs), 5, 0, [], f.app s, d, _, rfl, rfl, ?_, ?_⟩
  · rw [show T - r1.length = T - (x1.1 :: r1).length + 1 by simp only [List.length_cons]; omega]
    exact hr6.kept (o5 _ (by omega))
  · exact HTr.out _ o5
end Go.Proofs.YtlpdfifjdlfpdaaGreatDoor

/- The reader's dotted, whatever comes. -/
namespace Go.Proofs.YtlpdfifjdlfpdaaGreatDoor
open Go.RowKit

def md (f : Fo) : Nat := if f.len = 0 then 1 else 2

theorem dotted_of {rb tb T cap : Nat} {xs : List (Tok × Int)} {N : Nat} (hD : DatumC rb tb T cap xs N) (base : Nat) (w : World) (i o c : Nat) (v : Value) (f : Fo) (x : Tok × Int) (ts' : List Tok) (hA : At rb tb T cap xs w i o c (x.1 :: ts')) (hx : xs[i]? = some x) (htl : (xs.drop (i + 1)).map Prod.fst = ts') (h4 : x.1.kind = 4) (hN : ts'.length ≤ N) (hbs : base ≤ w.heap.size)
    (hT : Tree w base v f) (hrb : rb < base) (hfm : f.len ≤ 100000) :
    Calls Tryz.prog 99 #[.pointer (some ⟨rb, 0, none⟩), v] w (PostD base rb tb T cap o w ((rdf (md f) (x.1 :: ts') o c).behind f).list) := by
  have hm0 : md f ≠ 0 := by unfold md; split <;> decide
  have hm3 : ¬ md f = 3 := by unfold md; split <;> decide
  obtain ⟨ra, cv, hv⟩ := hT.slice
  rw [rdf_lst hm0]
  unfold lst
  rw [if_neg hm3, if_neg (by rw [h4]; decide), if_pos h4]
  by_cases h0 : f.len = 0
  · have hf : f = .nil := Fo.len0 h0
    subst hf
    subst hv
    exact dotted_nil base w i o c cv ra x ts' hA hx hbs
  · have hmd : ¬ md f = 1 := by unfold md; rw [if_neg h0]; decide
    rw [if_neg hmd]
    obtain ⟨q, hq⟩ : ∃ q, f.len = q + 1 := ⟨f.len - 1, by omega⟩
    rw [hq] at hv
    subst hv
    cases hX : rdf 0 ts' o c with
    | bad e p => exact dotted_bad hD base w i o c q cv ra x ts' hA hx htl h4 hN hbs e p hX
    | ok f1 d0 r c' =>
      have hg := rdf_good hX
      obtain ⟨qq, eqq, _, hone, _⟩ := hg.suf
      obtain ⟨k, n, t, s, d, rfl, hsl⟩ := hone rfl
      have hE : Ended ts' := hA.ended.tail (by rw [h4]; decide)
      have hEr := hg.ended (by decide) hE
      cases r with
      | nil => exact absurd rfl hEr.ne
      | cons t1 r1 =>
        have hlT : ts'.length ≤ T := by rw [← htl, List.length_map, List.length_drop, hA.hT]; omega
        have hsm : s.len ≤ 100000 := by
          have h1 : qq.length ≤ ts'.length := by rw [eqq, List.length_append]; omega
          have := hA.hTm
          omega
        simp only [Res.tail]
        by_cases h1 : t1.kind = 2
        · rw [if_pos h1]
          by_cases h5 : k = 5
          · have e : tailOf (.cons k n t s d .nil) = (s, d) := by simp [tailOf, h5]
            rw [e]
            by_cases hs0 : s.len = 0
            · exact dotted_list0 hD base w i o c q cv ra x ts' hA hx htl h4 hN hbs k n t s d d0 t1 r1 c' hX h1 h5 f hT hq hrb (by omega) hs0
            · exact dotted_list1 hD base w i o c q cv ra x ts' hA hx htl h4 hN hbs k n t s d d0 t1 r1 c' hX h1 h5 f hT hq hrb (by omega) (by omega) hsm
          · have e : tailOf (.cons k n t s d .nil) = (.cons k n t s d .nil, true) := by simp [tailOf, h5]
            rw [e]
            exact dotted_atom hD base w i o c q cv ra x ts' hA hx htl h4 hN hbs k n t s d d0 t1 r1 c' hX h1 h5 f hT hq hrb (by omega)
        · rw [if_neg h1]
          exact dotted_form hD base w i o c q cv ra x ts' hA hx htl h4 hN hbs k n t s d d0 t1 r1 c' hX h1
end Go.Proofs.YtlpdfifjdlfpdaaGreatDoor

/- The reader's list. -/
namespace Go.Proofs.YtlpdfifjdlfpdaaGreatDoor
open Go.RowKit

theorem Res.behind_nil (x : Res) : x.behind .nil = x := by cases x <;> rfl
theorem Res.behind_behind (f g : Fo) (x : Res) : (x.behind g).behind f = x.behind (f.app g) := by cases x <;> simp [Res.behind, Fo.app_assoc]
/-- How many tokens are left, by the reader's own count. -/
def leftAt (rb T : Nat) (w : World) : Nat := match w.cell? ⟨rb, 1, none⟩ with | some (.int _ i) => T - i.toNat | _ => 0
theorem leftAt_of {W : World} {rb tb T cap i o c : Nat} (h : Rb W rb tb T cap i o c) : leftAt rb T W = T - i := by unfold leftAt; rw [h.c1]; simp

set_option maxRecDepth 100000 in
set_option maxHeartbeats 4000000 in
theorem list_of {rb tb T cap : Nat} {xs : List (Tok × Int)} {N : Nat} (hD : DatumC rb tb T cap xs N) : ListC rb tb T cap xs N := by
  intro w i o c ts hA hN
  have HA : Hid (At rb tb T cap xs w i o c ts) := hA
  have HD : Hid (DatumC rb tb T cap xs N) := hD
  have hlt := hA.reader.lt
  obtain ⟨i0, hi0, hz0, hz1, hz2⟩ := info_parts infoDat
  clear hA hD
  go_enter Tryz.func82, Tryz.ntmps82
  go_wp2
  go_loopw [3] (fun v wr => ∃ (i' c' : Nat) (ts' : List Tok) (f : Fo), Hid (At rb tb T cap xs wr i' o c' ts') ∧ ts'.length ≤ N ∧ Hid (Tree wr (w.heap.size + 1) v f) ∧ Hid (ButB w.heap.size rb w wr) ∧ Hid (wr.heap[w.heap.size]? = some Z5) ∧ f.len + i ≤ i' ∧ Hid (rdf 1 ts o c = (rdf (md f) ts' o c').behind f)) (fun _ wr => leftAt rb T wr)
  case atStart =>
    exact ⟨i, c, ts, .nil, HA.out.alloc _, hN, Tree.nil _ _, ((But.refl rb w).alloc _).b (Nat.le_refl _), World.alloc_heap_new _ _, by simp [Fo.len], by show _ = _; rw [Res.behind_nil]; rfl⟩
  case round =>
    obtain ⟨i', c', ts', f, HA', hN', HT, HB, HQ, hfl, HE⟩ := hrel
    obtain ⟨x, ts2, hx, rfl, htl, hlen⟩ := HA'.out.head
    obtain ⟨ra, cv, rfl⟩ := HT.out.slice
    have Hx : Hid _ := hx
    have Htl : Hid _ := htl
    have hTm := HA'.out.hTm
    have hm0 : md f ≠ 0 := by unfold md; split <;> decide
    have hm3 : ¬ md f = 3 := by unfold md; split <;> decide
    have Hm0 : Hid _ := hm0
    have Hm3 : Hid _ := hm3
    have sz : w.heap.size < wr.heap.size := (Array.getElem?_eq_some_iff.1 HQ.out).1
    have hlr := HA'.out.reader.lt
    have HFT : Hid (f.len ≤ 100000) := by show f.len ≤ _; omega
    clear hx htl hm0 hm3
    by_cases h2 : x.1.kind = 2
    · have hR : rdf 1 ts o c = .ok (f.app .nil) false ts2 c' := by rw [HE.out, rdf_lst Hm0.out]; unfold lst; rw [if_neg Hm3.out, if_pos h2]; rfl
      have b2 : (x.1.kind == 2) = true := beq_iff_eq.2 h2
      have HR : Hid _ := hR
      clear h2 hR
      go_wp2_with fail
      refine (kind_any rb tb T cap i' o c' xs x wr HA'.out.reader HA'.out.hT (by omega) HA'.out.row Hx.out).mono ?_
      rintro e w1 ⟨rfl, hb1⟩
      have A1 := HA'.out.same hb1
      go_wp2_with fail
      refine (take_any rb tb T cap i' o c' xs x w1 A1.reader A1.hT (by omega) A1.row Hx.out).mono ?_
      rintro e w2 ⟨rfl, hr2, hb2⟩
      go_wp2_with fail
      refine (list_any ra f.len cv w2).mono ?_
      rintro e w3 ⟨rfl, hb3⟩
      have B3 : But rb wr w3 := ((But.of_below hb1).trans hb2).trans (But.of_below hb3)
      have q3 : w3.heap[w.heap.size]? = some Z5 := (B3.block _ sz (by omega)).trans HQ.out
      have hr3 := hr2.kept (hb3.block _ hr2.lt)
      obtain ⟨z0, z1, z2, z3, z4, zf⟩ := cells5 q3
      have zf0 := zf 0
      have zf1 := zf 1
      have zf2 := zf 2
      have zf3 := zf 3
      have zf4 := zf 4
      have HQ3 : Hid _ := q3
      have HB3 : Hid (But rb wr w3) := B3
      have Hr3 : Hid _ := hr3
      clear q3 hb1 hb2 hb3 zf A1 hr2 B3 hr3
      go_wp2_with fail
      refine bodyPost_five (s := 2) rfl rfl rfl HQ3.out fun W5 o5 b5 => ?_
      rw [HR.out]
      refine ⟨(HB.out.trans (HB3.out.b (Nat.le_of_lt sz))).trans (b5 _ _ (Nat.le_refl _)), 5, 0, [], f, false, _, by rw [Fo.app_nil], rfl, ?_, ?_⟩
      · rw [show T - ts2.length = i' + 1 by omega]
        exact Hr3.out.kept (o5 _ (by omega))
      · exact (HT.out.kept (fun g hg hg' => (o5 g (by omega)).trans (HB3.out.block g hg' (by omega)))).mono (by omega)
    have b2 : (x.1.kind == 2) = false := beq_eq_false_iff_ne.2 h2
    by_cases h4 : x.1.kind = 4
    · have b4 : (x.1.kind == 4) = true := beq_iff_eq.2 h4
      have H4 : Hid _ := h4
      clear h2 h4
      cases hX : rdf 1 ts o c with
      | bad e p =>
        have HX : Hid _ := hX
        clear hX
        go_wp2_with fail
        refine (kind_any rb tb T cap i' o c' xs x wr HA'.out.reader HA'.out.hT (by omega) HA'.out.row Hx.out).mono ?_
        rintro e' w1 ⟨rfl, hb1⟩
        have A1 := HA'.out.same hb1
        have T1 : Tree w1 (w.heap.size + 1) (.slice ra f.len cv) f := HT.out.kept (fun g _ hg => hb1.block g hg)
        go_wp2_with fail
        refine (dotted_of HD.out (w.heap.size + 1) w1 i' o c' (.slice ra f.len cv) f x ts2 A1 Hx.out Htl.out H4.out (by simp at hN'; omega) (by have := hb1.size; omega) T1 (by omega) HFT.out).mono ?_
        rw [← HE.out, HX.out]
        rintro e' w2 ⟨hb2, rfl, i2, c2, hr2⟩
        go_wp2_with fail
        exact ⟨rfl, (HB.out.trans ((But.of_below (rb := rb) hb1).b (Nat.le_of_lt sz))).trans (hb2.mono (by omega)), rfl, i2, c2, hr2⟩
      | ok f2 d2 r2 c2 =>
        have HX : Hid _ := hX
        clear hX
        go_wp2_with fail
        refine (kind_any rb tb T cap i' o c' xs x wr HA'.out.reader HA'.out.hT (by omega) HA'.out.row Hx.out).mono ?_
        rintro e' w1 ⟨rfl, hb1⟩
        have A1 := HA'.out.same hb1
        have T1 : Tree w1 (w.heap.size + 1) (.slice ra f.len cv) f := HT.out.kept (fun g _ hg => hb1.block g hg)
        go_wp2_with fail
        refine (dotted_of HD.out (w.heap.size + 1) w1 i' o c' (.slice ra f.len cv) f x ts2 A1 Hx.out Htl.out H4.out (by simp at hN'; omega) (by have := hb1.size; omega) T1 (by omega) HFT.out).mono ?_
        rw [← HE.out, HX.out]
        rintro e' w2 ⟨hb2, k, n, t, s, d, kv, hf, rfl, hr2, hT2⟩
        cases hf
        obtain ⟨ra2, cap2, rfl⟩ := hT2.slice
        have q2 : w2.heap[w.heap.size]? = some Z5 := (hb2.block _ (by omega) (by omega)).trans ((hb1.block _ sz).trans HQ.out)
        obtain ⟨z0, z1, z2, z3, z4, zf⟩ := cells5 q2
        have zf0 := zf 0
        have zf1 := zf 1
        have zf2 := zf 2
        have zf3 := zf 3
        have zf4 := zf 4
        have HQ2 : Hid _ := q2
        have HB2 : Hid (ButB w.heap.size rb w w2) := (HB.out.trans ((But.of_below (rb := rb) hb1).b (Nat.le_of_lt sz))).trans (hb2.mono (by omega))
        have Hr2 : Hid _ := hr2
        have HT2 : Hid (Tree w2 (w.heap.size + 1) (.slice ra2 f2.len cap2) f2) := hT2
        clear q2 hb1 hb2 zf A1 hr2 hT2 T1
        go_wp2_with fail
        refine bodyPost_five (s := 2) rfl rfl rfl HQ2.out fun W5 o5 b5 => ?_
        refine ⟨HB2.out.trans (b5 _ _ (Nat.le_refl _)), 5, 0, [], f2, _, _, rfl, rfl, Hr2.out.kept (o5 _ (by omega)), ?_⟩
        exact (HT2.out.kept (fun g hg _ => o5 g (by omega))).mono (by omega)
    · have b4 : (x.1.kind == 4) = false := beq_eq_false_iff_ne.2 h4
      have hM : rdf (md f) (x.1 :: ts2) o c' = more rdf 2 (x.1 :: ts2) o c' := by rw [rdf_lst Hm0.out]; unfold lst; rw [if_neg Hm3.out, if_neg h2, if_neg h4]
      clear h2 h4
      cases hX : rdf 0 (x.1 :: ts2) o c' with
      | bad e p =>
        have hR : rdf 1 ts o c = .bad e p := by rw [HE.out, hM]; unfold more; rw [hX]; rfl
        have HX : Hid _ := hX
        have HR : Hid _ := hR
        clear hX hR hM
        go_wp2_with fail
        refine (kind_any rb tb T cap i' o c' xs x wr HA'.out.reader HA'.out.hT (by omega) HA'.out.row Hx.out).mono ?_
        rintro e' w1 ⟨rfl, hb1⟩
        have A1 := HA'.out.same hb1
        go_wp2_with fail
        refine (HD.out w1 i' o c' (x.1 :: ts2) A1 hN').mono ?_
        rw [HX.out]
        rintro e' w2 ⟨hb2, rfl, i2, c2, hr2⟩
        go_wp2_with fail
        refine ⟨rfl, ?_⟩
        rw [HR.out]
        exact ⟨(HB.out.trans ((But.of_below (rb := rb) hb1).b (Nat.le_of_lt sz))).trans (hb2.mono (by have := hb1.size; omega)), rfl, i2, c2, hr2⟩
      | ok f1 d1 r c1 =>
        have hg := rdf_good hX
        obtain ⟨qq, eqq, hqpos, hone, _⟩ := hg.suf
        obtain ⟨k, n, t, s, d, rfl, hsl⟩ := hone rfl
        have hEq : rdf 1 ts o c = (rdf 2 r o c1).behind (f.app (.cons k n t s d .nil)) := by rw [HE.out, hM]; unfold more; rw [hX]; simp only [Res.then]; rw [Res.behind_behind]
        have hmd2 : md (f.app (.cons k n t s d .nil)) = 2 := by unfold md; rw [if_neg (by rw [Fo.len_app]; simp [Fo.len])]
        have HEq : Hid (rdf 1 ts o c = (rdf (md (f.app (.cons k n t s d .nil))) r o c1).behind (f.app (.cons k n t s d .nil))) := by show _ = _; rw [hmd2]; exact hEq
        have hrl : r.length + qq.length = ts2.length + 1 := by have := congrArg List.length eqq; simp at this; omega
        have HX : Hid _ := hX
        have HG : Hid (Good 0 (x.1 :: ts2) (.cons k n t s d .nil) r c' c1) := hg
        have Heqq : Hid _ := eqq
        have htbl : Hid (tb < w.heap.size) := HA.out.row.1
        clear hX hM hg hEq hmd2 hsl eqq
        go_wp2_with fail
        refine (kind_any rb tb T cap i' o c' xs x wr HA'.out.reader HA'.out.hT (by omega) HA'.out.row Hx.out).mono ?_
        rintro e' w1 ⟨rfl, hb1⟩
        have A1 := HA'.out.same hb1
        have T1 : Tree w1 (w.heap.size + 1) (.slice ra f.len cv) f := HT.out.kept (fun g _ hg => hb1.block g hg)
        have ls1 := hb1.size
        go_wp2_with fail
        refine (HD.out w1 i' o c' (x.1 :: ts2) A1 hN').mono ?_
        rw [HX.out]
        rintro e' w2 ⟨hb2, k', n', t', s', d', kv, hf, rfl, hr2, hT2⟩
        cases hf
        obtain ⟨ra2, cap2, rfl⟩ := hT2.slice
        obtain ⟨cs, bs, ho1, hrr1, hnd⟩ := T1.ex
        have ho := own_same ho1 (fun g hg => hb2.block g (ho1.lt g hg).2 (by have := (ho1.lt g hg).1; omega))
        have hrr := hrr1.kept (fun g hg => hb2.block g (hrr1.lt g hg).2 (by have := (hrr1.lt g hg).1; omega))
        have A2 : At rb tb T cap xs w2 (T - r.length) o c1 r := A1.moved hr2 (hb2.block _ A1.row.1 A1.ne.symm) hb2.size (A1.rest Heqq.out).1 (HG.out.ended (by decide) A1.ended) A1.ho (HG.out.much A1.hc)
        have q2 : w2.heap[w.heap.size]? = some Z5 := (hb2.block _ (by omega) (by omega)).trans ((hb1.block _ sz).trans HQ.out)
        have B2 : ButB w.heap.size rb w w2 := (HB.out.trans ((But.of_below (rb := rb) hb1).b (Nat.le_of_lt sz))).trans (hb2.mono (by omega))
        have vb : ∀ g, (Value.slice ra f.len cv).ownBlock = some g → w.heap.size + 1 ≤ g := fun g hg => (ho.lt g hg).1
        have ls2 := hb2.size
        have HA2 : Hid (At rb tb T cap xs w2 (T - r.length) o c1 r) := A2
        have HQ2 : Hid (w2.heap[w.heap.size]? = some Z5) := q2
        have HB2 : Hid (ButB w.heap.size rb w w2) := B2
        have Hvb : Hid (∀ g, (Value.slice ra f.len cv).ownBlock = some g → w.heap.size + 1 ≤ g) := vb
        have Ho : Hid (w2.ownsRow (w.heap.size + 1) 58 5 (.slice ra f.len cv) f.len cs) := ho
        have Hrr : Hid (Row w2 (w.heap.size + 1) f cs bs) := hrr
        have Hnd : Hid (own1 (.slice ra f.len cv) ++ bs).Nodup := hnd
        have HT2 : Hid (Tree w2 w1.heap.size (.slice ra2 s.len cap2) s) := hT2
        have Hold : Hid (∀ y ∈ own1 (.slice ra f.len cv) ++ bs, y < w1.heap.size) := by
          show ∀ y ∈ own1 (.slice ra f.len cv) ++ bs, y < w1.heap.size
          intro y hy
          rcases List.mem_append.1 hy with h | h
          · exact (ho1.lt y (mem_own1.1 h)).2
          · exact (hrr1.lt y h).2
        clear hb1 hb2 T1 A1 A2 ho hrr hnd ho1 hrr1 hr2 hT2 q2 B2 vb
        go_wp2_with (at_builtin; refine stop_of ?_)
        unfold Hid
        refine wpList_append_lies _ rfl _ _ 23 rfl (w.heap.size + 1) 58 i0 (.agg #[.int .u8 0, .int .i64 0, .string ⟨#[]⟩, .slice none 0 0, .bool false]) 5 64 Tryz.underlying23 hi0 hz0 hz1 hz2 rfl (by decide) (.slice ra f.len cv) f.len cs rfl (Ho.out.alloc _) ⟨_, 0, none⟩ 1 1 [.int .u8 k, .int .i64 n, S t, .slice ra2 s.len cap2, .bool d] rfl rfl (cell_five_at _ _ (by simp) _ _ _ _ _ _) (five_one _ _ _ _ _ _ _) (by omega) (by have := HFT.out; unfold maxLen; omega) (by have := HFT.out; omega) (by simp; omega) _ rfl ?_
        intro g cap6 w6 hown hgr hat hlt6
        obtain ⟨ncs, nbs, nho, nhr, nnd⟩ := HT2.out.ex
        have HTX := tree_append (Ho.out.alloc _) (Hrr.out.alloc _) Hnd.out (((Row.single nho nhr).alloc _).mono (by omega)) nnd (fun y hy hm => by
            have h1 := ((Row.single (k := k) (n := n) (t := t) (d := d) nho nhr).lt y hy).1
            have := Hold.out y hm
            omega) rfl rfl hown hgr (hat.imp (fun h => h.symm) (fun h => by rw [h]; rfl))
        have hk6 : ∀ g, g < w.heap.size + 1 → w6.heap[g]? = w2.heap[g]? := fun g hg => (hgr.block g (by simp; omega) (fun e => by have := Hvb.out g e.symm; omega)).trans (Below.heap_alloc _ _ _ (by omega))
        have s6 : w2.heap.size ≤ w6.heap.size := by have := hgr.size; simp at this; omega
        have HT6 : Hid (Tree w6 (w.heap.size + 1) (.slice (some ⟨g, 0, none⟩) (f.len + 1) cap6) (f.app (.cons k n t s d .nil))) := ⟨_, _, HTX⟩
        have HA6 : Hid (At rb tb T cap xs w6 (T - r.length) o c1 r) := HA2.out.moved (HA2.out.reader.kept (hk6 _ (by omega))) (hk6 _ (by have := htbl.out; omega)) s6 HA2.out.toks HA2.out.ended HA2.out.ho HA2.out.hc
        have HB6 : Hid (ButB w.heap.size rb w w6) := HB2.out.trans ⟨hgr.os, hgr.tape, hgr.output, s6, fun g hg _ => hk6 g (by omega)⟩
        have HQ6 : Hid (w6.heap[w.heap.size]? = some Z5) := (hk6 _ (by omega)).trans HQ2.out
        clear hgr hown hat hk6 HTX nho nhr nnd
        go_wp2_with fail
        go_roundw
        case rel => exact ⟨T - r.length, c1, r, f.app (.cons k n t s d .nil), HA6, by simp at hN'; omega, HT6, HB6, HQ6, by rw [Fo.len_app]; simp [Fo.len]; omega, HEq⟩
        case measure => rw [leftAt_of HA6.out.reader, leftAt_of HA'.out.reader]; omega
end Go.Proofs.YtlpdfifjdlfpdaaGreatDoor
