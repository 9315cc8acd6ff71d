/- Labels in a map.; How often each cell is met. -/
import Derived.Test.YtejmoopgfnjaaaaDoorK10
import Derived.Maps.Own
import Derived.Maps.Views
/- Labels in a map. -/
namespace Go.Proofs.YtejmoopgfnjaaaaDoor
open Go.RowKit Go.Maps Go.ChangeMaps

structure Lab where
  met : Int
  came : Bool
  num : Int
def lab0 : Lab := ⟨0, false, 0⟩
abbrev labV (l : Lab) : Value := .agg #[.int .i64 l.met, .bool l.came, .int .i64 l.num]
def labD (l : Lab) : DataW Unit := .agg [.lit (.int .i64 l.met), .lit (.bool l.came), .lit (.int .i64 l.num)]
def RL (v : Value) : Option (DataW Unit × List MemPlace) := match v with
  | .agg ⟨[.int .i64 a, .bool b, .int .i64 c]⟩ => some (labD ⟨a, b, c⟩, [])
  | _ => none
theorem RL_mk (l : Lab) : RL (labV l) = some (labD l, []) := rfl
theorem RL_inv {v : Value} {l : Lab} {ps : List MemPlace} (h : RL v = some (labD l, ps)) : v = labV l := by
  unfold RL at h
  split at h
  · rename_i a b c
    have h1 := (Prod.mk.inj (Option.some.inj h)).1
    unfold labD at h1
    simp only [DataW.agg.injEq, List.cons.injEq, DataW.lit.injEq, Lit.int.injEq, Lit.bool.injEq, true_and, and_true] at h1
    obtain ⟨h1, h2, h3⟩ := h1
    rw [h1, h2, h3]
  · cases h
/-- The map's block tells each cell's label. -/
def LM (w : World) (b n : Nat) (f : Nat → Lab) : Prop := ∃ D : DataW Unit, IsMap D ∧ w.ownsMap Tryd.prog 3 RL b n D ∧ ∀ c : Nat, D.atKey (.int .i64 c) (labD lab0) = labD (f c)
theorem int_wf {c : Nat} (h : c ≤ 9223372036854775807) : (Lit.int .i64 (c : Int)).wf = true := by
  simp [Lit.wf, IntKind.min, IntKind.max, IntKind.signed, IntKind.bits]; omega
theorem LM.made (w : World) : LM (w.alloc (.map #[] 0)) w.heap.size 0 (fun _ => lab0) := ⟨.map [], ⟨[], rfl⟩, World.ownsMap_made w _ _ _, fun _ => rfl⟩
theorem LM.kept {w w' : World} {b n : Nat} {f : Nat → Lab} (h : LM w b n f) (hb : w'.heap[b]? = w.heap[b]?) : LM w' b n f := by
  obtain ⟨D, h1, ⟨es, clock, h2, h3, h4, h5⟩, h6⟩ := h
  exact ⟨D, h1, ⟨es, clock, hb.trans h2, h3, h4, h5⟩, h6⟩
theorem LM.lt {w : World} {b n : Nat} {f : Nat → Lab} (h : LM w b n f) : b < w.heap.size := by
  obtain ⟨D, _, ⟨es, clock, h2, _⟩, _⟩ := h
  exact heap_lt h2
theorem LM.look {w : World} {b n : Nat} {f : Nat → Lab} (h : LM w b n f) {c : Nat} (hc : c ≤ 9223372036854775807) : (Instr.lookup 58 (.map (some b)) (.int .i64 c) false).run Tryd.prog w = .ok (labV (f c)) w := by
  obtain ⟨D, h1, h2, h3⟩ := h
  obtain ⟨v, ps, hrun, hv⟩ := h2.lookup (int_keyed Tryd.underlying3) Tryd.underlying58 (z := labV lab0) (Tryd.zeroValue88 w) (RL_mk lab0) (keyOf_int_mk Tryd.underlying3 (int_wf hc))
  rw [h3 c] at hv
  rw [hrun, RL_inv hv]
theorem LM.put {w : World} {b n : Nat} {f : Nat → Lab} (h : LM w b n f) {c : Nat} (hc : c ≤ 9223372036854775807) (hn : n < maxLen) (l : Lab) : ∃ w', (Instr.mapUpdate 58 (.map (some b)) (.int .i64 c) (labV l)).run Tryd.prog w = .ok () w' ∧ LM w' b (n + 1) (fun k => if k = c then l else f k) ∧ w.grownBy w' (some b) := by
  obtain ⟨D, h1, h2, h3⟩ := h
  obtain ⟨w', hrun, ho, hg⟩ := h2.update (int_keyed Tryd.underlying3) Tryd.underlying58 hn (keyOf_int_mk Tryd.underlying3 (int_wf hc)) (RL_mk l)
  refine ⟨w', hrun, ⟨_, h1.put _ _, ho, fun k => ?_⟩, hg⟩
  by_cases he : k = c
  · subst he
    show _ = labD (if k = k then l else f k)
    rw [if_pos rfl]
    exact atKey_put_same h1 (by first | exact rfl | exact ⟨_, _, rfl⟩ | exact trivial | simp [WideAt.IsKeyLit]) _ _
  · show _ = labD (if k = c then l else f k)
    rw [if_neg he, atKey_put_other (fun e => he (by have e2 := (Lit.int.inj e).2; omega))]
    exact h3 k
end Go.Proofs.YtejmoopgfnjaaaaDoor

/- How often each cell is met. -/
namespace Go.Proofs.YtejmoopgfnjaaaaDoor
open Go.RowKit Go.Maps Go.ChangeMaps

/-- How often a cell is met among words. -/
def cntM (l : List Int) (c : Nat) : Nat := (l.filter (fun x => decide (refN x = some c))).length
theorem cnt_le (l : List Int) (c : Nat) : cntM l c ≤ l.length := List.length_filter_le ..
theorem cnt_step {l : List Int} {j : Nat} {x : Int} (hx : l[j]? = some x) (c : Nat) : cntM (l.take (j + 1)) c = cntM (l.take j) c + if refN x = some c then 1 else 0 := by
  unfold cntM
  rw [List.take_add_one, hx, List.filter_append, List.length_append]
  by_cases h : refN x = some c
  · simp [h]
  · simp [h]
def cntL (l : List Int) (c : Nat) : Lab := ⟨cntM l c, false, 0⟩
theorem labField (l : Lab) (w : World) : (Instr.field 88 (labV l) 0).run Tryd.prog w = .ok (.int .i64 l.met) w := by
  have u1 := Tryd.underlying88
  unfold Instr.field
  go_simp
  simp [asAgg, Sem.run_pure]
theorem wr_map {w w' : World} {b n : Nat} {f : Nat → Lab} {ra : Option Addr} {l : List Int} (hm : LM w b n f) (hg : w.grownBy w' (some b)) (h : WR w ra l) : WR w' ra l := by
  obtain ⟨D, _, ⟨es, clock, hb, _⟩, _⟩ := hm
  obtain ⟨bb, o, h1, h2⟩ := h
  refine ⟨bb, o, h1, fun j x hx => ?_⟩
  obtain ⟨hlt, hc, hr⟩ := h2 j x hx
  have hne : bb ≠ b := fun e => by
    subst e
    simp [World.cell?, hb] at hc
  have he : w'.heap[bb]? = w.heap[bb]? := hg.block bb hlt (fun e => hne (Option.some.inj e))
  refine ⟨Nat.lt_of_lt_of_le hlt hg.size, ?_, hr⟩
  simp only [World.cell?, he] at hc ⊢
  exact hc
def CountR (l : List Int) (B : Nat) (e : Ending) (w' : World) : Prop := ∃ b n, B ≤ b ∧ e = .returned (.map (some b)) ∧ n ≤ l.length ∧ LM w' b n (cntL l)
set_option maxRecDepth 100000 in
set_option maxHeartbeats 8000000 in
theorem count_any (X : List Cl) (F : Int) (rx : Option Addr) (cx : Nat) (w : World) (hl : X.length ≤ 1000000) (hH : HR w rx X) (hk : ∀ x ∈ X, Kd x) (hF : Rng F) (hT : Tab w) :
    Calls Tryd.prog 20 #[sightV (.slice rx X.length cx) F] w fun e w' => CountR (metW X F) w.heap.size e w' ∧ Below w.heap.size w w' := by
  have a0 := (Below.refl _ w).alloc (Nat.le_refl w.heap.size) (.cells #[.slice rx X.length cx, .int .u64 F] 54)
  have s0 := sight_new w (.slice rx X.length cx) (.int .u64 F)
  have z0 : (w.alloc (.cells #[.slice rx X.length cx, .int .u64 F] 54)).heap.size = w.heap.size + 1 := World.size_alloc ..
  have a1 := a0.alloc a0.size (.map #[] 0)
  have s1 : SB ((w.alloc (.cells #[.slice rx X.length cx, .int .u64 F] 54)).alloc (.map #[] 0)) w.heap.size (.slice rx X.length cx) (.int .u64 F) := (Below.heap_alloc _ _ _ (heap_lt s0)).trans s0
  have m1 := LM.made (w.alloc (.cells #[.slice rx X.length cx, .int .u64 F] 54))
  rw [z0] at m1
  have c0 := heap_cell (j := 0) s1 rfl
  have c1 := heap_cell (j := 1) s1 rfl
  have l0 := heap_lt s1
  have HM1 : Hid (LM ((w.alloc (.cells #[.slice rx X.length cx, .int .u64 F] 54)).alloc (.map #[] 0)) (w.heap.size + 1) 0 (cntL [])) := m1
  have HB1 : Hid (Below w.heap.size w ((w.alloc (.cells #[.slice rx X.length cx, .int .u64 F] 54)).alloc (.map #[] 0))) := a1
  have HMt : Hid _ := met_any X F rx cx _ hl (hH.below a1) hk hF
  have HT0 : Hid (Tab w) := hT
  have HT : Hid (Tab ((w.alloc (.cells #[.slice rx X.length cx, .int .u64 F] 54)).alloc (.map #[] 0))) := hT.below a1
  have hml := met_len X F
  have mm : (Instr.makeMap 58 none).run Tryd.prog (w.alloc (.cells #[.slice rx X.length cx, .int .u64 F] 54)) = .ok (.map (some (w.heap.size + 1))) ((w.alloc (.cells #[.slice rx X.length cx, .int .u64 F] 54)).alloc (.map #[] 0)) := by
    have := run_makeMap (P := Tryd.prog) 58 (w.alloc (.cells #[.slice rx X.length cx, .int .u64 F] 54))
    rw [this, z0]
  clear a0 s0 a1 s1 m1 z0 hH hk hF hT
  unfold sightV at *
  go_enter Tryd.func20, Tryd.ntmps20
  go_upto_region 2 with fail
  generalize (w.alloc (.cells #[.slice rx X.length cx, .int .u64 F] 54)).alloc (.map #[] 0) = W1 at *
  go_wp2_with fail
  refine Calls.mono HMt.out ?_
  rintro e w2 ⟨⟨rv, cv, rfl, hr⟩, hb⟩
  have HB2 : Hid (Below w.heap.size w w2) := HB1.out.trans (hb.mono HB1.out.size)
  have HM2 : Hid (LM w2 (w.heap.size + 1) 0 (cntL [])) := HM1.out.kept (hb.block _ HM1.out.lt)
  have HW2 : Hid (WR w2 rv (metW X F) ∧ Tab w2) := ⟨hr, HT.out.below hb⟩
  have zb : w.heap.size + 1 < w2.heap.size := HM2.out.lt
  clear hb hr HMt HB1 HM1 HT c0 c1 l0 mm
  obtain ⟨L, hLq⟩ : ∃ L, L = metW X F := ⟨_, rfl⟩
  have HLq : Hid (L = metW X F) := hLq
  rw [← hLq] at HW2 hml ⊢
  clear hLq
  have fq := fun (l : Lab) (w : World) => labField l w
  have hL : L.length ≤ 2000001 := by omega
  go_wp2
  go_loopw [12, 5, 6, 7] (fun i _ _ _ wr => ∃ (j n : Nat), i = .int .i64 j ∧ j ≤ L.length ∧ n ≤ j ∧ Hid (LM wr (w.heap.size + 1) n (cntL (L.take j))) ∧ Hid (Below w.heap.size w wr) ∧ Hid (WR wr rv L ∧ Tab wr)) (fun i _ _ _ _ => L.length - (intOf i).toNat)
  case atStart => exact ⟨0, 0, rfl, Nat.zero_le _, Nat.le_refl _, HM2, HB2, HW2⟩
  case round =>
    obtain ⟨j, n, rfl, hj, hnj, HMj, HB, HWj⟩ := hrel
    by_cases hlt : j < L.length
    · have k1 : (j : Int) < (L.length : Int) := by omega
      obtain ⟨x, hx⟩ : ∃ x, L[j]? = some x := ⟨_, List.getElem?_eq_getElem hlt⟩
      obtain ⟨b, o, q1, q2⟩ := HWj.out.1
      obtain rfl : rv = some ⟨b, o, none⟩ := q1.resolve_left (by omega)
      obtain ⟨l1, d0, hrg⟩ := q2 j x hx
      have HC : Hid (Calls Tryd.prog 12 #[.int .u64 x] wr fun e w' => e = .returned (.tuple #[.int .i64 (cellV x), .bool (refB x)]) ∧ w' = wr) := cell_any x wr hrg HWj.out.2
      have HXx : Hid (L[j]? = some x) := hx
      clear q1 q2 hx hrg
      cases hrb : refB x
      · have hn : refN x = none := by
          have h2 : ¬ ofT x = 8 := by unfold refB at hrb; simpa using hrb
          unfold refN; rw [if_neg h2]
        have HMn : Hid (LM wr (w.heap.size + 1) n (cntL (L.take (j + 1)))) := by
          show LM ..
          have e : cntL (L.take (j + 1)) = cntL (L.take j) := by
            funext c
            unfold cntL
            rw [cnt_step HXx.out c, hn]; simp
          rw [e]; exact HMj.out
        rw [hrb] at HC
        clear hrb hn
        go_wp2_with fail
        refine Calls.mono HC.out ?_
        rintro e w3 ⟨rfl, hw3⟩
        rw [hw3]
        clear hw3 HC
        go_wp2
        go_roundw
        case rel => exact ⟨j + 1, n, by go_num, by omega, by omega, HMn, HB, HWj⟩
        case measure => simp [intOf]; omega
      · obtain ⟨c, hc, hcv, hcb⟩ : ∃ c : Nat, refN x = some c ∧ cellV x = c ∧ c ≤ 2147483647 := by
          have h1 := ofN_ref hrb
          have h2 : ofT x = 8 := by unfold refB at hrb; simpa using hrb
          refine ⟨(ofN x).toNat, by unfold refN; rw [if_pos h2], ?_, by omega⟩
          unfold cellV; rw [if_pos h2]; omega
        rw [hrb, hcv] at HC
        have hlk := HMj.out.look (c := c) (by omega)
        obtain ⟨w4, hup, hm4, hg4⟩ := HMj.out.put (c := c) (by omega) (by unfold maxLen; omega) ⟨(cntM (L.take j) c : Int) + 1, false, 0⟩
        have hcl := cnt_le (L.take j) c
        have htl : (L.take j).length ≤ 2000001 := by rw [List.length_take]; omega
        have HM4 : Hid (LM w4 (w.heap.size + 1) (n + 1) (cntL (L.take (j + 1)))) := by
          show LM ..
          have e : cntL (L.take (j + 1)) = fun k => if k = c then ⟨(cntM (L.take j) c : Int) + 1, false, 0⟩ else cntL (L.take j) k := by
            funext k
            unfold cntL
            rw [cnt_step HXx.out k, hc]
            by_cases he : k = c
            · subst he; simp
            · rw [if_neg he, if_neg (fun e => he (Option.some.inj e).symm), Nat.add_zero]
          rw [e]; exact hm4
        have b4 : Below (w.heap.size + 1) wr w4 := (Below.refl _ wr).grown hg4 (by have := HMj.out.lt; omega) (fun k hk => by cases hk; exact Nat.le_refl _)
        have HB4 : Hid (Below w.heap.size w w4) := HB.out.trans (b4.mono (by omega))
        have HW4 : Hid (WR w4 (some ⟨b, o, none⟩) L ∧ Tab w4) := ⟨wr_map HMj.out hg4 HWj.out.1, HT0.out.below HB4.out⟩
        have fq1 := fq (cntL (L.take j) c)
        have m1 : (cntL (L.take j) c).met = (cntM (L.take j) c : Int) := rfl
        rw [m1] at fq1
        have ci : (cntM (L.take j) c : Int) + 1 ≤ 9223372036854775807 := by omega
        have ch : -9223372036854775808 ≤ (cntM (L.take j) c : Int) + 1 := by omega
        have cg : (0 : Int) ≤ (cntM (L.take j) c : Int) := by omega
        clear hm4 hg4 b4 hcl htl hc hcv hrb m1 HWj HMj
        generalize labV (cntL (L.take j) c) = LV at *
        generalize (cntM (L.take j) c : Int) = m at *
        go_wp2_with fail
        refine Calls.mono HC.out ?_
        rintro e w3 ⟨rfl, hw3⟩
        rw [hw3]
        clear hw3 HC
        go_wp2
        go_roundw
        case rel => exact ⟨j + 1, n + 1, by go_num, by omega, by omega, HM4, HB4, HW4⟩
        case measure => simp [intOf]; omega
    · have k1 : ¬ (j : Int) < (L.length : Int) := by omega
      have HE : Hid (LM wr (w.heap.size + 1) n (cntL L)) := by have := HMj.out; rwa [List.take_of_length_le (by omega)] at this
      go_wp2
      go_ret
      rw [HLq.out] at HE
      exact ⟨⟨w.heap.size + 1, n, by omega, rfl, by rw [← HLq.out]; omega, HE.out⟩, HB.out⟩
end Go.Proofs.YtejmoopgfnjaaaaDoor
