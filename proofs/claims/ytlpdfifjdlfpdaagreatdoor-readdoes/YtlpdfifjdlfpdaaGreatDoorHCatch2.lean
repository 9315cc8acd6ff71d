/- The deferred function of Write. -/
import Derived.Test.YtlpdfifjdlfpdaaGreatDoorGG
namespace Go.Proofs.YtlpdfifjdlfpdaaGreatDoor
open Go.RowKit

set_option maxRecDepth 100000 in
set_option maxHeartbeats 4000000 in
theorem catch2_idle (b0 b1 : Nat) (w : World) :
    CallsD Tryz.prog 52 #[.pointer (some ⟨b0, 0, none⟩), .pointer (some ⟨b1, 0, none⟩)] .returning w fun r u' w' => (∃ v, r = .returned v) ∧ u' = .returning ∧ Below w.heap.size w w' := by
  refine callsD_of_wpS Tryz.func52 rfl fun c₀ cs hu => ?_
  simp only [Tryz.ntmps52, List.size_toArray, List.length_cons, List.length_nil, Nat.reduceAdd, Nat.reduceSub, Array.replicate_succ, Array.replicate_zero, List.push_toArray, List.append_toArray, List.nil_append, List.cons_append]
  apply wpS_seq
  apply wpS_region
  show wpOpsS _ _ _ [0, 1, 2, 3, 4, 5, 6, 7] _ _ _
  refine wpOpsS_none rfl rfl rfl (by simp [recoverD, hu]) ?_
  refine wpOpsS_cons rfl rfl ?_
  simp [go_sem]
  refine (caught_nil w).mono ?_
  rintro e w1 ⟨rfl, hb1⟩
  simp only
  iterate 6 (refine wpOpsS_cons rfl rfl ?_; simp [go_sem])
  unfold wpOpsS
  simp only [Exit.thenS]
  refine wpS_of_wp ?_
  go_wp2
  refine ⟨rfl, .returning, by cases c₀; simp_all, .tuple #[], by simp [results, Tryz.results52, go_sem], ⟨_, rfl⟩, rfl, hb1.alloc hb1.size _⟩

set_option maxRecDepth 100000 in
set_option maxHeartbeats 4000000 in
theorem catch2_fault (b0 b1 : Nat) (e p : Int) (v0 v1 : Value) (w : World) (h0 : Boxed w b0 9 v0) (h1 : Boxed w b1 24 v1) (n01 : b0 ≠ b1) :
    CallsD Tryz.prog 52 #[.pointer (some ⟨b0, 0, none⟩), .pointer (some ⟨b1, 0, none⟩)] (.panicking (fault e p)) w fun r u' w' =>
      ((∃ v, r = .returned v) ∧ ∃ v, u' = .panicking [{ v, recovered := true }]) ∧ But3 b0 b1 b1 w w' ∧ Boxed w' b0 9 (.string ⟨#[]⟩) ∧ Boxed w' b1 24 (.int .i64 e) := by
  refine callsD_of_wpS Tryz.func52 rfl fun c₀ cs hu => ?_
  simp only [Tryz.ntmps52, List.size_toArray, List.length_cons, List.length_nil, Nat.reduceAdd, Nat.reduceSub, Array.replicate_succ, Array.replicate_zero, List.push_toArray, List.append_toArray, List.nil_append, List.cons_append]
  apply wpS_seq
  apply wpS_region
  show wpOpsS _ _ _ [0, 1, 2, 3, 4, 5, 6, 7] _ _ _
  refine wpOpsS_some (v := .iface 76 (.agg #[.int .i64 e, .int .i64 p])) (cs' := { c₀ with mode := .panicking [{ v := .iface 76 (.agg #[.int .i64 e, .int .i64 p]), recovered := true }] } :: cs) rfl rfl rfl (by simp [recoverD, hu, fault]) ?_
  refine wpOpsS_cons rfl rfl ?_
  simp [go_sem]
  refine (caught_fault e p w).mono ?_
  rintro r w1 ⟨rfl, hb1⟩
  simp only
  iterate 6 (refine wpOpsS_cons rfl rfl ?_; simp [go_sem])
  unfold wpOpsS
  simp only [Exit.thenS]
  refine wpS_of_wp ?_
  have l0 := h0.lt
  have l1 := h1.lt
  have g0 : Boxed w1 b0 9 v0 := (hb1.block _ l0).trans h0
  have g1 : Boxed w1 b1 24 v1 := (hb1.block _ l1).trans h1
  have m0 := g0.lt
  have m1 := g1.lt
  have c0 := g0.cell
  have c1 := g1.cell
  have f0 := g0.frozen
  have f1 := g1.frozen
  have Hb1 : Hid (Below w.heap.size w w1) := hb1
  have G0 : Hid (Boxed w1 b0 9 v0) := g0
  have G1 : Hid (Boxed w1 b1 24 v1) := g1
  have x0 : ¬ w1.heap.size = b0 := by omega
  have x1 : ¬ w1.heap.size = b1 := by omega
  clear g0 g1 h0 h1 hb1
  go_wp2_with fail
  go_region
  all_goals go_wp2
  refine ⟨rfl, .panicking [{ v := .iface 76 (.agg #[.int .i64 e, .int .i64 p]), recovered := true }], rfl, .tuple #[], by simp [results, Tryz.results52, go_sem], ⟨⟨_, rfl⟩, _, rfl⟩, ?_, ?_, ?_⟩
  · exact ((((But3.of_below Hb1.out).set (.inl rfl) _).set (.inr (.inl rfl)) _).alloc _).drew
  · exact ((G0.out.set (.string ⟨#[]⟩)).other n01 _).alloc _
  · exact ((G1.out.other n01.symm _).set (.int .i64 e)).alloc _
end Go.Proofs.YtlpdfifjdlfpdaaGreatDoor
