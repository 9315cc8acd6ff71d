/- slices.AppendSeq(nil, slices.Values(l)): l's words in a row of its own. -/
import Derived.Test.YteekfahpbnbalaaDoorHGVals
import Derived.Test.YteekfahpbnbalaaDoorHGForm
import Derived.Maps.AppendAt
namespace Go.Proofs.YteekfahpbnbalaaDoor
open Go.RowKit Go.Shelf

attribute [local go_sem] Oper.semAt_some

abbrev encU (l : List Int) : List Value := l.map (Value.int .u64)
theorem belowB {n₀ : Nat} {w : World} (hn : n₀ ≤ w.heap.size) (W : World) (l : Nat) (o o' : Obj) (hl : w.heap.size ≤ l) (_ : W.heap[l]? = some o) (_ : o.isCells = false) (_ : o.isWalk = false) : Below n₀ W (W.putObj l o') :=
  ⟨rfl, rfl, rfl, by simp, fun k hk => World.putObj_heap_other (by omega)⟩
theorem one_new (W : World) (v : Value) (t : TypeId) (j : Nat) (u : Value) (h : [v][j]? = some u) : (W.alloc (.cells #[v] t)).cell? ((⟨W.heap.size, 0, none⟩ : Addr).add j) = some u := by
  rw [ad_add, Nat.zero_add]
  exact new_cell W #[v] t j u h
/-- What the function's own blocks hold between two rounds. -/
def InvA (w : World) (pre : List Int) (W : World) : Prop :=
  (∃ v, Boxed W w.heap.size 24 v ∧ W.ownsRow w.heap.size 35 1 v pre.length (encU pre) ∧ True) ∧ Below w.heap.size w W
theorem invA_own (w : World) (B : Nat) (hB : w.heap.size ≤ B) : OwnFrom B (InvA w) :=
  OwnFrom.and (Own.from (holdsRow_own w.heap.size w.heap.size 24 35 1 (fun pre => pre.length) (fun pre => encU pre) (fun _ _ => True)) _) (ownFrom_below (Nat.le_refl _) hB)
set_option maxRecDepth 100000 in
set_option maxHeartbeats 2000000 in
theorem appendSeq_in (Bs cb : Nat) (rb : Option Addr) (ls : List Int) (hls : ls.length ≤ 1000000) (w : World) (hWR : WR w rb ls)
    (hBs : w.heap[Bs]? = some (.cells #[.slice rb ls.length cb] 24 (0, 0))) :
    CallsIn Fence.wide 6 Tryd.prog 58 #[.slice none 0 0, .func (.func 52) #[] #[.pointer (some ⟨Bs, 0, none⟩)]] w fun e w' => Below w.heap.size w w' ∧
      ∃ v, e = .returned v ∧ w'.ownsRow w.heap.size 35 1 v ls.length (encU ls) := by
  obtain ⟨i0, hi, hz0, hz1, hz2⟩ := info_parts infoW
  refine callsIn_of_wp_marks Tryd.func58 rfl trivial ?_ rfl
  simp only [Tryd.ntmps58, List.size_toArray, List.length_cons, List.length_nil, Nat.reduceAdd, Nat.reduceSub, Array.replicate_succ, Array.replicate_zero, List.push_toArray, List.append_toArray, List.nil_append, List.cons_append]
  gi_wp2
  have hW0 : Below w.heap.size w (w.alloc (.cells #[.slice none 0 0] 24)) := (Below.refl _ w).alloc (Nat.le_refl _) _
  have b0 : Boxed (w.alloc (.cells #[.slice none 0 0] 24)) w.heap.size 24 (.slice none 0 0) := Boxed.new w 24 (.slice none 0 0)
  have hsz : (w.alloc (.cells #[.slice none 0 0] 24)).heap.size = w.heap.size + 1 := World.size_alloc ..
  obtain ⟨W0, hW0e⟩ : ∃ W0, w.alloc (.cells #[.slice none 0 0] 24) = W0 := ⟨_, rfl⟩
  rw [hW0e] at hW0 b0 hsz ⊢
  clear hW0e
  refine wpIn_rangeFunc_ownH rfl (by omega) (gf := 52) (lb := #[.pointer (some ⟨Bs, 0, none⟩)]) rfl trivial (enters_of Tryd.func52 (by kernel_rfl) rfl)
    (values1_stops 5 (by omega) Bs cb rb ls hls w hWR hBs) (fun h k => h.trans k) (belowB (by omega)) hW0 (fun _ => rfl)
    (InvA w) (fun _ _ _ => False) (invA_own w _ (by omega)) (fun _ _ _ _ _ h _ _ => h)
    ⟨⟨_, b0, World.ownsRow_nil _ _ _ _, trivial⟩, hW0⟩
    (fun x a' _ => a' = { tmps := #[.slice none 0 0, .func (.func 52) #[] #[.pointer (some ⟨Bs, 0, none⟩)], .pointer (some ⟨w.heap.size, 0, none⟩), undef, .slice none 0 0, .int .u64 x, .func (.func 52) #[] #[.pointer (some ⟨Bs, 0, none⟩)], .int .u64 x, undef, undef, undef, undef, undef], defers := [] })
    ?hAx ?assign ?body ?done ?stop
  case hAx => exact fun x a' _ A B row h _ _ => h
  case assign =>
    rintro l pre x W K hi hK
    simp only [encW]
    gi_wp2
    exact hK _ _ ((KeepsOthers.refl _).from _) (Below.refl _ _) hi rfl
  case body =>
    rintro l pre x a' W hl hr ⟨⟨v, hv, hrow, _⟩, hB⟩ rfl hlt
    have hc := hv.cell
    gi_wp2_with (gi_at_builtin; refine wpListIn_append_own _ rfl _ _ 24 rfl w.heap.size 35 i0 (.int .u64 0) 1 8 Tryd.underlying24 hi hz0 hz1 hz2 rfl (by decide) v pre.length (encU pre) rfl (hrow.alloc _) ⟨W.heap.size, 0, none⟩ 1 1 [.int .u64 x] rfl rfl (one_new _ _ _) (by simp [Value.oneCell']) (by unfold maxLen; omega) (by omega) (by have := hB.size; simp; omega) ?_; intro v' w1 hown' hgrow hn'; obtain ⟨g', cap', rfl⟩ := ownsRow_succ hown'; obtain ⟨hv1, hv2, hr2, hk2, hb2⟩ := hv.appended (by decide) hrow hB.size (Nat.le_refl _) hown' hgrow; have hc1 := hv1.cell; have hf1 := hv1.frozen)
    refine ⟨hk2.from _, hb2, ⟨⟨_, hv2, ?_, trivial⟩, hB.trans hb2⟩⟩
    have e : encU (pre ++ [x]) = encU pre ++ [.int .u64 x] := List.map_append ..
    rw [List.length_append, e]; exact hr2
  case done =>
    rintro D ys W hD rfl ⟨⟨v, hv, hrow, _⟩, hB⟩ hK
    have hc := hv.cell
    gi_wp2
    refine ⟨by simp, .inl ⟨_, _, rfl, run_takeDeferred hK, ?_⟩⟩
    exact ⟨v, by simp [results, go_sem], hB.trans (belowB (w := w) (Nat.le_refl _) _ D _ _ (by omega) hK rfl rfl), _, rfl, ownsRow_putObj hrow _ hK rfl⟩
  case stop =>
    rintro D c pre W hD hSp h hK
    exact h.elim
end Go.Proofs.YteekfahpbnbalaaDoor
