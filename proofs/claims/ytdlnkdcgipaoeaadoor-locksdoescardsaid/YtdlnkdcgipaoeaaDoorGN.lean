/- The document's New of numbers that may not be.; LocksDoes: pairs of books, in rows, beside the book of lists. -/
import Derived.Test.YtdlnkdcgipaoeaaDoorHLTab
import Derived.Test.YtdlnkdcgipaoeaaDoorHLTells
/- The document's New of numbers that may not be. -/
namespace Go.Proofs.YtdlnkdcgipaoeaaDoor
open Go.RowKit

set_option maxRecDepth 100000 in
set_option maxHeartbeats 4000000 in
theorem dNew_bad (n m : Int) (h : n < 0 ∨ 8 < n ∨ m < 0 ∨ 64 < m) (w : World) :
    Calls Tryd.prog 9 #[.int .i64 n, .int .i64 m] w fun e w' => e = .returned (.tuple #[.pointer none, .int .i64 1]) ∧ w' = w := by
  by_cases h1 : n < 0
  · clear h
    go_enter Tryd.func9, Tryd.ntmps9
    go_wp2
    exact bodyPost_ret (results_tmp2 rfl _ _ _) rfl ⟨rfl, rfl⟩
  by_cases h2 : n > 8
  · clear h
    go_enter Tryd.func9, Tryd.ntmps9
    go_wp2
    exact bodyPost_ret (results_tmp2 rfl _ _ _) rfl ⟨rfl, rfl⟩
  by_cases h3 : m < 0
  · clear h
    go_enter Tryd.func9, Tryd.ntmps9
    go_wp2
    exact bodyPost_ret (results_tmp2 rfl _ _ _) rfl ⟨rfl, rfl⟩
  have h4 : m > 64 := by omega
  clear h
  go_enter Tryd.func9, Tryd.ntmps9
  go_wp2
  exact bodyPost_ret (results_tmp2 rfl _ _ _) rfl ⟨rfl, rfl⟩
end Go.Proofs.YtdlnkdcgipaoeaaDoor

/- LocksDoes: pairs of books, in rows, beside the book of lists. -/
namespace Go.Proofs.YtdlnkdcgipaoeaaDoor
open Go.RowKit

/-- A pair of books that are the same. -/
def PR (w : World) (b r : Nat) (F : Nat → Prop) : Prop := ∃ B D F1 F2, BB w b B F1 ∧ DB w r D F2 ∧ (∀ g, F1 g → ¬ F2 g) ∧ Sim B D ∧ Iv B ∧ F = fun g => F1 g ∨ F2 g
theorem PR.lt {w : World} {b r : Nat} {F : Nat → Prop} (h : PR w b r F) {g : Nat} (hg : F g) : g < w.heap.size := by
  obtain ⟨B, D, F1, F2, h1, h2, -, -, -, rfl⟩ := h
  rcases hg with hg | hg
  · exact h1.lt hg
  · exact h2.lt hg
theorem PR.kept {w w' : World} {b r : Nat} {F : Nat → Prop} (h : PR w b r F) (hk : ∀ g, F g → w'.heap[g]? = w.heap[g]?) : PR w' b r F := by
  obtain ⟨B, D, F1, F2, h1, h2, h3, h4, h5, rfl⟩ := h
  exact ⟨B, D, F1, F2, h1.kept (fun g hg => hk g (.inl hg)), h2.kept (fun g hg => hk g (.inr hg)), h3, h4, h5, rfl⟩
/-- The types of rows of books. -/
def RowTy (t : TypeId) : Prop := t = 48 ∨ t = 52
theorem BB.ty {w : World} {b : Nat} {B : Bk} {F : Nat → Prop} (h : BB w b B F) {g : Nat} (hg : F g) : ∃ cs t, w.heap[g]? = some (.cells cs t (0, 0)) ∧ ¬ RowTy t := by
  obtain ⟨pt, pl, pg, T, L, hX, -, -, rfl⟩ := h
  rcases hg with (rfl | hg | hg | hg) | hg
  · exact ⟨_, _, hX.obj, by unfold RowTy; decide⟩
  · obtain ⟨cs, h⟩ := hX.tb hg; exact ⟨_, _, h, by unfold RowTy; decide⟩
  · obtain ⟨cs, h⟩ := hX.lb hg; exact ⟨_, _, h, by unfold RowTy; decide⟩
  · obtain ⟨cs, h⟩ := hX.gb hg; exact ⟨_, _, h, by unfold RowTy; decide⟩
  · obtain ⟨cs, h⟩ := hX.rb hg; exact ⟨_, _, h, by unfold RowTy; decide⟩
theorem DB.ty {w : World} {r : Nat} {D : Dk} {F : Nat → Prop} (h : DB w r D F) {g : Nat} (hg : F g) : ∃ cs t, w.heap[g]? = some (.cells cs t (0, 0)) ∧ ¬ RowTy t := by
  obtain ⟨pt, pl, pg, L, hX, -, rfl⟩ := h
  rcases hg with (rfl | hg | hg | hg) | hg
  · exact ⟨_, _, hX.obj, by unfold RowTy; decide⟩
  · obtain ⟨cs, h⟩ := hX.tb hg; exact ⟨_, _, h, by unfold RowTy; decide⟩
  · obtain ⟨cs, h⟩ := hX.lb hg; exact ⟨_, _, h, by unfold RowTy; decide⟩
  · obtain ⟨cs, h⟩ := hX.gb hg; exact ⟨_, _, h, by unfold RowTy; decide⟩
  · obtain ⟨cs, h⟩ := hX.rb hg; exact ⟨_, _, h, by unfold RowTy; decide⟩
theorem Bks.ty {w : World} {k M : Nat} {G : Nat → Prop} (h : Bks w k M G) {g : Nat} (hg : G g) : ∃ cs t, w.heap[g]? = some (.cells cs t (0, 0)) ∧ ¬ RowTy t := by
  obtain ⟨vi, vw, Ni, Nw, Vi, Vw, h1, -, -, h2⟩ := h
  obtain ⟨n1, X1, s1⟩ := h1.si
  obtain ⟨n2, X2, s2⟩ := h1.sw
  rcases (h2 g).1 hg with rfl | (hg | ⟨j, hj, hg⟩) | (hg | ⟨j, hj, hg⟩)
  · exact ⟨_, _, h1.bi.heap, by unfold RowTy; decide⟩
  · obtain ⟨cs, h⟩ := own_blk s1.row hg; exact ⟨_, _, h, by unfold RowTy; decide⟩
  · obtain ⟨cs, h⟩ := own_blk (s1.own j hj) hg; exact ⟨_, _, h, by unfold RowTy; decide⟩
  · obtain ⟨cs, h⟩ := own_blk s2.row hg; exact ⟨_, _, h, by unfold RowTy; decide⟩
  · obtain ⟨cs, h⟩ := own_blk (s2.own j hj) hg; exact ⟨_, _, h, by unfold RowTy; decide⟩
def AllF (FF : List (Nat → Prop)) (G : Nat → Prop) (g : Nat) : Prop := (∃ F ∈ FF, F g) ∨ G g
structure DP (w0 w : World) (k M : Nat) (P : List (Nat × Nat)) (FF : List (Nat → Prop)) (G : Nat → Prop) : Prop where
  ps : ∀ (i : Nat) (p : Nat × Nat) (F : Nat → Prop), P[i]? = some p → FF[i]? = some F → PR w p.1 p.2 F
  ln : FF.length = P.length
  bk : Bks w k M G
  ij : ∀ (i j : Nat) (F F' : Nat → Prop), FF[i]? = some F → FF[j]? = some F' → i ≠ j → ∀ g, F g → ¬ F' g
  ig : ∀ (i : Nat) (F : Nat → Prop), FF[i]? = some F → ∀ g, F g → ¬ G g
  nw : ∀ g, AllF FF G g → w0.heap.size ≤ g
  bl : Below w0.heap.size w0 w
section
variable {w0 w w' : World} {k M : Nat} {P : List (Nat × Nat)} {FF : List (Nat → Prop)} {G : Nat → Prop}
theorem DP.at (h : DP w0 w k M P FF G) {F : Nat → Prop} (hF : F ∈ FF) : ∃ (i : Nat) (p : Nat × Nat), FF[i]? = some F ∧ P[i]? = some p ∧ PR w p.1 p.2 F := by
  obtain ⟨i, hi⟩ := List.getElem?_of_mem hF
  have hlt := (List.getElem?_eq_some_iff.1 hi).1
  have hp := List.getElem?_eq_getElem (l := P) (i := i) (by rw [← h.ln]; exact hlt)
  exact ⟨i, _, hi, hp, h.ps i _ F hp hi⟩
theorem DP.lt (h : DP w0 w k M P FF G) {g : Nat} (hg : AllF FF G g) : g < w.heap.size := by
  rcases hg with ⟨F, hF, hg⟩ | hg
  · obtain ⟨i, p, -, -, hp⟩ := h.at hF
    exact hp.lt hg
  · exact h.bk.lt g hg
theorem DP.ty (h : DP w0 w k M P FF G) {g : Nat} (hg : AllF FF G g) : ∃ cs t, w.heap[g]? = some (.cells cs t (0, 0)) ∧ ¬ RowTy t := by
  rcases hg with ⟨F, hF, hg⟩ | hg
  · obtain ⟨i, p, -, -, B, D, F1, F2, h1, h2, -, -, -, rfl⟩ := h.at hF
    rcases hg with hg | hg
    · exact h1.ty hg
    · exact h2.ty hg
  · exact h.bk.ty hg
theorem DP.kept (h : DP w0 w k M P FF G) (hk : ∀ g, AllF FF G g → w'.heap[g]? = w.heap[g]?) (hb : Below w0.heap.size w0 w') : DP w0 w' k M P FF G :=
  ⟨fun i p F hp hF => (h.ps i p F hp hF).kept (fun g hg => hk g (.inl ⟨F, List.mem_of_getElem? hF, hg⟩)), h.ln, h.bk.kept (fun g hg => hk g (.inr hg)), h.ij, h.ig, h.nw, hb⟩
theorem DP.quiet (h : DP w0 w k M P FF G) (hb : Below w.heap.size w w') : DP w0 w' k M P FF G := h.kept (fun g hg => hb.block g (h.lt hg)) (h.bl.trans (hb.mono h.bl.size))
/-- One pair more. -/
theorem DP.add (h : DP w0 w k M P FF G) {b r : Nat} {F : Nat → Prop} (hp : PR w b r F) (hf : ∀ g, F g → w0.heap.size ≤ g ∧ ¬ AllF FF G g) : DP w0 w k M (P ++ [(b, r)]) (FF ++ [F]) G := by
  have old : ∀ (i : Nat) (F' : Nat → Prop), (FF ++ [F])[i]? = some F' → (FF[i]? = some F') ∨ (i = FF.length ∧ F' = F) := fun i F' hi => by
    by_cases hlt : i < FF.length
    · rw [List.getElem?_append_left hlt] at hi
      exact .inl hi
    · rw [List.getElem?_append_right (by omega)] at hi
      have e1 : i - FF.length = 0 := by
        have := (List.getElem?_eq_some_iff.1 hi).1
        simpa using this
      rw [e1] at hi
      exact .inr ⟨by omega, (Option.some.inj hi).symm⟩
  refine ⟨fun i p F' hP hF => ?_, by simp [h.ln], h.bk, fun i j F' F'' hi hj hne g hg hg' => ?_, fun i F' hi g hg hG => ?_, fun g hg => ?_, h.bl⟩
  · rcases old i F' hF with hF | ⟨rfl, rfl⟩
    · have hlt := (List.getElem?_eq_some_iff.1 hF).1
      rw [List.getElem?_append_left (by rw [← h.ln]; exact hlt)] at hP
      exact h.ps i p F' hP hF
    · rw [h.ln, List.getElem?_append_right (Nat.le_refl _), Nat.sub_self] at hP
      cases hP
      exact hp
  · rcases old i F' hi with hi' | ⟨ei, eF⟩
    · rcases old j F'' hj with hj' | ⟨ej, eF'⟩
      · exact h.ij i j F' F'' hi' hj' hne g hg hg'
      · rw [eF'] at hg'
        exact (hf g hg').2 (.inl ⟨F', List.mem_of_getElem? hi', hg⟩)
    · rw [eF] at hg
      rcases old j F'' hj with hj' | ⟨ej, eF'⟩
      · exact (hf g hg).2 (.inl ⟨F'', List.mem_of_getElem? hj', hg'⟩)
      · omega
  · rcases old i F' hi with hi | ⟨rfl, rfl⟩
    · exact h.ig i F' hi g hg hG
    · exact (hf g hg).2 (.inr hG)
  · rcases hg with ⟨F', hF', hg⟩ | hg
    · rcases List.mem_append.1 hF' with hF' | hF'
      · exact h.nw g (.inl ⟨F', hF', hg⟩)
      · rw [List.mem_singleton.1 hF'] at hg
        exact (hf g hg).1
    · exact h.nw g (.inr hg)
/-- A call of one pair. -/
theorem DP.on (h : DP w0 w k M P FF G) {i : Nat} {p : Nat × Nat} (hp : P[i]? = some p) {f : Nat} {args : Array Value} (H : ∀ B D U, PX w p.1 p.2 k B D M U → Sim B D → Iv B → Calls Tryd.prog f args w fun e w' => e = .returned (.bool true) ∧ ∃ B' D' U', PX w' p.1 p.2 k B' D' (M + 1) U' ∧ Sim B' D' ∧ Iv B' ∧ Chg U U' w w') :
    Calls Tryd.prog f args w fun e w' => e = .returned (.bool true) ∧ (∃ FF' G', DP w0 w' k (M + 1) P FF' G') ∧ Below w0.heap.size w0 w' ∧ ∀ (g : Nat) (cs : Array Value) (t : TypeId), w.heap[g]? = some (.cells cs t (0, 0)) → RowTy t → w'.heap[g]? = w.heap[g]? := by
  have hlt := (List.getElem?_eq_some_iff.1 hp).1
  have hF := List.getElem?_eq_getElem (l := FF) (i := i) (by rw [h.ln]; exact hlt)
  obtain ⟨F, hFe⟩ : ∃ F, F = FF[i]'(by rw [h.ln]; exact hlt) := ⟨_, rfl⟩
  rw [← hFe] at hF
  obtain ⟨B, D, F1, F2, h1, h2, h3, h4, h5, hFF⟩ := h.ps i p F hp hF
  have hU : ∀ g, U3 F1 F2 G g → AllF FF G g := fun g hg => by
    rcases hg with hg | hg | hg
    · exact .inl ⟨F, List.mem_of_getElem? hF, by rw [hFF]; exact .inl hg⟩
    · exact .inl ⟨F, List.mem_of_getElem? hF, by rw [hFF]; exact .inr hg⟩
    · exact .inr hg
  have hX : PX w p.1 p.2 k B D M (U3 F1 F2 G) := ⟨F1, F2, G, ⟨h1, h2, h.bk, h3, fun g hg => h.ig i F hF g (by rw [hFF]; exact .inl hg), fun g hg => h.ig i F hF g (by rw [hFF]; exact .inr hg)⟩, rfl⟩
  refine Calls.mono (H B D _ hX h4 h5) ?_
  rintro e w' ⟨rfl, B', D', U', ⟨G1, G2, G3, hm, rfl⟩, hS, hI, hC⟩
  have hbl : Below w0.heap.size w0 w' := ⟨hC.2.1.os.trans h.bl.os, hC.2.1.tape.trans h.bl.tape, hC.2.1.output.trans h.bl.output, Nat.le_trans h.bl.size hC.2.1.size, fun g hg => by
    rw [hC.1 g (Nat.lt_of_lt_of_le hg h.bl.size) (fun e => by have := h.nw g (hU g e); omega)]
    exact h.bl.block g hg⟩
  have oth : ∀ (j : Nat) (F' : Nat → Prop), FF[j]? = some F' → i ≠ j → ∀ g, F' g → ¬ U3 F1 F2 G g := fun j F' hj hne g hg hu => by
    rcases hu with hu | hu | hu
    · exact h.ij i j F F' hF hj hne g (by rw [hFF]; exact .inl hu) hg
    · exact h.ij i j F F' hF hj hne g (by rw [hFF]; exact .inr hu) hg
    · exact h.ig j F' hj g hg hu
  have lt' : ∀ (j : Nat) (F' : Nat → Prop), FF[j]? = some F' → ∀ g, F' g → g < w.heap.size := fun j F' hj g hg => h.lt (.inl ⟨F', List.mem_of_getElem? hj, hg⟩)
  have noff : ∀ (j : Nat) (F' : Nat → Prop), FF[j]? = some F' → i ≠ j → ∀ g, F' g → ¬ U3 G1 G2 G3 g := fun j F' hj hne g hg => hC.off (lt' j F' hj g hg) (oth j F' hj hne g hg)
  have hil : i < FF.length := by rw [h.ln]; exact hlt
  have get : ∀ (j : Nat) (F' : Nat → Prop), (FF.set i (fun g => G1 g ∨ G2 g))[j]? = some F' → (i ≠ j ∧ FF[j]? = some F') ∨ (i = j ∧ F' = fun g => G1 g ∨ G2 g) := fun j F' hj => by
    by_cases e : i = j
    · subst e
      rw [List.getElem?_set_self hil] at hj
      exact .inr ⟨rfl, (Option.some.inj hj).symm⟩
    · rw [List.getElem?_set_ne e] at hj
      exact .inl ⟨e, hj⟩
  refine ⟨rfl, ⟨FF.set i (fun g => G1 g ∨ G2 g), G3, ⟨fun j q F' hq hj => ?_, by rw [List.length_set]; exact h.ln, hm.k, fun a c F' F'' ha hc hne g hg hg' => ?_, fun a F' ha g hg hG => ?_, fun g hg => ?_, hbl⟩⟩, hbl, fun g cs t hg ht => ?_⟩
  · rcases get j F' hj with ⟨e, hj⟩ | ⟨rfl, rfl⟩
    · exact (h.ps j q F' hq hj).kept (fun g hg => hC.1 g (lt' j F' hj g hg) (oth j F' hj e g hg))
    · rw [hp] at hq
      cases hq
      exact ⟨B', D', G1, G2, hm.p, hm.d, hm.d12, hS, hI, rfl⟩
  · rcases get a F' ha with ⟨ea, ha⟩ | ⟨ea, rfl⟩
    · rcases get c F'' hc with ⟨ec, hc⟩ | ⟨ec, rfl⟩
      · exact h.ij a c F' F'' ha hc hne g hg hg'
      · refine noff a F' ha ea g hg ?_
        rcases hg' with hg' | hg'
        · exact .inl hg'
        · exact .inr (.inl hg')
    · rcases get c F'' hc with ⟨ec, hc⟩ | ⟨ec, rfl⟩
      · refine noff c F'' hc ec g hg' ?_
        rcases hg with hg | hg
        · exact .inl hg
        · exact .inr (.inl hg)
      · omega
  · rcases get a F' ha with ⟨ea, ha⟩ | ⟨ea, rfl⟩
    · exact noff a F' ha ea g hg (.inr (.inr hG))
    · rcases hg with hg | hg
      · exact hm.d13 g hg hG
      · exact hm.d23 g hg hG
  · have hcase : (∃ (j : Nat) (F' : Nat → Prop), FF[j]? = some F' ∧ F' g) ∨ U3 G1 G2 G3 g := by
      rcases hg with ⟨F', hF', hg⟩ | hg
      · obtain ⟨j, hj⟩ := List.getElem?_of_mem hF'
        rcases get j F' hj with ⟨-, hj⟩ | ⟨-, rfl⟩
        · exact .inl ⟨j, F', hj, hg⟩
        · rcases hg with hg | hg
          · exact .inr (.inl hg)
          · exact .inr (.inr (.inl hg))
      · exact .inr (.inr (.inr hg))
    rcases hcase with ⟨j, F', hj, hg⟩ | hg
    · exact h.nw g (.inl ⟨F', List.mem_of_getElem? hj, hg⟩)
    · rcases hC.2.2 g hg with e | e
      · exact h.nw g (hU g e)
      · exact Nat.le_trans h.bl.size e
  · refine hC.1 g (heap_lt hg) (fun e => ?_)
    obtain ⟨cs', t', h1, h2⟩ := h.ty (hU g e)
    rw [hg] at h1
    cases h1
    exact h2 ht
theorem dp_step (h : DP w0 w k M P FF G) (hM : M ≤ 900000) {i : Nat} {p : Nat × Nat} (hp : P[i]? = some p) (o : Sp) :
    Calls Tryd.prog 10 #[.pointer (some ⟨p.1, 0, none⟩), .pointer (some ⟨p.2, 0, none⟩), .agg #[.int .i64 o.k, .int .i64 o.t, .int .i64 o.n, .int .u64 o.w, .int .i64 o.e], .pointer (some ⟨k, 0, none⟩)] w fun e w' => e = .returned (.bool true) ∧ (∃ FF' G', DP w0 w' k (M + 1) P FF' G') ∧ Below w0.heap.size w0 w' ∧ ∀ (g : Nat) (cs : Array Value) (t : TypeId), w.heap[g]? = some (.cells cs t (0, 0)) → RowTy t → w'.heap[g]? = w.heap[g]? :=
  h.on hp (fun B D U hX hs hI => by
    refine Calls.mono (step_any hX (by omega) hs hI hI o) ?_
    rintro e w' ⟨v, rfl, hv, D', U', h1, h2, h3⟩
    rw [hv rfl]
    exact ⟨rfl, _, D', U', h1, h2, step_iv hI o, h3⟩)
theorem dp_tells (h : DP w0 w k M P FF G) (hM : M ≤ 900000) {i : Nat} {p : Nat × Nat} (hp : P[i]? = some p) :
    Calls Tryd.prog 11 #[.pointer (some ⟨p.1, 0, none⟩), .pointer (some ⟨p.2, 0, none⟩), .pointer (some ⟨k, 0, none⟩)] w fun e w' => e = .returned (.bool true) ∧ (∃ FF' G', DP w0 w' k (M + 1) P FF' G') ∧ Below w0.heap.size w0 w' ∧ ∀ (g : Nat) (cs : Array Value) (t : TypeId), w.heap[g]? = some (.cells cs t (0, 0)) → RowTy t → w'.heap[g]? = w.heap[g]? :=
  h.on hp (fun B D U hX hs hI => by
    refine Calls.mono (tells_any hX (by omega) hs hI) ?_
    rintro e w' ⟨rfl, U', h1, h2⟩
    exact ⟨rfl, B, D, U', h1, hs, hI, h2⟩)
theorem dp_own (h : DP w0 w k M P FF G) (hM : M ≤ 900000) :
    Calls Tryd.prog 12 #[.pointer (some ⟨k, 0, none⟩)] w fun e w' => e = .returned (.bool true) ∧ Below w0.heap.size w0 w' := by
  obtain ⟨vi, vw, Ni, Nw, Vi, Vw, hB, hNi, hNw, hG⟩ := h.bk
  have hsz := h.bl.size
  have hq : ∀ g, G g → ¬ g < w0.heap.size := fun g hg hh => by
    have := h.nw g (.inr hg)
    omega
  refine (bookOwn_any (fun g => g < w0.heap.size) k vi vw Ni Nw Vi Vw w (by omega) (by omega) (fun g hg => by omega) hB (fun j hj g hg => hq g ((hG g).2 (.inr (.inl (.inr ⟨j, hj, hg⟩))))) (fun j hj g hg => hq g ((hG g).2 (.inr (.inr (.inr ⟨j, hj, hg⟩)))))).mono fun e w' hh => ⟨hh.1, ?_⟩
  have hc := (h.bl.mono (Nat.zero_le _)).trans hh.2.1
  exact ⟨hc.os, hc.tape, hc.output, hc.size, fun g hg => (hh.2.2 g hg (by omega)).trans (h.bl.block g hg)⟩
end
/-- The rows of both. -/
structure RW (w : World) (vb vr : Value) (P : List (Nat × Nat)) : Prop where
  b : w.ownsRow 0 48 1 vb P.length (P.map (fun p => .pointer (some ⟨p.1, 0, none⟩)))
  r : w.ownsRow 0 52 1 vr P.length (P.map (fun p => .pointer (some ⟨p.2, 0, none⟩)))
theorem RW.kept {w w' : World} {vb vr : Value} {P : List (Nat × Nat)} (h : RW w vb vr P) (hk : ∀ (g : Nat) (cs : Array Value) (t : TypeId), w.heap[g]? = some (.cells cs t (0, 0)) → RowTy t → w'.heap[g]? = w.heap[g]?) : RW w' vb vr P :=
  ⟨own_same h.b (fun g hg => by
    obtain ⟨cs, hc⟩ := own_blk h.b hg
    exact hk g cs _ hc (.inl rfl)), own_same h.r (fun g hg => by
    obtain ⟨cs, hc⟩ := own_blk h.r hg
    exact hk g cs _ hc (.inr rfl))⟩
theorem RW.quiet {w w' : World} {vb vr : Value} {P : List (Nat × Nat)} (h : RW w vb vr P) (hb : Below w.heap.size w w') : RW w' vb vr P := h.kept (fun g _ _ hg _ => hb.block g (heap_lt hg))
theorem RW.at {w : World} {vb vr : Value} {P : List (Nat × Nat)} (h : RW w vb vr P) {i : Nat} {p : Nat × Nat} (hp : P[i]? = some p) : ∃ g1 c1 g2 c2, vb = .slice (some ⟨g1, 0, none⟩) P.length c1 ∧ vr = .slice (some ⟨g2, 0, none⟩) P.length c2 ∧ g1 < w.heap.size ∧ g2 < w.heap.size ∧ w.cell? ⟨g1, i, none⟩ = some (.pointer (some ⟨p.1, 0, none⟩)) ∧ w.cell? ⟨g2, i, none⟩ = some (.pointer (some ⟨p.2, 0, none⟩)) := by
  have hlt := (List.getElem?_eq_some_iff.1 hp).1
  obtain ⟨g1, c1, e1, -, -⟩ := World.ownsRow.form h.b (by omega)
  obtain ⟨g2, c2, e2, -, -⟩ := World.ownsRow.form h.r (by omega)
  have hb := h.b
  have hr := h.r
  rw [e1] at hb
  rw [e2] at hr
  obtain ⟨cs, k1, _, _, _, _, _, k2⟩ := own_out hb
  obtain ⟨ds, m1, _, _, _, _, _, m2⟩ := own_out hr
  exact ⟨g1, c1, g2, c2, e1, e2, heap_lt k1, heap_lt m1, heap_cell k1 (k2 i _ (by rw [List.getElem?_map, hp]; rfl)), heap_cell m1 (m2 i _ (by rw [List.getElem?_map, hp]; rfl))⟩
end Go.Proofs.YtdlnkdcgipaoeaaDoor
