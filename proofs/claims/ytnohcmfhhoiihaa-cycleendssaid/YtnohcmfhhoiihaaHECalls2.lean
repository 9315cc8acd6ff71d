/- CycleEnds: lays, born. -/
import Derived.Test.YtnohcmfhhoiihaaHECalls
namespace Go.Proofs.Ytnohcmfhhoiihaa
open Go.RowKit

theorem own_fz {w : World} {base e size n cap g : Nat} {xs : List Value} (h : w.ownsRow base e size (.slice (some ⟨g, 0, none⟩) n cap) n xs) (j : Nat) : w.frozen? ⟨g, j, none⟩ = false := by
  obtain ⟨cs, h1, _⟩ := own_out h
  exact fz_of h1 j
/-- What lays leaves. -/
def LaR (w0 w1 : World) (b : Nat) (T : List Th) (k : Nat) (t : Th) (gr lf : Nat) (e : Ending) (w' : World) : Prop :=
  e = .returned (.tuple #[]) ∧ ((0 < t.la ∧ TX w0 w1 w' b (T.set k { t with la := t.la - 1 }) gr lf) ∨ (t.la = 0 ∧ ∃ gr' lf', gr' + lf' = gr + lf ∧ TX w0 w1 w' b (T.set k { t with sc := true }) gr' lf'))
set_option maxRecDepth 100000 in
set_option maxHeartbeats 8000000 in
theorem lays_any (w0 w1 w : World) (b k gr lf : Nat) (T : List Th) (t : Th) (h : TX w0 w1 w b T gr lf) (hT : OkT T) (ht : T[k]? = some t) (hs : gr + lf < 300) :
    Calls Try.prog 17 #[.pointer (some ⟨b, 0, none⟩), .int .i64 k] w fun e w' => LaR w0 w1 b T k t gr lf e w' := by
  obtain ⟨v, hx⟩ := h
  have hk := (List.getElem?_eq_some_iff.1 ht).1
  obtain ⟨gs, cs, hvs, _, ls⟩ := own_form hx.s (show 0 < (rows T).ns from by show 0 < T.length; omega)
  obtain ⟨gt, ct, hvt, _, lt⟩ := own_form hx.t (show 0 < (rows T).nt from by show 0 < T.length; omega)
  obtain ⟨gl, cl, hvl, _, ll⟩ := own_form hx.l (show 0 < (rows T).nl from by show 0 < T.length; omega)
  obtain ⟨ga, ca, hva, _, la⟩ := own_form hx.a (show 0 < (rows T).na from by show 0 < T.length; omega)
  have f0 : w.cell? ⟨b, 0, none⟩ = some (.slice (some ⟨gl, 0, none⟩) T.length cl) := (heap_cell (j := 0) hx.bl rfl).trans (congrArg some hvl)
  have f1 : w.cell? ⟨b, 1, none⟩ = some (.slice (some ⟨gs, 0, none⟩) T.length cs) := (heap_cell (j := 1) hx.bl rfl).trans (congrArg some hvs)
  have f2 : w.cell? ⟨b, 2, none⟩ = some (.slice (some ⟨gt, 0, none⟩) T.length ct) := (heap_cell (j := 2) hx.bl rfl).trans (congrArg some hvt)
  have f3 : w.cell? ⟨b, 3, none⟩ = some (.slice (some ⟨ga, 0, none⟩) T.length ca) := (heap_cell (j := 3) hx.bl rfl).trans (congrArg some hva)
  have os := hx.s
  have ot := hx.t
  have ol := hx.l
  have oa := hx.a
  rw [hvs] at os
  rw [hvt] at ot
  rw [hvl] at ol
  rw [hva] at oa
  have r1 : w.cell? ⟨gs, k, none⟩ = some (.bool t.sc) := own_cell os (by show (T.map _)[k]? = _; rw [List.getElem?_map, ht]; rfl)
  have r2 : w.cell? ⟨gt, k, none⟩ = some (.bool t.tl) := own_cell ot (by show (T.map _)[k]? = _; rw [List.getElem?_map, ht]; rfl)
  have r3 : w.cell? ⟨ga, k, none⟩ = some (.int .i64 (t.la : Int)) := own_cell oa (by show (T.map _)[k]? = _; rw [List.getElem?_map, ht]; rfl)
  obtain ⟨q0, q1, q2, q3⟩ := lf4_at T k t ht
  have r0 : w.cell? ⟨gl, k * 4, none⟩ = some (.bool t.st) := own_cell ol q0
  have r0b : w.cell? ⟨gl, k * 4 + 2, none⟩ = some (.bool t.bo) := own_cell ol q2
  have r0s : w.cell? ⟨gl, k * 4 + 3, none⟩ = some (.int .i64 t.sh) := own_cell ol q3
  have zs : w.frozen? ⟨gs, k, none⟩ = false := own_fz os k
  have zt : w.frozen? ⟨gt, k, none⟩ = false := own_fz ot k
  have za : w.frozen? ⟨ga, k, none⟩ = false := own_fz oa k
  have zl : w.frozen? ⟨gl, k * 4 + 2, none⟩ = false := own_fz ol _
  have lb := hx.lt
  have k1 : (k : Int) < (T.length : Int) := by omega
  have k0 : (0 : Int) ≤ (k : Int) := by omega
  have hsh := (hT.at ht).2.2
  have hla := (hT.at ht).1
  by_cases hl : 0 < t.la
  · have HF : Hid (TX w0 w1 (w.setCell ⟨ga, k, none⟩ (.int .i64 ((t.la : Int) - 1))) b (T.set k { t with la := t.la - 1 }) gr lf) := by
      refine ⟨v, ?_⟩
      rw [rows_la ht]
      have := hx.putA hva (k := k) (by show k < (T.map _).length; rw [List.length_map]; exact hk) (.int .i64 ((t.la : Int) - 1))
      rw [show ((t.la - 1 : Nat) : Int) = (t.la : Int) - 1 by omega]
      exact this
    have k2 : (0 : Int) < (t.la : Int) := by omega
    have k3 : (t.la : Int) ≤ 3 := by omega
    clear q0 q1 q2 q3 os ot ol oa hx hvs hvt hvl hva hT
    go_enter Try.func17, Try.ntmps17
    go_wp2
    exact bodyPost_ret (results_none rfl _ _ _) rfl ⟨rfl, .inl ⟨hl, HF.out⟩⟩
  · have h0 : t.la = 0 := by omega
    rw [h0] at r3
    obtain ⟨p, hp, hq⟩ := pick_fix t.sh 5 hsh (by omega) (by omega)
    have HP : Hid (∀ w : World, Calls Try.prog 15 #[.int .i64 t.sh, .int .i64 5] w fun e w' => e = .returned (.int .i64 p) ∧ w' = w) := hq
    have HF : Hid (TX w0 w1 (w.setCell ⟨gs, k, none⟩ (.bool true)) b (T.set k { t with sc := true }) gr lf) := by
      refine ⟨v, ?_⟩
      rw [rows_sc ht]
      exact hx.putS hvs (k := k) (by show k < (T.map _).length; rw [List.length_map]; exact hk) (.bool true)
    have HS : Hid (Calls Try.prog 19 #[.pointer (some ⟨b, 0, none⟩), .int .i64 p] (w.setCell ⟨gs, k, none⟩ (.bool true)) fun e w' => e = .returned (.tuple #[]) ∧ TX w0 w1 w' b (T.set k { t with sc := true }) (gr + min p lf) (lf - min p lf)) := shade_any w0 w1 _ b p gr lf _ HF.out (by omega) hs
    have n1 : b ≠ gs := fun e => own_ty hx.s hx.bl (by decide) (by rw [hvs, e]; rfl)
    have n2 : gl ≠ gs := fun e => own_ne hx.l hx.s (by decide) gl (by rw [hvl]; rfl) (by rw [hvs, e]; rfl)
    clear q0 q1 q2 q3 os ot ol oa hx hvs hvt hvl hva hT hq
    go_enter Try.func17, Try.ntmps17
    go_wp2_with fail
    refine Calls.mono (HP.out _) ?_
    rintro e w1 ⟨rfl, rfl⟩
    go_wp2_with fail
    refine Calls.mono HS.out ?_
    rintro e w2 ⟨rfl, hx2⟩
    go_wp2_with fail
    refine bodyPost_end (results_none rfl _ _ _) rfl ⟨rfl, .inr ⟨h0, _, _, ?_, hx2⟩⟩
    omega
end Go.Proofs.Ytnohcmfhhoiihaa
