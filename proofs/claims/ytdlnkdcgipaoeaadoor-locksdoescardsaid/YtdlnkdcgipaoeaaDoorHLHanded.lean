/- A thread hands a lock on: by the answers alone. -/
import Derived.Test.YtdlnkdcgipaoeaaDoorHLAsked
import Derived.Deep.Upon
namespace Go.Proofs.YtdlnkdcgipaoeaaDoor
open Go.RowKit

/-- All but the first, in place. -/
def Sl.rest (s : Sl) : Sl := if s.cap = 1 then ⟨s.ra, 0⟩ else ⟨s.ra.map (fun a => ⟨a.block, a.off + 1, none⟩), s.cap - 1⟩
theorem RI.rest {w : World} {s : Sl} {x : Int} {l : List Int} (h : RI w s (x :: l)) : RI w s.rest l := by
  rcases h with ⟨h, _⟩ | ⟨g, off, cs, h0, h1, h2, h3, h4⟩
  · cases h
  · obtain ⟨ra, ca⟩ := s
    dsimp only at h0 h2 h3
    subst h0
    simp only [List.length_cons] at h2
    by_cases e : ca = 1
    · subst e
      have hl : l = [] := List.eq_nil_of_length_eq_zero (by omega)
      subst hl
      exact .inr ⟨g, off, cs, rfl, h1, Nat.zero_le _, by show off + 0 ≤ _; omega, fun k y hy => by simp at hy⟩
    · have hr : (⟨some ⟨g, off, none⟩, ca⟩ : Sl).rest = ⟨some ⟨g, off + 1, none⟩, ca - 1⟩ := by
        unfold Sl.rest
        rw [if_neg e]
        rfl
      rw [hr]
      refine .inr ⟨g, off + 1, cs, rfl, h1, by dsimp only; omega, by dsimp only; omega, fun k y hy => ?_⟩
      have := h4 (k + 1) y (by simpa using hy)
      rw [show off + 1 + k = off + (k + 1) by omega]
      exact this
set_option maxRecDepth 100000 in
/-- A list of one's own: append to nothing. -/
theorem RI.copy {w : World} {s : Sl} {l : List Int} (h : RI w s l) (hl : l.length ≤ 1000) :
    ∃ s' w', (∀ ty, (Builtin.append_ #[62, 62] ty #[.slice none 0 0, .slice s.ra l.length s.cap]).run Tryd.prog w = .ok (.slice s'.ra l.length s'.cap) w') ∧ RI w' s' l ∧ (∀ g, g < w.heap.size → w'.heap[g]? = w.heap[g]?) ∧ Below 0 w w' ∧ (∀ g, s'.blk = some g → w.heap.size ≤ g) := by
  obtain ⟨i0, hi0, hz0, hz1, hz2⟩ := info_parts infoI
  by_cases h0 : l = []
  · subst h0
    have hsrc : Src Tryd.prog i0.size 62 (.slice s.ra 0 s.cap) 0 [] w := by
      rcases h with ⟨_, rfl⟩ | ⟨g, off, cs, e0, _⟩
      · exact Src.ofNil w Tryd.underlying62 0
      · rw [e0]
        exact Src.ofSlice w Tryd.underlying62 ⟨g, off, none⟩ 0 s.cap [] (by simp) (fun j u hj => by simp at hj) (fun u hu => by cases hu)
    exact ⟨⟨none, 0⟩, w, fun ty => run_append_nothing w 62 62 ty 3 i0 Tryd.underlying62 hi0 none 0 0 (Nat.le_refl _) _ hsrc, .inl ⟨rfl, rfl⟩, fun _ _ => rfl, Below.refl _ _, fun g hg => by cases hg⟩
  · rcases h with ⟨e, _⟩ | ⟨g, off, cs, e0, h1, h2, h3, h4⟩
    · exact absurd e h0
    · rw [e0]
      have hpos : 0 < l.length := List.length_pos_iff.2 h0
      have hn : ∀ (j : Nat) (u : Value), (l.map (Value.int .i64))[j]? = some u → w.cell? ((⟨g, off, none⟩ : Addr).add j) = some u := fun j u hj => by
        rw [ad_add]
        rw [List.getElem?_map] at hj
        cases hx : l[j]? with
        | none => rw [hx] at hj; cases hj
        | some y =>
          rw [hx] at hj
          cases hj
          exact heap_cell h1 (h4 j y hx)
      have hr := fun ty => run_append_nil (P := Tryd.prog) w 62 ty 3 i0 _ Tryd.underlying62 hi0 hz0 ⟨g, off, none⟩ l.length s.cap (l.map (Value.int .i64)) (by rw [hz1]; simp) hn (by omega) (by omega) (by rw [hz2]; omega)
      have hge := grownCap_ge w l.length 0 3
      refine ⟨⟨some ⟨w.heap.size, 0, none⟩, grownCap w l.length 0 3⟩, _, hr, ?_, fun k hk => Below.heap_alloc _ _ _ hk, (Below.refl 0 w).drew.alloc (Nat.zero_le _) _, fun k hk => by have := Option.some.inj hk; dsimp only at this; omega⟩
      refine .inr ⟨w.heap.size, 0, _, rfl, heap_alloc_new w.drew _, hge, ?_, fun k x hx => ?_⟩
      · have h2 : (Value.int .i64 0).cells.size = 1 := by kernel_rfl
        simp only [Array.size_append, List.size_toArray, size_zeroCells, h2, List.length_map]
        omega
      · have hk := (List.getElem?_eq_some_iff.1 hx).1
        rw [Nat.zero_add, Array.getElem?_append_left (by simpa using hk), List.getElem?_toArray, List.getElem?_map, hx]
        rfl
section
variable {w0 w : World} {b gr gj : Nat} {R : List (Sl × List Int)} {J : List Int} {B : Bk} {F : Nat → Prop}
set_option maxRecDepth 100000 in
set_option maxHeartbeats 4000000 in
theorem handed_any (h : JF w0 w b gr gj R J B F) (hr : Rel B R J) {t : Int} (hg : goB B t = 0) {n : Nat} (hn : n < 3) :
    Calls Tryd.prog 19 #[.pointer (some ⟨b, 0, none⟩), .int .i64 t, .int .i64 (n : Int), .slice (some ⟨gr, 0, none⟩) 3 3] w fun e w' => OkR w0 b gr gj e w' := by
  obtain ⟨x, p, hx, hp, hpx⟩ := hr.at hn
  have hlt := (List.getElem?_eq_some_iff.1 hx).1
  have HH : Hid _ := holder_n h.bb hx
  have HL : Hid _ := unlock_any h.bb hr.iv.sh t (n : Int)
  have hiv := unlock_iv hr.iv t (n : Int)
  rw [unlock_is hg hx] at HL hiv
  have HJ : Hid (JF w0 w b gr gj R J B F ∧ Rel B R J) := ⟨h, hr⟩
  have k0 : (0 : Int) ≤ (n : Int) := by omega
  have k3 : (n : Int) < 3 := by omega
  by_cases h1 : x.ho = t
  · rw [if_neg (by simpa using h1)] at HL hiv
    dsimp only at HL hiv
    rw [h1] at HH
    have HX : Hid ((B.l.set n (hnd x))[n]? = some (hnd x) ∧ R[n]? = some p ∧ p.2.length ≤ 8) := ⟨List.getElem?_set_self hlt, hp, by rw [hpx]; exact hr.iv.short (rows_l hx)⟩
    cases hrow : x.row with
    | nil =>
      have HR : Hid (Rel { B with l := B.l.set n (hnd x) } R J) := ⟨by
        rw [List.map_set, hr.re]
        have e : (B.l.map (·.row))[n]? = some x.row := by rw [List.getElem?_map, hx]; rfl
        have e2 := (List.getElem?_eq_some_iff.1 e).2
        have e3 : (hnd x).row = x.row := by unfold hnd; rw [hrow]; rfl
        rw [e3, ← e2]
        exact (List.set_getElem_self _).symm, hr.jl, fun k v h1 h2 h3 => (hr.jn k v h1 h2 h3).same rfl, hiv, hr.tl, by show (B.l.set n _).length = 3; rw [List.length_set]; exact hr.ll⟩
      have hho : (hnd x).ho = 0 := by unfold hnd; rw [hrow]; rfl
      have HHo : Hid ((hnd x).ho = 0) := hho
      rw [hrow] at HL hpx
      dsimp only [List.headD_nil] at HL
      obtain ⟨⟨pra, pca⟩, pl⟩ := p
      dsimp only at hpx
      subst hpx
      clear h hr hiv hp hx h1 hho hrow
      go_enter Tryd.func19, Tryd.ntmps19
      go_wp2_with fail
      refine Calls.mono HH.out ?_
      rintro e w2 ⟨rfl, hw2⟩
      rw [hw2]
      clear hw2
      go_wp2_with fail
      refine Calls.mono HL.out ?_
      rintro e w1 ⟨rfl, F1, hB1, hC1⟩
      have hJ1 := HJ.out.1.book hB1 hC1
      have HJ1 : Hid (JF w0 w1 b gr gj R J { B with l := B.l.set n (hnd x) } F1) := hJ1
      have c1 := hJ1.rcell HX.out.2.1
      have lgr := heap_lt hJ1.rz.obj
      have HH1 : Hid (Calls Tryd.prog 22 #[.pointer (some ⟨b, 0, none⟩), .int .i64 (n : Int)] w1 fun e w' => e = .returned (.int .i64 0) ∧ w' = w1) := by
        have := holder_n hB1 HX.out.1
        rw [HHo.out] at this
        exact this
      unfold rc at c1
      dsimp only at c1
      clear hB1 hC1 HL HH hJ1
      go_wp2_with fail
      refine Calls.mono HH1.out ?_
      rintro e w2 ⟨rfl, hw2⟩
      rw [hw2]
      clear hw2
      go_wp2
      refine bodyPost_ret (results_tmp2 rfl _ _ _) rfl ?_
      exact ⟨rfl, R, J, _, F1, HJ1.out, HR.out⟩
    | cons y r =>
      have HR : Hid (∀ s : Sl, Rel { B with l := B.l.set n (hnd x) } (R.set n (s, r)) J) := fun s => ⟨by
        rw [List.map_set, List.map_set, hr.re]
        have e3 : (hnd x).row = r := by unfold hnd; rw [hrow]; rfl
        rw [e3], hr.jl, fun k v h1 h2 h3 => (hr.jn k v h1 h2 h3).same rfl, hiv, hr.tl, by show (B.l.set n _).length = 3; rw [List.length_set]; exact hr.ll⟩
      have hho : (hnd x).ho = y := by unfold hnd; rw [hrow]; rfl
      have HHo : Hid ((hnd x).ho = y) := hho
      rw [hrow] at HL hpx
      dsimp only [List.headD_cons] at HL
      obtain ⟨⟨pra, pca⟩, pl⟩ := p
      dsimp only at hpx
      subst hpx
      clear h hr hiv hp hx h1 hho hrow
      go_enter Tryd.func19, Tryd.ntmps19
      go_wp2_with fail
      refine Calls.mono HH.out ?_
      rintro e w2 ⟨rfl, hw2⟩
      rw [hw2]
      clear hw2
      go_wp2_with fail
      refine Calls.mono HL.out ?_
      rintro e w1 ⟨rfl, F1, hB1, hC1⟩
      have hJ1 := HJ.out.1.book hB1 hC1
      have c1 := hJ1.rcell HX.out.2.1
      have lgr := heap_lt hJ1.rz.obj
      have f1 := hJ1.rfz n
      have HH1 : Hid (Calls Tryd.prog 22 #[.pointer (some ⟨b, 0, none⟩), .int .i64 (n : Int)] w1 fun e w' => e = .returned (.int .i64 y) ∧ w' = w1) := by
        have := holder_n hB1 HX.out.1
        rw [HHo.out] at this
        exact this
      have hRI := hJ1.rz.rr.r n _ HX.out.2.1
      have hRe := hRI.rest
      obtain ⟨g, off, hra, hcap, lg, cy, -, -⟩ := hRI.cons
      obtain ⟨s2, w2, hap, q1, q2, q3, q4⟩ := hRe.copy (by have := HX.out.2.2; simp only [List.length_cons] at this; omega)
      have hJ3 := hJ1.row (w1 := w2) (q := (s2, r)) HX.out.2.1 q1 (fun g hg _ => q2 g hg) q3 (fun g hg => .inr (q4 g hg))
      have HJ3 : Hid (JF w0 (w2.setCell ⟨gr, n, none⟩ (.slice s2.ra r.length s2.cap)) b gr gj (R.set n (s2, r)) J { B with l := B.l.set n (hnd x) } F1) := hJ3
      have hob : w2.heap[gr]? = some (.cells (R.map rc).toArray 62 (0, 0)) := (q2 gr lgr).trans hJ1.rz.obj
      have c3 : w2.cell? ⟨gr, n, none⟩ = some (rc (⟨pra, pca⟩, y :: r)) := heap_cell hob (by simp [HX.out.2.1])
      have f3 : w2.frozen? ⟨gr, n, none⟩ = false := by simp [World.frozen?, hob]
      have l3 := heap_lt hob
      unfold rc at c1 c3
      obtain ⟨ra2, ca2⟩ := s2
      dsimp only at hra hcap
      subst hra
      dsimp only at c1 c3 hap
      have k4 : (0 : Int) < ((y :: r).length : Int) := by simp only [List.length_cons]; omega
      have k5 : (1 : Int) ≤ ((y :: r).length : Int) := by simp only [List.length_cons]; omega
      clear hB1 hC1 HL HH hJ1 hRI hRe q1 q2 q3 q4 hJ3 hob HHo
      generalize hln : r.length = ln at *
      have hln2 : (y :: r).length = ln + 1 := by simp only [List.length_cons]; omega
      rw [hln2] at c1 c3 k4 k5
      clear hln2
      by_cases hca : pca = 1
      · subst hca
        have h0 : ln = 0 := by omega
        subst h0
        unfold Sl.rest at hap
        rw [if_pos rfl] at hap
        dsimp only at hap
        go_wp2_with fail
        refine Calls.mono HH1.out ?_
        rintro e w2 ⟨rfl, hw2⟩
        rw [hw2]
        clear hw2
        go_wp2_with (at_builtin; refine stop_of ?_)
        unfold Hid
        refine wpList_append_known _ rfl _ _ 62 62 rfl _ _ rfl rfl (hap _) ?_
        clear hap
        go_wp2
        refine bodyPost_ret (results_tmp2 rfl _ _ _) rfl ?_
        exact ⟨rfl, _, J, _, F1, HJ3.out, HR.out ⟨ra2, ca2⟩⟩
      · unfold Sl.rest at hap
        rw [if_neg hca] at hap
        dsimp only [Option.map_some] at hap
        have k6 : ¬ pca - 1 = 0 := by omega
        have k7 : (ln : Int) + 1 ≤ (pca : Int) := by omega
        go_wp2_with fail
        refine Calls.mono HH1.out ?_
        rintro e w2 ⟨rfl, hw2⟩
        rw [hw2]
        clear hw2
        go_wp2_with (at_builtin; refine stop_of ?_)
        unfold Hid
        refine wpList_append_known _ rfl _ _ 62 62 rfl _ _ rfl rfl (hap _) ?_
        clear hap
        go_wp2
        refine bodyPost_ret (results_tmp2 rfl _ _ _) rfl ?_
        exact ⟨rfl, _, J, _, F1, HJ3.out, HR.out ⟨ra2, ca2⟩⟩
  · rw [if_pos (by simpa using h1)] at HL
    dsimp only at HL
    have HX : Hid (B.l[n]? = some x) := hx
    generalize hho : x.ho = ho at HH h1
    have HHo : Hid (x.ho = ho) := hho
    clear h hr hiv hp hpx hx hho
    go_enter Tryd.func19, Tryd.ntmps19
    go_wp2_with fail
    refine Calls.mono HH.out ?_
    rintro e w2 ⟨rfl, hw2⟩
    rw [hw2]
    clear hw2
    go_wp2_with fail
    refine Calls.mono HL.out ?_
    rintro e w1 ⟨rfl, F1, hB1, hC1⟩
    have HJ1 : Hid (JF w0 w1 b gr gj R J B F1) := HJ.out.1.book hB1 hC1
    have HH1 : Hid (Calls Tryd.prog 22 #[.pointer (some ⟨b, 0, none⟩), .int .i64 (n : Int)] w1 fun e w' => e = .returned (.int .i64 ho) ∧ w' = w1) := by
      have := holder_n hB1 HX.out
      rw [HHo.out] at this
      exact this
    clear hB1 hC1 HL HH
    go_wp2_with fail
    refine Calls.mono HH1.out ?_
    rintro e w2 ⟨rfl, hw2⟩
    rw [hw2]
    clear hw2
    go_wp2
    refine bodyPost_ret (results_tmp2 rfl _ _ _) rfl ?_
    exact ⟨rfl, R, J, B, F1, HJ1.out, HJ.out.2⟩
end
end Go.Proofs.YtdlnkdcgipaoeaaDoor
