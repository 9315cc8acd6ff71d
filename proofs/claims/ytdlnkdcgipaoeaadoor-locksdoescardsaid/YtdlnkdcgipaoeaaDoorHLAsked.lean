/- A thread asks for a lock; hands it on: by the answers alone. -/
import Derived.Test.YtdlnkdcgipaoeaaDoorGD
namespace Go.Proofs.YtdlnkdcgipaoeaaDoor
open Go.RowKit

theorem isL_nat {n m : Nat} (h : n < m) : isL m (n : Int) = true := by
  unfold isL
  simp
  exact h
theorem lock_is {B : Bk} {t : Int} {n : Nat} {x : Lk} (hg : goB B t = 0) (hx : B.l[n]? = some x) : lockM B t (n : Int) = if x.ho = t then ((false, 191), B) else if x.ho = 0 then ((true, 0), { B with l := B.l.set n { x with ho := t } }) else ((false, 0), { B with l := B.l.set n { x with row := x.row ++ [t] } }) := by
  have hlt := (List.getElem?_eq_some_iff.1 hx).1
  unfold lockM
  rw [isL_nat hlt, if_neg (by simp), if_neg (by simpa using hg), Int.toNat_natCast, hx]
theorem unlock_is {B : Bk} {t : Int} {n : Nat} {x : Lk} (hg : goB B t = 0) (hx : B.l[n]? = some x) : unlockM B t (n : Int) = if x.ho ≠ t then ((0, 192), B) else ((x.row.headD 0, 0), { B with l := B.l.set n (hnd x) }) := by
  have hlt := (List.getElem?_eq_some_iff.1 hx).1
  unfold unlockM
  rw [isL_nat hlt, if_neg (by simp), if_neg (by simpa using hg), Int.toNat_natCast, hx]
  rfl
theorem hoB_is {B : Bk} {n : Nat} {x : Lk} (hx : B.l[n]? = some x) : hoB B (n : Int) = x.ho := by
  have hlt := (List.getElem?_eq_some_iff.1 hx).1
  unfold hoB
  rw [isL_nat hlt, if_pos rfl, Int.toNat_natCast, hx]
theorem holder_n {w : World} {b n : Nat} {B : Bk} {F : Nat → Prop} {x : Lk} (h : BB w b B F) (hx : B.l[n]? = some x) : Calls Tryd.prog 22 #[.pointer (some ⟨b, 0, none⟩), .int .i64 (n : Int)] w fun e w' => e = .returned (.int .i64 x.ho) ∧ w' = w := by
  have := holder_B h (n : Int)
  rw [hoB_is hx] at this
  exact this
section
variable {w0 w : World} {b gr gj : Nat} {R : List (Sl × List Int)} {J : List Int} {B : Bk} {F : Nat → Prop}
set_option maxRecDepth 100000 in
set_option maxHeartbeats 4000000 in
theorem asked_any (h : JF w0 w b gr gj R J B F) (hr : Rel B R J) {t : Int} (hg : goB B t = 0) {n : Nat} (hn : n < 3) (_ : t ≠ 0) :
    Calls Tryd.prog 18 #[.pointer (some ⟨b, 0, none⟩), .int .i64 t, .int .i64 (n : Int), .slice (some ⟨gr, 0, none⟩) 3 3] w fun e w' => OkR w0 b gr gj e w' := by
  obtain ⟨x, p, hx, hp, hpx⟩ := hr.at hn
  have hlt := (List.getElem?_eq_some_iff.1 hx).1
  have HH : Hid _ := holder_n h.bb hx
  have HL : Hid _ := lock_any h.bb hr.iv.sh t (n : Int)
  have hiv := lock_iv hr.iv t (n : Int)
  have htt := lock_t B t (n : Int)
  rw [lock_is hg hx] at HL hiv htt
  have HJ : Hid (JF w0 w b gr gj R J B F ∧ Rel B R J) := ⟨h, hr⟩
  have k0 : (0 : Int) ≤ (n : Int) := by omega
  have k3 : (n : Int) < 3 := by omega
  by_cases h1 : x.ho = t
  · rw [if_pos h1] at HL
    rw [h1] at HH
    dsimp only at HL
    have HX : Hid (B.l[n]? = some x ∧ x.ho = t) := ⟨hx, h1⟩
    clear h hr hiv htt hp hpx hx h1
    go_enter Tryd.func18, Tryd.ntmps18
    go_wp2_with fail
    refine Calls.mono HH.out ?_
    rintro e w2 ⟨rfl, hw2⟩
    rw [hw2]
    clear hw2
    go_wp2_with fail
    refine Calls.mono HL.out ?_
    rintro e w1 ⟨rfl, F1, hB1, hC1⟩
    have HJ1 : Hid (JF w0 w1 b gr gj R J B F1) := HJ.out.1.book hB1 hC1
    have HH1 : Hid _ := holder_n hB1 HX.out.1
    rw [HX.out.2] at HH1
    clear hB1 hC1 HL HH
    go_wp2_with fail
    refine Calls.mono HH1.out ?_
    rintro e w2 ⟨rfl, hw2⟩
    rw [hw2]
    clear hw2
    go_wp2
    refine bodyPost_ret (results_tmp2 rfl _ _ _) rfl ?_
    exact ⟨rfl, R, J, B, F1, HJ1.out, HJ.out.2⟩
  · rw [if_neg h1] at HL hiv htt
    by_cases h2 : x.ho = 0
    · rw [if_pos h2] at HL hiv htt
      rw [h2] at HH h1
      dsimp only at HL hiv htt
      have HR : Hid (Rel { B with l := B.l.set n { x with ho := t } } R J) := ⟨by
        rw [List.map_set, hr.re]
        show (B.l.map (·.row)) = (B.l.map (·.row)).set n x.row
        have e : (B.l.map (·.row))[n]? = some x.row := by rw [List.getElem?_map, hx]; rfl
        have e2 := (List.getElem?_eq_some_iff.1 e).2
        rw [← e2]
        exact (List.set_getElem_self _).symm, hr.jl, fun k v h1 h2 h3 => (hr.jn k v h1 h2 h3).same rfl, hiv, hr.tl, by show (B.l.set n _).length = 3; rw [List.length_set]; exact hr.ll⟩
      have HX : Hid ((B.l.set n { x with ho := t })[n]? = some { x with ho := t }) := List.getElem?_set_self hlt
      clear h hr hiv htt hp hpx hx h2
      go_enter Tryd.func18, Tryd.ntmps18
      go_wp2_with fail
      refine Calls.mono HH.out ?_
      rintro e w2 ⟨rfl, hw2⟩
      rw [hw2]
      clear hw2
      go_wp2_with fail
      refine Calls.mono HL.out ?_
      rintro e w1 ⟨rfl, F1, hB1, hC1⟩
      have HJ1 : Hid (JF w0 w1 b gr gj R J { B with l := B.l.set n { x with ho := t } } F1) := HJ.out.1.book hB1 hC1
      have HH1 : Hid (Calls Tryd.prog 22 #[.pointer (some ⟨b, 0, none⟩), .int .i64 (n : Int)] w1 fun e w' => e = .returned (.int .i64 t) ∧ w' = w1) := holder_n hB1 HX.out
      clear hB1 hC1 HL HH
      go_wp2_with fail
      refine Calls.mono HH1.out ?_
      rintro e w2 ⟨rfl, hw2⟩
      rw [hw2]
      clear hw2
      go_wp2
      refine bodyPost_ret (results_tmp2 rfl _ _ _) rfl ?_
      exact ⟨rfl, R, J, _, F1, HJ1.out, HR.out⟩
    · rw [if_neg h2] at HL hiv htt
      dsimp only at HL hiv htt
      have HR : Hid (∀ s : Sl, Rel { B with l := B.l.set n { x with row := x.row ++ [t] } } (R.set n (s, p.2 ++ [t])) J) := fun s => ⟨by
        rw [List.map_set, List.map_set, hr.re, hpx], hr.jl, fun k v h1 h2 h3 => (hr.jn k v h1 h2 h3).same rfl, hiv, hr.tl, by show (B.l.set n _).length = 3; rw [List.length_set]; exact hr.ll⟩
      have HX : Hid ((B.l.set n { x with row := x.row ++ [t] })[n]? = some { x with row := x.row ++ [t] } ∧ R[n]? = some p ∧ p.2.length ≤ 8) := ⟨List.getElem?_set_self hlt, hp, by rw [hpx]; exact hr.iv.short (rows_l hx)⟩
      generalize hho : x.ho = ho at HH h1 h2
      have HHo : Hid (x.ho = ho) := hho
      clear h hr hiv htt hp hpx hx hho
      go_enter Tryd.func18, Tryd.ntmps18
      go_wp2_with fail
      refine Calls.mono HH.out ?_
      rintro e w2 ⟨rfl, hw2⟩
      rw [hw2]
      clear hw2
      go_wp2_with fail
      refine Calls.mono HL.out ?_
      rintro e w1 ⟨rfl, F1, hB1, hC1⟩
      have hJ1 := HJ.out.1.book hB1 hC1
      have HJ1 : Hid (JF w0 w1 b gr gj R J { B with l := B.l.set n { x with row := x.row ++ [t] } } F1) := hJ1
      have c1 := hJ1.rcell HX.out.2.1
      have lgr := heap_lt hJ1.rz.obj
      have hRI := hJ1.rz.rr.r n p HX.out.2.1
      have hk : ∀ g, g < w1.heap.size → (w1.alloc (.cells #[.int .i64 t] 3)).heap[g]? = w1.heap[g]? := fun g hg => Below.heap_alloc _ _ _ hg
      have hz : (w1.alloc (.cells #[.int .i64 t] 3)).heap.size = w1.heap.size + 1 := World.size_alloc ..
      obtain ⟨s3, w3, hap, q1, q2, q3, q4⟩ := (hRI.kept (w' := w1.alloc (.cells #[.int .i64 t] 3)) (fun g hg => hk g (hRI.lt hg))).snoc (by have := HX.out.2.2; omega) t w1.heap.size (heap_alloc_new w1 _)
      have hJ3 := hJ1.row (w1 := w3) (q := (s3, p.2 ++ [t])) HX.out.2.1 q1 (fun g hg hne => (q2 g (by omega) hne).trans (hk g hg)) (((Below.refl 0 w1).alloc (Nat.zero_le _) _).trans q3) (fun g hg => by
        rcases q4 with e | e
        · exact .inl (by rw [← e]; exact hg)
        · rw [e] at hg
          have := Option.some.inj hg
          right
          omega)
      have hob : w3.heap[gr]? = some (.cells (R.map rc).toArray 62 (0, 0)) := (q2 gr (by omega) (fun e => by
        obtain ⟨c, hc⟩ := hRI.bt e
        have := hJ1.rz.obj
        rw [hc] at this
        cases this)).trans ((hk gr lgr).trans hJ1.rz.obj)
      have c3 : w3.cell? ⟨gr, n, none⟩ = some (rc p) := heap_cell hob (by simp [HX.out.2.1])
      have f3 : w3.frozen? ⟨gr, n, none⟩ = false := by simp [World.frozen?, hob]
      have l3 := heap_lt hob
      have hrc : rc (s3, p.2 ++ [t]) = .slice s3.ra (p.2.length + 1) s3.cap := by unfold rc; simp
      rw [hrc] at hJ3
      have HJ3 : Hid _ := hJ3
      have HH1 : Hid (Calls Tryd.prog 22 #[.pointer (some ⟨b, 0, none⟩), .int .i64 (n : Int)] (w3.setCell ⟨gr, n, none⟩ (.slice s3.ra (p.2.length + 1) s3.cap)) fun e w' => e = .returned (.int .i64 ho) ∧ w' = w3.setCell ⟨gr, n, none⟩ (.slice s3.ra (p.2.length + 1) s3.cap)) := by
        have := holder_n hJ3.bb HX.out.1
        dsimp only at this
        rw [HHo.out] at this
        exact this
      obtain ⟨⟨pra, pca⟩, pl⟩ := p
      obtain ⟨ra3, ca3⟩ := s3
      unfold rc at c1 c3
      dsimp only at c1 c3 hap HH1
      clear hB1 hC1 HL HH hJ1 hRI q1 q2 q3 q4 hJ3 hob hk hz hrc HHo
      go_wp2_with (at_builtin; refine stop_of ?_)
      unfold Hid
      refine wpList_append_known _ rfl _ _ 62 62 rfl _ _ rfl rfl (hap _) ?_
      clear hap
      go_wp2_with fail
      refine Calls.mono HH1.out ?_
      rintro e w2 ⟨rfl, hw2⟩
      rw [hw2]
      clear hw2
      go_wp2
      refine bodyPost_ret (results_tmp2 rfl _ _ _) rfl ?_
      exact ⟨rfl, _, J, _, F1, HJ3.out, HR.out ⟨ra3, ca3⟩⟩
end
end Go.Proofs.YtdlnkdcgipaoeaaDoor
