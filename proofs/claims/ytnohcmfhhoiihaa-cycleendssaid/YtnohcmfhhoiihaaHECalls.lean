/- CycleEnds: pick, rank, shade, around. -/
import Derived.Test.YtnohcmfhhoiihaaHEMem
namespace Go.Proofs.Ytnohcmfhhoiihaa
open Go.RowKit

theorem mod_pick {a n : Int} (ha : 0 ≤ a) (hn : 0 < n) : ∃ k : Nat, (k : Int) < n ∧ a.tmod n = k :=
  ⟨(a % n).toNat, by have := Int.emod_lt_of_pos a hn; have := Int.emod_nonneg a (by omega : n ≠ 0); omega, by
    rw [Int.tmod_eq_emod_of_nonneg ha]; have := Int.emod_nonneg a (by omega : n ≠ 0); omega⟩
set_option maxRecDepth 100000 in
set_option maxHeartbeats 4000000 in
theorem pick_fix (a : Int) (n : Nat) (ha : -9223372036854775808 ≤ a ∧ a ≤ 9223372036854775807) (hn : 0 < n) (hn' : n ≤ 281474976710656) :
    ∃ k : Nat, k < n ∧ ∀ w : World, Calls Try.prog 15 #[.int .i64 a, .int .i64 n] w fun e w' => e = .returned (.int .i64 k) ∧ w' = w := by
  have i2 : ((n : Int) == 0) = false := by simp; omega
  have hn1 : (0 : Int) < (n : Int) := by omega
  obtain ⟨a1, a2⟩ := ha
  by_cases h : a < 0
  · obtain ⟨k, hk, he⟩ := mod_pick (a := -(a + 1)) (n := (n : Int)) (by omega) hn1
    refine ⟨k, by omega, fun w => ?_⟩
    have i3 : a + 1 ≤ 9223372036854775807 := by omega
    have i4 : -9223372036854775808 ≤ a + 1 := by omega
    clear hk
    go_enter Try.func15, Try.ntmps15
    go_wp2
    go_ret
    exact ⟨by rw [← he]; rfl, rfl⟩
  · obtain ⟨k, hk, he⟩ := mod_pick (a := a) (n := (n : Int)) (by omega) hn1
    refine ⟨k, by omega, fun w => ?_⟩
    clear hk
    go_enter Try.func15, Try.ntmps15
    go_wp2
    go_ret
    exact ⟨by rw [← he]; rfl, rfl⟩
set_option maxRecDepth 100000 in
set_option maxHeartbeats 4000000 in
theorem rank_any (x r : Int) (w : World) (h : (x = 18 ∧ r = 0) ∨ (x = 19 ∧ r = 1) ∨ (x = 20 ∧ r = 2) ∨ (x = 21 ∧ r = 2) ∨ (x = 22 ∧ r = 3) ∨ (x = 23 ∧ r = 4) ∨ (x = 24 ∧ r = 5) ∨ (x = 25 ∧ r = 6)) : Calls Try.prog 18 #[.int .u8 x] w fun e w' => e = .returned (.int .i64 r) ∧ w' = w := by
  rcases h with ⟨rfl, rfl⟩ | ⟨rfl, rfl⟩ | ⟨rfl, rfl⟩ | ⟨rfl, rfl⟩ | ⟨rfl, rfl⟩ | ⟨rfl, rfl⟩ | ⟨rfl, rfl⟩ | ⟨rfl, rfl⟩
  all_goals
    go_enter Try.func18, Try.ntmps18
    go_wp2
    go_ret
    exact ⟨rfl, rfl⟩
/-- What shading turns. -/
def ShR (b : Nat) (w w' : World) : Prop := ∃ x y, w' = (w.setCell ⟨b, 4, none⟩ x).setCell ⟨b, 5, none⟩ y
set_option maxRecDepth 100000 in
set_option maxHeartbeats 4000000 in
theorem shade_set (w0 w1 w : World) (b n gr lf : Nat) (T : List Th) (h : TX w0 w1 w b T gr lf) (hn : n ≤ 5) (hs : gr + lf < 300) :
    Calls Try.prog 19 #[.pointer (some ⟨b, 0, none⟩), .int .i64 n] w fun e w' => e = .returned (.tuple #[]) ∧ TX w0 w1 w' b T (gr + min n lf) (lf - min n lf) ∧ ShR b w w' := by
  obtain ⟨v, h⟩ := h
  have c4 := heap_cell (j := 4) h.bl rfl
  have c5 := heap_cell (j := 5) h.bl rfl
  have z4 := fz_of h.bl 4
  have z5 := fz_of h.bl 5
  have lb := h.lt
  by_cases hc : n ≤ lf
  · have e : min n lf = n := Nat.min_eq_left hc
    rw [e]
    have HF : Hid (WX w0 w1 ((w.setCell ⟨b, 4, none⟩ (.int .i64 ((gr : Int) + n))).setCell ⟨b, 5, none⟩ (.int .i64 ((lf : Int) - n))) b v (rows T) ((gr : Int) + n) ((lf : Int) - n)) := (h.field (j := 4) (gr' := (gr : Int) + n) (lf' := lf) _ rfl).field (j := 5) _ rfl
    have k1 : (n : Int) ≤ (lf : Int) := by omega
    have k3 : (lf : Int) < 300 := by omega
    have k4 : (n : Int) ≤ 5 := by omega
    have k2 : (gr : Int) + n < 9223372036854775807 := by omega
    have HE : Hid (((lf - n : Nat) : Int) = (lf : Int) - n) := by show _ = _; omega
    have HG : Hid (((gr + n : Nat) : Int) = (gr : Int) + n) := by show _ = _; omega
    clear h hs e hc
    go_enter Try.func19, Try.ntmps19
    go_wp2
    refine bodyPost_end (results_none rfl _ _ _) rfl ⟨rfl, ⟨v, ?_⟩, _, _, rfl⟩
    rw [HE.out, HG.out]
    exact HF.out
  · have e : min n lf = lf := Nat.min_eq_right (by omega)
    rw [e]
    have HF : Hid (WX w0 w1 ((w.setCell ⟨b, 4, none⟩ (.int .i64 ((gr : Int) + lf))).setCell ⟨b, 5, none⟩ (.int .i64 0)) b v (rows T) ((gr : Int) + lf) 0) := (h.field (j := 4) (gr' := (gr : Int) + lf) (lf' := lf) _ rfl).field (j := 5) _ rfl
    have k1 : (lf : Int) < (n : Int) := by omega
    have k2 : (gr : Int) + lf < 9223372036854775807 := by omega
    have HE : Hid (((lf - lf : Nat) : Int) = 0) := by show _ = _; omega
    have HG : Hid (((gr + lf : Nat) : Int) = (gr : Int) + lf) := by show _ = _; omega
    clear h hs e hc
    go_enter Try.func19, Try.ntmps19
    go_wp2
    refine bodyPost_end (results_none rfl _ _ _) rfl ⟨rfl, ⟨v, ?_⟩, _, _, rfl⟩
    rw [HE.out, HG.out]
    exact HF.out
theorem shade_any (w0 w1 w : World) (b n gr lf : Nat) (T : List Th) (h : TX w0 w1 w b T gr lf) (hn : n ≤ 5) (hs : gr + lf < 300) :
    Calls Try.prog 19 #[.pointer (some ⟨b, 0, none⟩), .int .i64 n] w fun e w' => e = .returned (.tuple #[]) ∧ TX w0 w1 w' b T (gr + min n lf) (lf - min n lf) :=
  (shade_set w0 w1 w b n gr lf T h hn hs).mono fun _ _ h => ⟨h.1, h.2.1⟩
/-- What is seen of the threads from j on. -/
def ArAt (T : List Th) (j : Nat) (th : Int) (st tl : Bool) : Prop := (th = 0 ∧ st = false ∧ tl = false ∧ ∀ k t, j ≤ k → T[k]? = some t → t.sc = true) ∨ ∃ (k : Nat) (t : Th), th = (k : Int) + 1 ∧ T[k]? = some t ∧ t.sc = false ∧ t.st = st ∧ t.tl = tl
theorem ArAt.ok {T : List Th} {th : Int} {st tl : Bool} (h : ArAt T 0 th st tl) : ArOk T th st tl := by
  rcases h with ⟨h1, _, _, h2⟩ | h
  · refine .inl ⟨h1, fun t ht => ?_⟩
    obtain ⟨k, hk, e⟩ := List.mem_iff_getElem.1 ht
    exact h2 k t (Nat.zero_le _) (by rw [← e]; exact List.getElem?_eq_getElem hk)
  · exact .inr h
theorem results_a {fn : Func} {tmps : Array Value} {s g : Nat} {ce ag th : Int} {st tl gr : Bool} {W : World} (hres : fn.results = #[.cell s 29]) (h1 : tmps[s]? = some (.pointer (some ⟨g, 0, none⟩))) (k : AB W g ce ag th st tl gr) :
    (results fn tmps).run Try.prog W = .ok (.agg #[.int .i64 ce, .int .i64 ag, .int .i64 th, .bool st, .bool tl, .bool gr]) W := by
  have a0 := heap_cell (j := 0) k rfl
  have a1 := heap_cell (j := 1) k rfl
  have a2 := heap_cell (j := 2) k rfl
  have a3 := heap_cell (j := 3) k rfl
  have a4 := heap_cell (j := 4) k rfl
  have a5 := heap_cell (j := 5) k rfl
  obtain ⟨l1, e1⟩ := Array.getElem?_eq_some_iff.1 h1
  simp [results, hres, go_sem, l1, e1, a0, a1, a2, a3, a4, a5]
/-- How the loop of around stands. -/
structure AX (w0 wr : World) (b q : Nat) (n g : Int) (T : List Th) (gr lf : Nat) (gb : Bool) (B : World) (j : Nat) : Prop where
  tx : TX w0 B wr b T gr lf
  bel : Below B.heap.size B wr
  le : B.heap.size ≤ q
  q0 : ∃ a b c d e f, wr.heap[q]? = some (.cells #[a, b, c, d, e, f] 29 (0, 0))
  q1 : ∃ th st tl, ArAt T j th st tl ∧ wr.heap[q + 1]? = some (.cells #[.int .i64 n, .int .i64 g, .int .i64 th, .bool st, .bool tl, .bool gb] 29 (0, 0))
/-- What around tells. -/
def AroR (T : List Th) (n g : Int) (gr : Nat) (w : World) (e : Ending) (w' : World) : Prop := ∃ th st tl, e = .returned (.agg #[.int .i64 n, .int .i64 g, .int .i64 th, .bool st, .bool tl, .bool (decide (0 < gr))]) ∧ ArOk T th st tl ∧ Below w.heap.size w w'
set_option maxRecDepth 100000 in
set_option maxHeartbeats 8000000 in
theorem around_any (w0 w1 w : World) (b gr lf : Nat) (n g : Int) (T : List Th) (h : TX w0 w1 w b T gr lf) (hT : T.length ≤ 8) :
    Calls Try.prog 16 #[.pointer (some ⟨b, 0, none⟩), .int .i64 n, .int .i64 g] w fun e w' => AroR T n g gr w e w' := by
  obtain ⟨v, hx⟩ := h.re
  have h : WX w0 w w b v (rows T) gr lf := hx
  have c4 := heap_cell (j := 4) hx.bl rfl
  have lb := hx.lt
  obtain ⟨gb, hgb⟩ : ∃ gb, gb = decide (0 < gr) := ⟨_, rfl⟩
  have HG : Hid (gb = decide (0 < gr)) := hgb
  have hgr : decide (0 < gr) = gb := hgb.symm
  clear hgb
  have HA : Hid (AX w0 ((w.alloc (.cells #[.int .i64 0, .int .i64 0, .int .i64 0, .bool false, .bool false, .bool false] 29)).alloc (.cells #[.int .i64 n, .int .i64 g, .int .i64 0, .bool false, .bool false, .bool gb] 29)) b w.heap.size n g T gr lf gb w T.length) := by
    have h1 := heap_alloc_new w (.cells #[.int .i64 0, .int .i64 0, .int .i64 0, .bool false, .bool false, .bool false] 29)
    have b1 := (Below.refl w.heap.size w).alloc (Nat.le_refl _) (.cells #[.int .i64 0, .int .i64 0, .int .i64 0, .bool false, .bool false, .bool false] 29)
    have z1 := World.size_alloc w (.cells #[.int .i64 0, .int .i64 0, .int .i64 0, .bool false, .bool false, .bool false] 29)
    have h2 := heap_alloc_new (w.alloc (.cells #[.int .i64 0, .int .i64 0, .int .i64 0, .bool false, .bool false, .bool false] 29)) (.cells #[.int .i64 n, .int .i64 g, .int .i64 0, .bool false, .bool false, .bool gb] 29)
    have b2 := (Below.refl (w.alloc (.cells #[.int .i64 0, .int .i64 0, .int .i64 0, .bool false, .bool false, .bool false] 29)).heap.size (w.alloc (.cells #[.int .i64 0, .int .i64 0, .int .i64 0, .bool false, .bool false, .bool false] 29))).alloc (Nat.le_refl _) (.cells #[.int .i64 n, .int .i64 g, .int .i64 0, .bool false, .bool false, .bool gb] 29)
    rw [z1] at h2
    have b3 : Below w.heap.size w _ := b1.trans (b2.mono (by omega))
    refine ⟨⟨v, hx.keep b3⟩, b3, Nat.le_refl _, ⟨_, _, _, _, _, _, (b2.block _ (by omega)).trans h1⟩, 0, false, false, .inl ⟨rfl, rfl, rfl, fun k t hk ht => ?_⟩, h2⟩
    have := (List.getElem?_eq_some_iff.1 ht).1
    omega
  obtain ⟨W, hW⟩ : ∃ W, W = (w.alloc (.cells #[.int .i64 0, .int .i64 0, .int .i64 0, .bool false, .bool false, .bool false] 29)).alloc (.cells #[.int .i64 n, .int .i64 g, .int .i64 0, .bool false, .bool false, .bool gb] 29) := ⟨_, rfl⟩
  go_enter Try.func16, Try.ntmps16
  obtain ⟨rl, cl, hvl⟩ := own_sl hx.l
  have c0 : w.cell? ⟨b, 0, none⟩ = some (.slice rl T.length cl) := (heap_cell (j := 0) hx.bl rfl).trans (congrArg some hvl)
  go_upto_region 2 with fail
  rw [← hW] at HA ⊢
  have c0' : W.cell? ⟨b, 0, none⟩ = some (.slice rl T.length cl) := by exact (HA.out.bel.cell (p := ⟨b, 0, none⟩) lb).trans c0
  have lW : b < W.heap.size := Nat.lt_of_lt_of_le lb HA.out.bel.size
  clear hW c4 c0 hgr hvl
  have hT0 : (T.length : Int) ≤ 8 := by omega
  go_wp2
  clear hT0 c0' lW
  go_loopw [8] (fun i wr => ∃ i' : Int, i = .int .i64 i' ∧ -1 ≤ i' ∧ i' < (T.length : Int) ∧ Hid (AX w0 wr b w.heap.size n g T gr lf gb w (i' + 1).toNat)) (fun i _ => (intOf i + 1).toNat)
  case atStart => exact ⟨(T.length : Int) - 1, by first | rfl | go_num, by omega, by omega, by rw [show ((T.length : Int) - 1 + 1).toNat = T.length by omega]; exact HA⟩
  case round =>
    clear HA
    obtain ⟨i, rfl, hi1, hi2, HA⟩ := hrel
    by_cases hi : 0 ≤ i
    · obtain ⟨m, rfl⟩ := Int.eq_ofNat_of_zero_le hi
      have hm : m < T.length := by omega
      obtain ⟨th, st, tl, h1, h2⟩ := HA.out.q1
      have HO : Hid (ArAt T (((m : Int) + 1).toNat) th st tl) := h1
      have e0 : ((m : Int) + 1).toNat = m + 1 := by omega
      · obtain ⟨t, ht⟩ : ∃ t, T[m]? = some t := ⟨_, List.getElem?_eq_getElem hm⟩
        have HT : Hid (T[m]? = some t) := ht
        obtain ⟨v, hx⟩ := HA.out.tx
        obtain ⟨gs, cs, hvs, _, ls⟩ := own_form hx.s (show 0 < (rows T).ns from by show 0 < T.length; omega)
        obtain ⟨gt, ct, hvt, _, lt⟩ := own_form hx.t (show 0 < (rows T).nt from by show 0 < T.length; omega)
        obtain ⟨gl, cl, hvl, _, ll⟩ := own_form hx.l (show 0 < (rows T).nl from by show 0 < T.length; omega)
        have f0 : wr.cell? ⟨b, 0, none⟩ = some (.slice (some ⟨gl, 0, none⟩) T.length cl) := (heap_cell (j := 0) hx.bl rfl).trans (congrArg some hvl)
        have f1 : wr.cell? ⟨b, 1, none⟩ = some (.slice (some ⟨gs, 0, none⟩) T.length cs) := (heap_cell (j := 1) hx.bl rfl).trans (congrArg some hvs)
        have f2 : wr.cell? ⟨b, 2, none⟩ = some (.slice (some ⟨gt, 0, none⟩) T.length ct) := (heap_cell (j := 2) hx.bl rfl).trans (congrArg some hvt)
        have os := hx.s
        have ot := hx.t
        have ol := hx.l
        rw [hvs] at os
        rw [hvt] at ot
        rw [hvl] at ol
        have r1 : wr.cell? ⟨gs, m, none⟩ = some (.bool t.sc) := own_cell os (by show (T.map _)[m]? = _; rw [List.getElem?_map, ht]; rfl)
        have r2 : wr.cell? ⟨gt, m, none⟩ = some (.bool t.tl) := own_cell ot (by show (T.map _)[m]? = _; rw [List.getElem?_map, ht]; rfl)
        have r0 : wr.cell? ⟨gl, m * 4, none⟩ = some (.bool t.st) := own_cell ol (lf4_at T m t ht).1
        have lb' := hx.lt
        have k1 : (m : Int) < (T.length : Int) := by omega
        have k0 : (0 : Int) ≤ (m : Int) := by omega
        have d2 := heap_cell (j := 2) h2 rfl
        have d3 := heap_cell (j := 3) h2 rfl
        have d4 := heap_cell (j := 4) h2 rfl
        have y2 := fz_of h2 2
        have y3 := fz_of h2 3
        have y4 := fz_of h2 4
        have l1 := heap_lt h2
        have nb : b ≠ w.heap.size + 1 := ty_ne hx.bl h2 (by decide)
        have ns : gs ≠ w.heap.size + 1 := fun e => own_ty hx.s h2 (by decide) (by rw [hvs, e]; rfl)
        have nt : gt ≠ w.heap.size + 1 := fun e => own_ty hx.t h2 (by decide) (by rw [hvt, e]; rfl)
        have nl : gl ≠ w.heap.size + 1 := fun e => own_ty hx.l h2 (by decide) (by rw [hvl, e]; rfl)
        cases hsc : t.sc
        · have HF : Hid (AX w0 (((wr.setCell ⟨w.heap.size + 1, 2, none⟩ (.int .i64 ((m : Int) + 1))).setCell ⟨w.heap.size + 1, 3, none⟩ (.bool t.st)).setCell ⟨w.heap.size + 1, 4, none⟩ (.bool t.tl)) b w.heap.size n g T gr lf gb w m) := by
            have s1 := set_atC (j := 2) h2 (.int .i64 ((m : Int) + 1))
            have s2 := set_atC (j := 3) s1 (.bool t.st)
            have s3 := set_atC (j := 4) s2 (.bool t.tl)
            obtain ⟨_, _, _, _, _, _, h3⟩ := HA.out.q0
            have hw0 : w0.heap.size ≤ w.heap.size + 1 := by have := h.bel.size; omega
            refine ⟨⟨v, ((hx.other h2 hw0 (by omega) (by decide) (by decide) (by decide) (by decide) _).other s1 hw0 (by omega) (by decide) (by decide) (by decide) (by decide) _).other s2 hw0 (by omega) (by decide) (by decide) (by decide) (by decide) _⟩, ((HA.out.bel.setCell (by simp) _).setCell (by simp) _).setCell (by simp) _, HA.out.le, ⟨_, _, _, _, _, _, (Below.heap_setCell _ _ _ _ (by simp)).trans ((Below.heap_setCell _ _ _ _ (by simp)).trans ((Below.heap_setCell _ _ _ _ (by simp)).trans h3))⟩, _, _, _, .inr ⟨m, t, rfl, ht, hsc, rfl, rfl⟩, s3⟩
          rw [hsc] at r1
          clear h1 h2 hx os ot ol hvs hvt hvl ht hm HA HO
          go_wp2
          go_roundw
          case rel => exact ⟨(m : Int) - 1, by go_num, by omega, by omega, by rw [show ((m : Int) - 1 + 1).toNat = m by omega]; exact HF⟩
          case measure => first | (simp [intOf]; done) | (simp [intOf]; omega)
        · have HF : Hid (AX w0 wr b w.heap.size n g T gr lf gb w m) := by
            refine ⟨HA.out.tx, HA.out.bel, HA.out.le, HA.out.q0, th, st, tl, ?_, h2⟩
            rcases HO.out with ⟨q1, q2, q3, q4⟩ | q
            · refine .inl ⟨q1, q2, q3, fun k t' hk ht' => ?_⟩
              by_cases e : k = m
              · subst e
                rw [ht] at ht'
                cases ht'
                exact hsc
              · exact q4 k t' (by omega) ht'
            · exact .inr q
          rw [hsc] at r1
          clear h1 h2 hx os ot ol hvs hvt hvl ht hm HA HO
          go_wp2
          go_roundw
          case rel => exact ⟨(m : Int) - 1, by go_num, by omega, by omega, by rw [show ((m : Int) - 1 + 1).toNat = m by omega]; exact HF⟩
          case measure => first | (simp [intOf]; done) | (simp [intOf]; omega)
    · obtain rfl : i = -1 := by omega
      have HR : Hid (∃ th st tl, ArOk T th st tl ∧ wr.heap[w.heap.size + 1]? = some (.cells #[.int .i64 n, .int .i64 g, .int .i64 th, .bool st, .bool tl, .bool gb] 29 (0, 0))) := by
        obtain ⟨th, st, tl, h1, h2⟩ := HA.out.q1
        exact ⟨th, st, tl, h1.ok, h2⟩
      obtain ⟨th, st, tl, h1, h2⟩ := HR.out
      have HO : Hid (ArOk T th st tl) := h1
      have d0 := heap_cell (j := 0) h2 rfl
      have d1 := heap_cell (j := 1) h2 rfl
      have d2 := heap_cell (j := 2) h2 rfl
      have d3 := heap_cell (j := 3) h2 rfl
      have d4 := heap_cell (j := 4) h2 rfl
      have d5 := heap_cell (j := 5) h2 rfl
      have l1 := heap_lt h2
      obtain ⟨_, _, _, _, _, _, h3⟩ := HA.out.q0
      have e0 := heap_cell (j := 0) h3 rfl
      have z0 := fz_of h3 0
      have e1 := heap_cell (j := 1) h3 rfl
      have z1 := fz_of h3 1
      have e2 := heap_cell (j := 2) h3 rfl
      have z2 := fz_of h3 2
      have e3 := heap_cell (j := 3) h3 rfl
      have z3 := fz_of h3 3
      have e4 := heap_cell (j := 4) h3 rfl
      have z4 := fz_of h3 4
      have e5 := heap_cell (j := 5) h3 rfl
      have z5 := fz_of h3 5
      have l0 := heap_lt h3
      have H3 : Hid (AB ((((((wr.setCell ⟨w.heap.size, 0, none⟩ (.int .i64 n)).setCell ⟨w.heap.size, 1, none⟩ (.int .i64 g)).setCell ⟨w.heap.size, 2, none⟩ (.int .i64 th)).setCell ⟨w.heap.size, 3, none⟩ (.bool st)).setCell ⟨w.heap.size, 4, none⟩ (.bool tl)).setCell ⟨w.heap.size, 5, none⟩ (.bool gb)) w.heap.size n g th st tl gb) := set6 _ _ _ _ _ _ h3
      have HBf : Hid (Below w.heap.size w ((((((wr.setCell ⟨w.heap.size, 0, none⟩ (.int .i64 n)).setCell ⟨w.heap.size, 1, none⟩ (.int .i64 g)).setCell ⟨w.heap.size, 2, none⟩ (.int .i64 th)).setCell ⟨w.heap.size, 3, none⟩ (.bool st)).setCell ⟨w.heap.size, 4, none⟩ (.bool tl)).setCell ⟨w.heap.size, 5, none⟩ (.bool gb))) := (((((HA.out.bel.setCell (Nat.le_refl _) _).setCell (Nat.le_refl _) _).setCell (Nat.le_refl _) _).setCell (Nat.le_refl _) _).setCell (Nat.le_refl _) _).setCell (Nat.le_refl _) _
      clear h1 h2 h3 HR
      go_wp2
      refine bodyPost_ret (results_a (g := w.heap.size) rfl rfl H3.out) rfl ⟨th, st, tl, ?_, HO.out, HBf.out⟩
      rw [← HG.out]
end Go.Proofs.Ytnohcmfhhoiihaa
