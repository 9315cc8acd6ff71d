/- A step of both books: an end; a global; nothing. -/
import Derived.Test.YtdlnkdcgipaoeaaDoorHLStep
namespace Go.Proofs.YtdlnkdcgipaoeaaDoor
open Go.RowKit

theorem Chg.join {U U2 U4 S : Nat → Prop} {w w3 w4 : World} (h : Chg U U2 w w3) (k : Chg (fun g => U2 g ∨ S g) U4 w3 w4) (hS : ∀ g, S g → w.heap.size ≤ g) : Chg U U4 w w4 := by
  refine ⟨fun g hg hn => (k.1 g (Nat.lt_of_lt_of_le hg h.2.1.size) (fun e => ?_)).trans (h.1 g hg hn), h.2.1.trans k.2.1, fun g hg => ?_⟩
  · rcases e with e | e
    · exact h.off hg hn e
    · have := hS g e
      omega
  · rcases k.2.2 g hg with (e | e) | e
    · exact h.2.2 g e
    · exact .inr (hS g e)
    · exact .inr (Nat.le_trans h.2.1.size e)
theorem end_len {B : Bk} {D : Dk} (hs : Sim B D) (hI : Iv B) (t wd er : Int) : (endM B t wd er).1.1.length ≤ 8 := by
  have h := (hs.ended hI t wd er).1
  rw [← h]
  have htl := hs.tl
  have htn := hI.tn
  unfold dendM
  split
  · simp
  · split
    · split
      · simp
      · have := dO_len t (dS t D.l D.l.length) (zT (endD D (t - 1).toNat ‹Dt› (if er = 0 then wd else 0) er) (dS t D.l D.l.length)) D.t.length
        dsimp only
        omega
    · simp
theorem endB_len {B : Bk} (hI : Iv B) (hl : B.l.length ≤ 8) (t wd er : Int) : (endM B t wd er).1.1.length ≤ 100 := by
  by_cases hg : goB B t = 0
  · obtain ⟨i, x, rfl, hx, -, -⟩ := goB_at hg
    rw [end_is wd er hg hx]
    dsimp only
    rw [srt_len, List.length_append]
    have h1 := outs_len ((i : Int) + 1) B.l B.l.length
    have h2 := hI.short (rows_t hx)
    omega
  · have : endM B t wd er = (([], goB B t), B) := by unfold endM; rw [if_pos hg]
    rw [this]
    simp
set_option maxRecDepth 100000 in
set_option maxHeartbeats 8000000 in
theorem step_end {w : World} {b r k M : Nat} {B B2 : Bk} {D : Dk} {U : Nat → Prop} (h : PX w b r k B D M U) (hM : M ≤ 1000000) (hs : Sim B2 D) (hI : Iv B) (hI2 : Iv B2) (o : Sp) (hk : o.k = 2) :
    Calls Tryd.prog 10 #[.pointer (some ⟨b, 0, none⟩), .pointer (some ⟨r, 0, none⟩), .agg #[.int .i64 o.k, .int .i64 o.t, .int .i64 o.n, .int .u64 o.w, .int .i64 o.e], .pointer (some ⟨k, 0, none⟩)] w fun e w' => StQ b r k (stepB B o) (stepB B2 o) M (B2 = B) U w e w' := by
  have hE : stepB B o = (endM B o.t o.w o.e).2 := by unfold stepB; simp [hk]
  have hE2 : stepB B2 o = (endM B2 o.t o.w o.e).2 := by unfold stepB; simp [hk]
  rw [hE, hE2]
  have hS := hs.ended hI2 o.t o.w o.e
  have hSh := hI.sh
  have hSd := hs.sd hI2
  have hlen2 := end_len hs hI2 o.t o.w o.e
  have hlnb : B.l.length ≤ 8 := by
    obtain ⟨F1, F2, G, hm, -⟩ := h
    obtain ⟨pt, pl, pg, T, L, hX, -, hL, -⟩ := hm.p
    rw [← hL, List.length_map]
    exact hX.ln
  have hlen := endB_len hI hlnb o.t o.w o.e
  have hb1 : Below w.heap.size w (w.alloc (.cells #[.int .i64 o.k, .int .i64 o.t, .int .i64 o.n, .int .u64 o.w, .int .i64 o.e] 58)) := (Below.refl _ _).alloc (Nat.le_refl _) _
  have hP1 := h.quiet hb1
  have hnU : ¬ U w.heap.size := fun e => by have := h.lt _ e; omega
  have hO1 : (w.alloc (.cells #[.int .i64 o.k, .int .i64 o.t, .int .i64 o.n, .int .u64 o.w, .int .i64 o.e] 58)).heap[w.heap.size]? = some (.cells #[.int .i64 o.k, .int .i64 o.t, .int .i64 o.n, .int .u64 o.w, .int .i64 o.e] 58 (0, 0)) := heap_alloc_new w _
  have lob : w.heap.size < (w.alloc (.cells #[.int .i64 o.k, .int .i64 o.t, .int .i64 o.n, .int .u64 o.w, .int .i64 o.e] 58)).heap.size := by rw [World.size_alloc]; omega
  obtain ⟨l, c, hv⟩ : ∃ l c, (endM B o.t o.w o.e).1 = (l, c) := ⟨_, _, rfl⟩
  obtain ⟨l2, c2, hv2⟩ : ∃ l2 c2, (dendM D o.t o.w o.e).1 = (l2, c2) := ⟨_, _, rfl⟩
  have HEq : Hid (B2 = B → l = l2 ∧ c = c2) := fun e => by
    have h1 := hS.1
    rw [hv2, e, hv] at h1
    cases h1
    exact ⟨rfl, rfl⟩
  rw [hv] at hlen
  rw [← hS.1, hv2] at hlen2
  dsimp only at hlen hlen2
  have H1 : Hid (Calls Tryd.prog 26 #[.pointer (some ⟨b, 0, none⟩), .int .i64 o.t, .int .u64 o.w, .int .i64 o.e] (w.alloc (.cells #[.int .i64 o.k, .int .i64 o.t, .int .i64 o.n, .int .u64 o.w, .int .i64 o.e] 58)) fun e w' => ∃ s U', e = .returned (.tuple #[.slice s.ra l.length s.cap, .int .i64 c]) ∧ LX w' b r k (endM B o.t o.w o.e).2 D M U' s l ∧ Chg U U' (w.alloc (.cells #[.int .i64 o.k, .int .i64 o.t, .int .i64 o.n, .int .u64 o.w, .int .i64 o.e] 58)) w' ∧ ∀ g, s.blk = some g → (w.alloc (.cells #[.int .i64 o.k, .int .i64 o.t, .int .i64 o.n, .int .u64 o.w, .int .i64 o.e] 58)).heap.size ≤ g) := hP1.onEnd (fun F hF => by
    have := end_any hF hSh o.t o.w o.e
    rw [hv] at this
    exact this)
  obtain ⟨w1, hw1⟩ : ∃ w1, w1 = (w.alloc (.cells #[.int .i64 o.k, .int .i64 o.t, .int .i64 o.n, .int .u64 o.w, .int .i64 o.e] 58)) := ⟨_, rfl⟩
  rw [← hw1] at H1 hb1 hO1 lob
  have HW1 : Hid (w1 = (w.alloc (.cells #[.int .i64 o.k, .int .i64 o.t, .int .i64 o.n, .int .u64 o.w, .int .i64 o.e] 58))) := hw1
  have HC1 : Hid (Chg U U w w1) := Chg.quiet U hb1
  have HSS : Hid (Sim (endM B2 o.t o.w o.e).2 (dendM D o.t o.w o.e).2) := hS.2
  have HD : Hid (∀ (W : World) (F : Nat → Prop), DB W r D F → Calls Tryd.prog 33 #[.pointer (some ⟨r, 0, none⟩), .int .i64 o.t, .int .u64 o.w, .int .i64 o.e] W fun e w' => DER r (dendM D o.t o.w o.e).2 F l2 c2 W e w') := fun W F hF => by
    have := dEnd_any hF hSd o.t o.w o.e
    rw [hv2] at this
    exact this
  have HO1 : Hid _ := hO1
  have HU : Hid (¬ U w.heap.size) := hnU
  generalize hB2' : (endM B2 o.t o.w o.e).2 = B2' at HSS ⊢
  generalize hB' : (endM B o.t o.w o.e).2 = B' at H1 ⊢
  generalize hD' : (dendM D o.t o.w o.e).2 = D' at HSS HD
  have o0 := heap_cell (j := 0) hO1 rfl
  have o1 := heap_cell (j := 1) hO1 rfl
  have o2 := heap_cell (j := 2) hO1 rfl
  have o3 := heap_cell (j := 3) hO1 rfl
  have o4 := heap_cell (j := 4) hO1 rfl
  obtain ⟨ok, ot, on, ow, oe⟩ := o
  dsimp only at hk o0 o1 o2 o3 o4 H1 HD HW1 ⊢
  subst hk
  have HL8 : Hid (l.length ≤ 100) := hlen
  have HL82 : Hid (l2.length ≤ 8) := hlen2
  have HM : Hid (M ≤ 1000000) := hM
  have hs01 := HC1.out.2.1.size
  have HS01 : Hid (w.heap.size ≤ w1.heap.size) := hs01
  clear hE hE2 hS hSh hSd hP1 hv hv2 hB' hB2' hD' h hs hI hI2 hb1 hO1 hnU hw1 hlen hlen2 hlnb hM hs01
  go_enter Tryd.func10, Tryd.ntmps10
  go_upto_region 1 with fail
  rw [← HW1.out]
  go_wp2_with fail
  refine Calls.mono H1.out ?_
  rintro e w2 ⟨s, U2, rfl, hL2, hC2, hs2⟩
  have hO2 := (hC2.1 w.heap.size lob HU.out).trans HO1.out
  have lob2 := heap_lt hO2
  have o02 := heap_cell (j := 0) hO2 rfl
  have o12 := heap_cell (j := 1) hO2 rfl
  have o22 := heap_cell (j := 2) hO2 rfl
  have o32 := heap_cell (j := 3) hO2 rfl
  have o42 := heap_cell (j := 4) hO2 rfl
  have HCS : Hid (∀ g, s.blk = some g → w.heap.size ≤ g) := fun g hg => Nat.le_trans HS01.out (hs2 g hg)
  have H2 : Hid (Calls Tryd.prog 33 #[.pointer (some ⟨r, 0, none⟩), .int .i64 ot, .int .u64 ow, .int .i64 oe] w2 fun e w' => ∃ s' U', e = .returned (.tuple #[.slice s'.ra l2.length s'.cap, .int .i64 c2]) ∧ LX w' b r k B' D' M U' s l ∧ Chg U2 U' w2 w' ∧ RI w' s' l2 ∧ ∀ g, s'.blk = some g → w2.heap.size ≤ g ∧ ¬ U' g) := hL2.onDEnd (fun F hF => HD.out w2 F hF)
  have HC2 : Hid (Chg U U2 w w2) := HC1.out.trans hC2
  obtain ⟨ra, ca⟩ := s
  dsimp only at H2 ⊢
  generalize hll : l.length = ll at ⊢
  generalize hll2 : l2.length = ll2 at H2
  have HLL : Hid (l.length = ll) := hll
  have HLL2 : Hid (l2.length = ll2) := hll2
  clear hO2 hL2 hC2 H1 HD HC1 HO1 HU o0 o1 o2 o3 o4 lob hs2 hll hll2
  go_wp2_with fail
  refine Calls.mono H2.out ?_
  rintro e w3 ⟨s', U3', rfl, hL3, hC3, hR3, hs3⟩
  have H3 := hL3.put HM.out (by have := HL8.out; omega)
  rw [HLL.out] at H3
  dsimp only at H3
  have HP : Hid _ := H3
  have HC3 : Hid (Chg U U3' w w3) := HC2.out.trans hC3
  have HR3 : Hid (RI w3 s' l2) := hR3
  obtain ⟨rb, cb⟩ := s'
  dsimp only
  clear hL3 hC3 hR3 hs3 H2 HC2 o02 o12 o22 o32 o42 lob2 H3
  go_wp2_with fail
  refine Calls.mono HP.out ?_
  rintro e w4 ⟨⟨v4, rfl⟩, U4, hP4, hC4, hr4, hi4⟩
  have hR4 : RI w4 ⟨rb, cb⟩ l2 := HR3.out.kept (fun g hg => by
    obtain ⟨cs, hc⟩ := HR3.out.bt hg
    exact hi4 g cs hc)
  have HSm := sameI_any l l2 ra rb ca cb w4 (by have := HL8.out; unfold maxLen; omega) (by have := HL82.out; unfold maxLen; omega) hr4.rx hR4.rx
  rw [HLL.out, HLL2.out] at HSm
  obtain ⟨vb, hvb⟩ : ∃ vb, decide (l = l2) = vb := ⟨_, rfl⟩
  rw [hvb] at HSm
  have HVB : Hid (l = l2 → vb = true) := fun e => by rw [← hvb]; exact decide_eq_true e
  have HSM : Hid _ := HSm
  have HC4 : Hid (Chg U U4 w w4) := HC3.out.join hC4 HCS.out
  have HP4 : Hid (PX w4 b r k B' D' (M + 1) U4) := hP4
  clear hP4 hC4 hr4 hi4 hR4 HSm HP HC3 HR3 hvb
  go_wp2_with fail
  refine Calls.mono HSM.out ?_
  rintro e w5 ⟨rfl, hb5⟩
  have HP5 : Hid (PX w5 b r k B' D' (M + 1) U4 ∧ Chg U U4 w w5) := ⟨HP4.out.quiet hb5, HC4.out.trans (Chg.quiet U4 hb5)⟩
  clear hb5 HP4 HC4 HSM
  cases vb
  · have HF : Hid (StQ b r k B' B2' M (B2 = B) U w (.returned (.bool false)) w5) := ⟨false, rfl, fun e => HVB.out (HEq.out e).1, D', U4, HP5.out.1, HSS.out, HP5.out.2⟩
    clear HP5 HSS HEq HVB
    go_wp2
    go_ret
    exact HF.out
  · by_cases hc : c = c2
    · subst hc
      have HF : Hid (StQ b r k B' B2' M (B2 = B) U w (.returned (.bool true)) w5) := ⟨true, rfl, fun _ => rfl, D', U4, HP5.out.1, HSS.out, HP5.out.2⟩
      clear HP5 HSS HEq HVB
      go_wp2
      go_ret
      exact HF.out
    · have hcb : (c == c2) = false := beq_false_of_ne hc
      have HF : Hid (StQ b r k B' B2' M (B2 = B) U w (.returned (.bool false)) w5) := ⟨false, rfl, fun e => absurd (HEq.out e).2 hc, D', U4, HP5.out.1, HSS.out, HP5.out.2⟩
      clear HP5 HSS HEq HVB hc
      go_wp2
      go_ret
      exact HF.out
set_option maxRecDepth 100000 in
set_option maxHeartbeats 8000000 in
theorem step_global {w : World} {b r k M : Nat} {B B2 : Bk} {D : Dk} {U : Nat → Prop} (h : PX w b r k B D M U) (hs : Sim B2 D) (o : Sp) (hk : o.k = 6) :
    Calls Tryd.prog 10 #[.pointer (some ⟨b, 0, none⟩), .pointer (some ⟨r, 0, none⟩), .agg #[.int .i64 o.k, .int .i64 o.t, .int .i64 o.n, .int .u64 o.w, .int .i64 o.e], .pointer (some ⟨k, 0, none⟩)] w fun e w' => StQ b r k (stepB B o) (stepB B2 o) M (B2 = B) U w e w' := by
  have hE : stepB B o = B := by unfold stepB; simp [hk]
  have hE2 : stepB B2 o = B2 := by unfold stepB; simp [hk]
  rw [hE, hE2]
  have hb1 : Below w.heap.size w (w.alloc (.cells #[.int .i64 o.k, .int .i64 o.t, .int .i64 o.n, .int .u64 o.w, .int .i64 o.e] 58)) := (Below.refl _ _).alloc (Nat.le_refl _) _
  have hP1 := h.quiet hb1
  have hO1 : (w.alloc (.cells #[.int .i64 o.k, .int .i64 o.t, .int .i64 o.n, .int .u64 o.w, .int .i64 o.e] 58)).heap[w.heap.size]? = some (.cells #[.int .i64 o.k, .int .i64 o.t, .int .i64 o.n, .int .u64 o.w, .int .i64 o.e] 58 (0, 0)) := heap_alloc_new w _
  obtain ⟨w1, hw1⟩ : ∃ w1, w1 = (w.alloc (.cells #[.int .i64 o.k, .int .i64 o.t, .int .i64 o.n, .int .u64 o.w, .int .i64 o.e] 58)) := ⟨_, rfl⟩
  rw [← hw1] at hP1 hb1 hO1
  have HW1 : Hid (w1 = (w.alloc (.cells #[.int .i64 o.k, .int .i64 o.t, .int .i64 o.n, .int .u64 o.w, .int .i64 o.e] 58))) := hw1
  have HF : Hid (∀ v, (B2 = B → v = true) → StQ b r k B B2 M (B2 = B) U w (.returned (.bool v)) w1) := fun v hv => ⟨v, rfl, hv, D, U, hP1.more, hs, Chg.quiet U hb1⟩
  obtain ⟨F1, F2, G, hx, -⟩ := hP1
  have H1 := global_B hx.p o.n
  have H2 : Calls Tryd.prog 38 #[.pointer (some ⟨r, 0, none⟩), .int .i64 o.n] w1 fun e w' => e = .returned (.tuple #[.int .u64 (glX B2.g o.n).1, .int .i64 (glX B2.g o.n).2]) ∧ w' = w1 := by
    rw [← hs.g]
    obtain ⟨pt, pl, pg, L, hX, -, -⟩ := hx.d
    exact dGlobal_any hX o.n
  obtain ⟨a, c, hv⟩ : ∃ a c, glX B.g o.n = (a, c) := ⟨_, _, rfl⟩
  obtain ⟨a2, c2, hv2⟩ : ∃ a c, glX B2.g o.n = (a, c) := ⟨_, _, rfl⟩
  have HEq : Hid (B2 = B → a = a2 ∧ c = c2) := fun e => by
    rw [e, hv] at hv2
    cases hv2
    exact ⟨rfl, rfl⟩
  rw [hv] at H1
  rw [hv2] at H2
  have o0 := heap_cell (j := 0) hO1 rfl
  have o1 := heap_cell (j := 1) hO1 rfl
  have o2 := heap_cell (j := 2) hO1 rfl
  have o3 := heap_cell (j := 3) hO1 rfl
  have o4 := heap_cell (j := 4) hO1 rfl
  have lob := heap_lt hO1
  obtain ⟨ok, ot, on, ow, oe⟩ := o
  dsimp only at hk o0 o1 o2 o3 o4 H1 H2 HW1 ⊢
  subst hk
  have HA : Hid _ := H1
  have HB : Hid _ := H2
  clear hE hE2 hx h hs hv hv2 hb1 hO1 hw1 H1 H2
  go_enter Tryd.func10, Tryd.ntmps10
  go_upto_region 1 with fail
  rw [← HW1.out]
  go_wp2_with fail
  refine Calls.mono HA.out ?_
  rintro e w2 ⟨rfl, hw2⟩
  rw [hw2]
  clear hw2
  go_wp2_with fail
  refine Calls.mono HB.out ?_
  rintro e w2 ⟨rfl, hw2⟩
  rw [hw2]
  clear hw2
  by_cases ha : a = a2
  · subst ha
    by_cases hc : c = c2
    · subst hc
      have HF2 := HF.out true (fun _ => rfl)
      clear HF HEq
      go_wp2
      go_ret
      exact HF2
    · have hcb : (c == c2) = false := beq_false_of_ne hc
      have HF2 := HF.out false (fun e => absurd (HEq.out e).2 hc)
      clear HF HEq hc
      go_wp2
      go_ret
      exact HF2
  · have hab : (a == a2) = false := beq_false_of_ne ha
    have HF2 := HF.out false (fun e => absurd (HEq.out e).1 ha)
    clear HF HEq ha
    go_wp2
    go_ret
    exact HF2
set_option maxRecDepth 100000 in
set_option maxHeartbeats 8000000 in
theorem step_none {w : World} {b r k M : Nat} {B B2 : Bk} {D : Dk} {U : Nat → Prop} (h : PX w b r k B D M U) (hs : Sim B2 D) (o : Sp) (hk : o.k ≠ 1 ∧ o.k ≠ 2 ∧ o.k ≠ 3 ∧ o.k ≠ 4 ∧ o.k ≠ 5 ∧ o.k ≠ 6 ∧ o.k ≠ 7) :
    Calls Tryd.prog 10 #[.pointer (some ⟨b, 0, none⟩), .pointer (some ⟨r, 0, none⟩), .agg #[.int .i64 o.k, .int .i64 o.t, .int .i64 o.n, .int .u64 o.w, .int .i64 o.e], .pointer (some ⟨k, 0, none⟩)] w fun e w' => StQ b r k (stepB B o) (stepB B2 o) M (B2 = B) U w e w' := by
  obtain ⟨k1, k2, k3, k4, k5, k6, k7⟩ := hk
  have hE : stepB B o = B := by unfold stepB; simp [k1, k2, k3, k4, k5, k7]
  have hE2 : stepB B2 o = B2 := by unfold stepB; simp [k1, k2, k3, k4, k5, k7]
  rw [hE, hE2]
  have hb1 : Below w.heap.size w (w.alloc (.cells #[.int .i64 o.k, .int .i64 o.t, .int .i64 o.n, .int .u64 o.w, .int .i64 o.e] 58)) := (Below.refl _ _).alloc (Nat.le_refl _) _
  have hP1 := h.quiet hb1
  have hO1 : (w.alloc (.cells #[.int .i64 o.k, .int .i64 o.t, .int .i64 o.n, .int .u64 o.w, .int .i64 o.e] 58)).heap[w.heap.size]? = some (.cells #[.int .i64 o.k, .int .i64 o.t, .int .i64 o.n, .int .u64 o.w, .int .i64 o.e] 58 (0, 0)) := heap_alloc_new w _
  obtain ⟨w1, hw1⟩ : ∃ w1, w1 = (w.alloc (.cells #[.int .i64 o.k, .int .i64 o.t, .int .i64 o.n, .int .u64 o.w, .int .i64 o.e] 58)) := ⟨_, rfl⟩
  rw [← hw1] at hP1 hb1 hO1
  have HW1 : Hid (w1 = (w.alloc (.cells #[.int .i64 o.k, .int .i64 o.t, .int .i64 o.n, .int .u64 o.w, .int .i64 o.e] 58))) := hw1
  have HF : Hid (StQ b r k B B2 M (B2 = B) U w (.returned (.bool true)) w1) := ⟨true, rfl, fun _ => rfl, D, U, hP1.more, hs, Chg.quiet U hb1⟩
  have o0 := heap_cell (j := 0) hO1 rfl
  have lob := heap_lt hO1
  obtain ⟨ok, ot, on, ow, oe⟩ := o
  dsimp only at k1 k2 k3 k4 k5 k6 k7 o0 HW1 ⊢
  clear hE hE2 h hs hb1 hO1 hw1 hP1
  go_enter Tryd.func10, Tryd.ntmps10
  go_upto_region 1 with fail
  rw [← HW1.out]
  go_wp2
  go_ret
  exact HF.out
theorem step_any {w : World} {b r k M : Nat} {B B2 : Bk} {D : Dk} {U : Nat → Prop} (h : PX w b r k B D M U) (hM : M ≤ 1000000) (hs : Sim B2 D) (hI : Iv B) (hI2 : Iv B2) (o : Sp) :
    Calls Tryd.prog 10 #[.pointer (some ⟨b, 0, none⟩), .pointer (some ⟨r, 0, none⟩), .agg #[.int .i64 o.k, .int .i64 o.t, .int .i64 o.n, .int .u64 o.w, .int .i64 o.e], .pointer (some ⟨k, 0, none⟩)] w fun e w' => StQ b r k (stepB B o) (stepB B2 o) M (B2 = B) U w e w' := by
  by_cases k1 : o.k = 1
  · exact step_start h hs hI hI2 o k1
  by_cases k2 : o.k = 2
  · exact step_end h hM hs hI hI2 o k2
  by_cases k3 : o.k = 3
  · exact step_join h hs hI hI2 o k3
  by_cases k4 : o.k = 4
  · exact step_lock h hs hI hI2 o k4
  by_cases k5 : o.k = 5
  · exact step_unlock h hs hI hI2 o k5
  by_cases k6 : o.k = 6
  · exact step_global h hs o k6
  by_cases k7 : o.k = 7
  · exact step_set h hs hI hI2 o k7
  exact step_none h hs o ⟨k1, k2, k3, k4, k5, k6, k7⟩
theorem step_iv {B : Bk} (h : Iv B) (o : Sp) : Iv (stepB B o) := by
  unfold stepB
  split
  · exact start_iv h
  · split
    · exact end_iv h _ _ _
    · split
      · exact join_iv h _ _
      · split
        · exact lock_iv h _ _
        · split
          · exact unlock_iv h _ _
          · split
            · exact set_iv h _ _
            · exact h
end Go.Proofs.YtdlnkdcgipaoeaaDoor
