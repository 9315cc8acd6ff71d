/- step. -/
import Derived.Test.YtaenoenchbfeiaaHALooks
namespace Go.Proofs.Ytaenoenchbfeiaa
open Go.RowKit

theorem MX.mono {w : World} {a r b : Nat} {A A' : Al} {n M M' : Nat} {F G : Nat → Prop} (h : MX w a r b A A' n M F G) (hm : M ≤ M') : MX w a r b A A' n M' F G := by
  obtain ⟨ga, gm, gf, cf, vr, gr, vw, hA, hR, hF, hd, ⟨vi, vW, Ni, Nw, Vi, Vw, hB, hNi, hNw, hG⟩, hFG⟩ := h
  exact ⟨ga, gm, gf, cf, vr, gr, vw, hA, hR, hF, hd, ⟨vi, vW, Ni, Nw, Vi, Vw, hB, by omega, by omega, hG⟩, hFG⟩
/-- What a step leaves. -/
def StepR (a r b n M : Nat) (F G : Nat → Prop) (w w' : World) : Prop := ∃ A' n' F' G', MX w' a r b A' A' n' (M + 4) F' G' ∧ Inv A' ∧ n' ≤ n + 1 ∧ Chg (Un F G) (Un F' G') w w'
/-- A block that none of them has. -/
theorem kept_off {U U' : Nat → Prop} {w w' : World} {g : Nat} {o : Obj} (h : Chg U U' w w') (hg : w.heap[g]? = some o ∧ ¬ U g) : w'.heap[g]? = some o ∧ ¬ U' g := ⟨(h.1 g (heap_lt hg.1) hg.2).trans hg.1, h.off (heap_lt hg.1) hg.2⟩
set_option maxRecDepth 100000 in
set_option maxHeartbeats 8000000 in
theorem step_any {w : World} {a r b : Nat} {A : Al} {n M : Nat} {F G : Nat → Prop} (h : MX w a r b A A n M F G) (hI : Inv A) (hn : n ≤ 900000) (hM : M ≤ 700000) (k x y : Int) :
    Calls Try.prog 9 #[.pointer (some ⟨a, 0, none⟩), .pointer (some ⟨r, 0, none⟩), .agg #[.int .i64 k, .int .i64 x, .int .i64 y], .pointer (some ⟨b, 0, none⟩)] w fun e w' => e = .returned (.bool true) ∧ StepR a r b n M F G w w' := by
  have HM0 : Hid (MX w a r b A A n M F G) := h
  have HI : Hid (Inv A) := hI
  obtain ⟨W1, hW1⟩ : ∃ W1, W1 = w.alloc (.cells #[.int .i64 k, .int .i64 x, .int .i64 y] 53) := ⟨_, rfl⟩
  have hb1 : Below w.heap.size w W1 := by rw [hW1]; exact (Below.refl _ w).alloc (Nat.le_refl _) _
  have hn1 : W1.heap[w.heap.size]? = some (.cells #[.int .i64 k, .int .i64 x, .int .i64 y] 53 (0, 0)) := by rw [hW1]; exact heap_alloc_new _ _
  have HX1 : Hid (MX W1 a r b A A n M F G) := h.quiet hb1
  have HC1 : Hid (Chg (Un F G) (Un F G) w W1) := Chg.quiet _ hb1
  have HO1 : Hid (W1.heap[w.heap.size]? = some (.cells #[.int .i64 k, .int .i64 x, .int .i64 y] 53 (0, 0)) ∧ ¬ Un F G w.heap.size) := ⟨hn1, fun hU => Nat.lt_irrefl _ (h.lt _ hU)⟩
  have HS1 : Hid (∀ w', Below W1.heap.size W1 w' → StepR a r b n M F G w w') := fun w' hb => ⟨A, n, F, G, (HX1.out.quiet hb).mono (by omega), hI, by omega, HC1.out.trans (Chg.quiet _ hb)⟩
  have e0 := heap_cell (j := 0) hn1 rfl
  have e1 := heap_cell (j := 1) hn1 rfl
  have e2 := heap_cell (j := 2) hn1 rfl
  have l1 := heap_lt hn1
  clear h hI hb1 hn1 HM0
  go_enter Try.func9, Try.ntmps9
  go_upto_region 1 with fail
  rw [← hW1]
  clear hW1
  obtain ⟨ob, hob⟩ : ∃ ob, ob = w.heap.size := ⟨_, rfl⟩
  rw [← hob] at e0 e1 e2 l1 HO1 ⊢
  have HOb : Hid (ob = w.heap.size) := hob
  clear hob
  by_cases h1 : k = 1
  · subst h1
    have HK : Hid _ := mx_ask HX1.out HI.out x y
    unfold askE at HK
    go_wp2_with fail
    refine Calls.mono HK.out ?_
    rintro e w2 ⟨rfl, F2, hX2, hC2⟩
    have HX2 : Hid (MX w2 a r b (askM A x y).2 A n M F2 G) := hX2
    have HC2 : Hid (Chg (Un F G) (Un F2 G) w w2) := HC1.out.trans hC2
    have ho2 := kept_off hC2 HO1.out
    have d1 := heap_cell (j := 1) ho2.1 rfl
    have d2 := heap_cell (j := 2) ho2.1 rfl
    have l2 := heap_lt ho2.1
    have HK2 : Hid _ := mx_rask hX2 HI.out x y
    unfold askE at HK2
    clear hX2 hC2 ho2 HK HX1 HC1 HO1 HS1 e0 e1 e2 l1
    go_wp2_with fail
    refine Calls.mono HK2.out ?_
    rintro e w3 ⟨rfl, F3, hX3, hC3⟩
    have HE : Hid (StepR a r b n M F G w w3) := ⟨_, n, F3, G, hX3.mono (by omega), ask_inv HI.out x y, by omega, HC2.out.trans hC3⟩
    clear hX3 hC3 HK2 HX2 HC2 d1 d2 l2
    obtain ⟨q1, hq1⟩ : ∃ q, (askM A x y).1.1 = q := ⟨_, rfl⟩
    obtain ⟨q2, hq2⟩ : ∃ q, (askM A x y).1.2.1 = q := ⟨_, rfl⟩
    obtain ⟨q3, hq3⟩ : ∃ q, (askM A x y).1.2.2 = q := ⟨_, rfl⟩
    rw [hq1, hq2, hq3]
    clear hq1 hq2 hq3
    have z1 : (q1 == q1) = true := by simp
    have z2 : (q2 == q2) = true := by simp
    have z3 : (q3 == q3) = true := by simp
    go_wp2
    go_ret
    exact ⟨rfl, HE.out⟩
  · by_cases h2 : k = 2
    · subst h2
      have HK : Hid _ := mx_back HX1.out HI.out (by omega) x
      unfold backE at HK
      go_wp2_with fail
      refine Calls.mono HK.out ?_
      rintro e w2 ⟨rfl, n2, hn2, F2, hX2, hC2⟩
      have HX2 : Hid (MX w2 a r b (backM A x).2 A n2 M F2 G) := hX2
      have HC2 : Hid (Chg (Un F G) (Un F2 G) w w2) := HC1.out.trans hC2
      have ho2 := kept_off hC2 HO1.out
      have d1 := heap_cell (j := 1) ho2.1 rfl
      have l2 := heap_lt ho2.1
      have HK2 : Hid _ := mx_rback hX2 HI.out x
      unfold backE at HK2
      clear hX2 hC2 ho2 HK HX1 HC1 HO1 HS1 e0 e1 e2 l1
      go_wp2_with fail
      refine Calls.mono HK2.out ?_
      rintro e w3 ⟨rfl, F3, hX3, hC3⟩
      have HE : Hid (StepR a r b n M F G w w3) := ⟨_, n2, F3, G, hX3.mono (by omega), back_inv HI.out x, hn2, HC2.out.trans hC3⟩
      clear hX3 hC3 HK2 HX2 HC2 d1 l2
      obtain ⟨q1, hq1⟩ : ∃ q, (backM A x).1.1 = q := ⟨_, rfl⟩
      obtain ⟨q2, hq2⟩ : ∃ q, (backM A x).1.2 = q := ⟨_, rfl⟩
      rw [hq1, hq2]
      clear hq1 hq2
      have z1 : (q1 == q1) = true := by simp
      have z2 : (q2 == q2) = true := by simp
      go_wp2
      go_ret
      exact ⟨rfl, HE.out⟩
    · by_cases h3 : k = 3
      · subst h3
        have hrl := row_le HI.out
        have hfl : (finM A x y).1.length ≤ 8 := by
          rw [fin_q]
          dsimp only
          rw [List.length_map]
          exact Nat.le_trans (List.length_filter_le _ _) hrl
        have HK : Hid _ := mx_fin HX1.out HI.out x y
        go_wp2_with fail
        refine Calls.mono HK.out ?_
        rintro e w2 ⟨v2, rfl, hp2, F2, hX2, hC2, hN2⟩
        obtain ⟨r2, c2, hv2⟩ := own_sl hp2
        subst hv2
        have HX2 : Hid (MX w2 a r b (finM A x y).2 A n M F2 G) := hX2
        have HC2 : Hid (Chg (Un F G) (Un F2 G) w w2) := HC1.out.trans hC2
        have HP2 : Hid (w2.ownsRow W1.heap.size 3 1 (.slice r2 (finM A x y).1.length c2) (finM A x y).1.length ((finM A x y).1.map (Value.int .i64))) := hp2
        have HN2 : Hid (∀ g, (Value.slice r2 (finM A x y).1.length c2).ownBlock = some g → ¬ Un F2 G g) := hN2
        have HS12 : Hid (w.heap.size ≤ W1.heap.size) := HC1.out.2.1.size
        have ho2 := kept_off hC2 HO1.out
        have d1 := heap_cell (j := 1) ho2.1 rfl
        have d2 := heap_cell (j := 2) ho2.1 rfl
        have l2 := heap_lt ho2.1
        have HK2 : Hid _ := mx_rfin hX2 HI.out x y
        clear hX2 hC2 ho2 hp2 hN2 HK HX1 HC1 HO1 HS1 e0 e1 e2 l1
        go_wp2_with fail
        refine Calls.mono HK2.out ?_
        rintro e w3 ⟨⟨v3, rfl, hp3⟩, F3, hX3, hC3⟩
        obtain ⟨r3, c3, hv3⟩ := own_sl hp3
        subst hv3
        have HX3 : Hid (MX w3 a r b (finM A x y).2 (finM A x y).2 n M F3 G) := hX3
        have HC3 : Hid (Chg (Un F G) (Un F3 G) w w3) := HC2.out.trans hC3
        have HP3 : Hid (w3.ownsRow W1.heap.size 3 1 (.slice r2 (finM A x y).1.length c2) (finM A x y).1.length ((finM A x y).1.map (Value.int .i64))) := own_same HP2.out (fun g hg => hC3.1 g (HP2.out.lt g hg).2 (HN2.out g hg))
        have HN3 : Hid (∀ g, (Value.slice r2 (finM A x y).1.length c2).ownBlock = some g → ¬ Un F3 G g) := fun g hg => hC3.off (HP2.out.lt g hg).2 (HN2.out g hg)
        have HQ3 : Hid (w3.ownsRow w2.heap.size 3 1 (.slice r3 (finM A x y).1.length c3) (finM A x y).1.length ((finM A x y).1.map (Value.int .i64))) := hp3
        have HK3 : Hid _ := mx_ints hX3 (by omega) r2 (finM A x y).1.length c2 _ (own_mono HP3.out) (by omega) HN3.out
        clear hX3 hC3 hp3 HK2 HX2 HC2 HP2 HN2 d1 d2 l2
        go_wp2_with fail
        refine Calls.mono HK3.out ?_
        rintro e w4 ⟨⟨rr, rfl⟩, G4, hX4, hb4, hk4, hg4, ht4⟩
        have HC4 : Hid (Chg (Un F G) (Un F3 G4) w w4) := by
          have hs3 := HC3.out.2.1.size
          refine ⟨fun g hg hn => (hk4 g (Nat.lt_of_lt_of_le hg hs3) (fun e => HC3.out.off hg hn (.inr e))).trans (HC3.out.1 g hg hn), HC3.out.2.1.trans hb4, fun g hg => ?_⟩
          rcases hg with hg | hg
          · exact HC3.out.2.2 g (.inl hg)
          · rcases hg4 g hg with h' | h' | h'
            · exact HC3.out.2.2 g (.inr h')
            · exact .inr (Nat.le_trans HS12.out (HP3.out.lt g h').1)
            · exact .inr (Nat.le_trans hs3 h')
        have HX4 : Hid (MX w4 a r b (finM A x y).2 (finM A x y).2 n (M + 1) F3 G4) := hX4
        have HSm : Hid _ := sameI_any (finM A x y).1 (finM A x y).1 r2 r3 c2 c3 w4 (by unfold maxLen; omega) (by unfold maxLen; omega) (own_rx (own_row HP3.out (Nat.zero_le _) (fun g cs hg => ht4 g cs (.inl hg))) rfl) (own_rx (own_row HQ3.out (Nat.zero_le _) (fun g cs hg => ht4 g cs (.inl hg))) rfl)
        clear hX4 hb4 hk4 hg4 ht4 HK3 HX3 HC3 HP3 HN3 HQ3 HS12
        go_wp2_with fail
        refine Calls.mono HSm.out ?_
        rintro e w5 ⟨rfl, hb5⟩
        have HE : Hid (StepR a r b n M F G w w5) := ⟨_, n, F3, G4, (HX4.out.quiet hb5).mono (by omega), fin_inv HI.out x y, by omega, HC4.out.trans (Chg.quiet _ hb5)⟩
        clear hb5 HSm HX4 HC4
        go_wp2
        go_ret
        exact ⟨rfl, HE.out⟩
      · by_cases h4 : k = 4
        · subst h4
          have HK : Hid _ := looks_any HX1.out HI.out (by omega)
          go_wp2_with fail
          refine Calls.mono HK.out ?_
          rintro e w2 ⟨rfl, G2, hX2, hC2⟩
          have HE : Hid (StepR a r b n M F G w w2) := ⟨A, n, F, G2, hX2, HI.out, by omega, HC1.out.trans hC2⟩
          clear hX2 hC2 HK HX1 HC1 HO1 HS1 e0 e1 e2 l1
          go_wp2
          go_ret
          exact ⟨rfl, HE.out⟩
        · have z1 : (k == 1) = false := by simpa using h1
          have z2 : (k == 2) = false := by simpa using h2
          have z3 : (k == 3) = false := by simpa using h3
          have z4 : (k == 4) = false := by simpa using h4
          have HE : Hid (StepR a r b n M F G w W1) := HS1.out _ (Below.refl _ _)
          clear HX1 HC1 HO1 HS1 h1 h2 h3 h4
          go_wp2
          go_ret
          exact ⟨rfl, HE.out⟩
end Go.Proofs.Ytaenoenchbfeiaa
