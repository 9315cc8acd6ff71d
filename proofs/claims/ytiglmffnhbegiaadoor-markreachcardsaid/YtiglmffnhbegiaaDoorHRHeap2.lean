/- The document's Turn, Shade, Make, Drop, Load, Swap, New. -/
import Derived.Test.YtiglmffnhbegiaaDoorHRHeap
namespace Go.Proofs.YtiglmffnhbegiaaDoor
open Go.RowKit

theorem RhR.refl {rb g : Nat} {h : List Cl} {w : World} (H : RH w rb g h) : RhR rb g h w w := ⟨H, Fr.refl _ _⟩
set_option maxRecDepth 100000 in
set_option maxHeartbeats 8000000 in
theorem rturn_any {rb g : Nat} {h : List Cl} (i f t : Int) {w : World} (H : RH w rb g h) (ht : 0 ≤ t ∧ t ≤ 255) :
    Calls Tryd.prog 38 #[.pointer (some ⟨rb, 0, none⟩), .int .i64 i, .int .u8 f, .int .u8 t] w fun e w' => e = .returned (.bool (turnB h i f t)) ∧ RhR rb g (turnH h i f t) w w' := by
  have HU : Hid (Calls Tryd.prog 85 #[.pointer (some ⟨rb, 0, none⟩), .int .i64 i] w fun e w' => e = .returned (.bool (usedV h i)) ∧ w' = w) := rused_any i w H
  have HH : Hid (RH w rb g h) := H
  have bad : turnB h i f t = false → turnH h i f t = h := fun hb => by
    unfold turnH
    split
    · rw [hb]; rfl
    · rfl
  cases hu : usedV h i
  · have E : turnB h i f t = false := by
      unfold usedV at hu
      unfold turnB
      split at hu
      · rename_i x hg
        rw [hg]
        have : x.k = 0 := by simpa using hu
        simp [this]
      · rename_i hg
        rw [hg]
    rw [E, bad E]
    rw [hu] at HU
    clear H hu E bad
    go_enter Tryd.func38, Tryd.ntmps38
    go_wp2_with fail
    refine Calls.mono HU.out ?_
    rintro e w' ⟨rfl, hw'⟩
    rw [hw']
    clear hw'
    go_wp2_with fail
    go_ret
    exact ⟨rfl, .refl HH.out⟩
  · have hi : inB h.length i = true := by
      cases hi : inB h.length i
      · unfold usedV at hu
        rw [getC_none hi] at hu
        cases hu
      · rfl
    obtain ⟨k, x, rfl, hx, hg, hk⟩ := getC_some hi
    have hxk : x.k ≠ 0 := by
      unfold usedV at hu
      rw [hg] at hu
      simpa using hu
    rw [hu] at HU
    obtain ⟨a0, ⟨a1, a2, a3, a4⟩, af⟩ := H.at hx
    have i1 : (k : Int) < (h.length : Int) := by have := (List.getElem?_eq_some_iff.1 hx).1; omega
    have lg := H.lt
    by_cases hc : x.c = f
    · have z1 : (x.c != f) = false := by simpa using hc
      by_cases h2 : t ≤ 2
      · have z2 : decide (t > 2) = false := by simpa using h2
        have z3 : decide (2 < t) = false := by simpa using h2
        have E1 : turnB h k f t = true := by unfold turnB; rw [hg]; simp [hxk, hc, h2]
        have E2 : turnH h k f t = h.set k ⟨x.k, t, x.a, x.b⟩ := by unfold turnH; rw [hg]; dsimp only; rw [E1, hk]; rfl
        rw [E1, E2]
        have HR : Hid (RhR rb g (h.set k ⟨x.k, t, x.a, x.b⟩) w (w.setCell ⟨g, k * 4 + 1, none⟩ (.int .u8 t))) := H.setC hx ht
        clear H hu E1 E2 bad hx hg hi
        go_enter Tryd.func38, Tryd.ntmps38
        go_wp2_with fail
        refine Calls.mono HU.out ?_
        rintro e w' ⟨rfl, hw'⟩
        rw [hw']
        clear hw'
        go_wp2_with fail
        go_ret
        exact ⟨rfl, HR.out⟩
      · have z2 : decide (t > 2) = true := by simp; omega
        have z3 : decide (2 < t) = true := by simp; omega
        have E : turnB h k f t = false := by unfold turnB; rw [hg]; simp [h2]
        rw [E, bad E]
        clear H hu E bad hx hg hi
        go_enter Tryd.func38, Tryd.ntmps38
        go_wp2_with fail
        refine Calls.mono HU.out ?_
        rintro e w' ⟨rfl, hw'⟩
        rw [hw']
        clear hw'
        go_wp2_with fail
        go_ret
        exact ⟨rfl, .refl HH.out⟩
    · have z1 : (x.c != f) = true := by simpa using hc
      have E : turnB h k f t = false := by unfold turnB; rw [hg]; simp [hc]
      rw [E, bad E]
      clear H hu E bad hx hg hi
      go_enter Tryd.func38, Tryd.ntmps38
      go_wp2_with fail
      refine Calls.mono HU.out ?_
      rintro e w' ⟨rfl, hw'⟩
      rw [hw']
      clear hw'
      go_wp2_with fail
      go_ret
      exact ⟨rfl, .refl HH.out⟩
set_option maxRecDepth 100000 in
set_option maxHeartbeats 8000000 in
theorem rshade_any {rb g : Nat} {h : List Cl} (i : Int) {w : World} (H : RH w rb g h) :
    Calls Tryd.prog 80 #[.pointer (some ⟨rb, 0, none⟩), .int .i64 i] w fun e w' => e = .returned (.bool (turnB h i 0 1)) ∧ RhR rb g (turnH h i 0 1) w w' := by
  have HC : Hid (Calls Tryd.prog 38 #[.pointer (some ⟨rb, 0, none⟩), .int .i64 i, .int .u8 0, .int .u8 1] w fun e w' => e = .returned (.bool (turnB h i 0 1)) ∧ RhR rb g (turnH h i 0 1) w w') := rturn_any i 0 1 H (by decide)
  clear H
  go_enter Tryd.func80, Tryd.ntmps80
  go_wp2_with fail
  refine Calls.mono HC.out ?_
  rintro e w' ⟨rfl, hR⟩
  have HR : Hid (RhR rb g (turnH h i 0 1) w w') := hR
  clear hR
  go_wp2_with fail
  go_ret
  exact ⟨rfl, HR.out⟩
set_option maxRecDepth 100000 in
set_option maxHeartbeats 8000000 in
theorem rdrop_any {rb g : Nat} {h : List Cl} (i : Int) {w : World} (H : RH w rb g h) :
    Calls Tryd.prog 40 #[.pointer (some ⟨rb, 0, none⟩), .int .i64 i] w fun e w' => e = .returned (.int .i64 (dropE h i)) ∧ RhR rb g (dropH h i) w w' := by
  have HI : Hid (Calls Tryd.prog 76 #[.pointer (some ⟨rb, 0, none⟩), .int .i64 i] w fun e w' => e = .returned (.bool (inB h.length i)) ∧ w' = w) := ris_any i w H
  have HH : Hid (RH w rb g h) := H
  cases hi : inB h.length i
  · have E : dropE h i = 1 := by unfold dropE; rw [getC_none hi]
    have E' : dropH h i = h := by unfold dropH; rw [E, if_neg (by decide)]
    rw [E, E']
    rw [hi] at HI
    clear H hi E E'
    go_enter Tryd.func40, Tryd.ntmps40
    go_wp2_with fail
    refine Calls.mono HI.out ?_
    rintro e w' ⟨rfl, hw'⟩
    rw [hw']
    clear hw'
    go_wp2_with fail
    go_ret
    exact ⟨rfl, .refl HH.out⟩
  · obtain ⟨k, x, rfl, hx, hg, hk⟩ := getC_some hi
    rw [hi] at HI
    obtain ⟨a0, ⟨a1, a2, a3, a4⟩, af⟩ := H.at hx
    have hkl := (List.getElem?_eq_some_iff.1 hx).1
    have i1 : (k : Int) < (h.length : Int) := by omega
    have lg := H.lt
    by_cases h0 : x.k = 0
    · have z1 : (x.k == 0) = true := by simpa using h0
      have E : dropE h k = 31 := by unfold dropE chE; rw [hg]; simp [h0]
      have E' : dropH h k = h := by unfold dropH; rw [E, if_neg (by decide)]
      rw [E, E']
      clear H hi E E' hx hg h0
      go_enter Tryd.func40, Tryd.ntmps40
      go_wp2_with fail
      refine Calls.mono HI.out ?_
      rintro e w' ⟨rfl, hw'⟩
      rw [hw']
      clear hw'
      go_wp2_with fail
      go_ret
      exact ⟨rfl, .refl HH.out⟩
    · have z1 : (x.k == 0) = false := by simpa using h0
      have E : dropE h k = 0 := by unfold dropE chE; rw [hg]; simp [h0]
      have E' : dropH h k = h.set k c0 := by unfold dropH; rw [E, hk]; rfl
      rw [E, E']
      have HR : Hid (RhR rb g (h.set k c0) w ((((w.setCell ⟨g, k * 4, none⟩ (.int .u8 0)).setCell ⟨g, k * 4 + 1, none⟩ (.int .u8 0)).setCell ⟨g, k * 4 + 1 + 1, none⟩ (.int .u64 0)).setCell ⟨g, k * 4 + 1 + 1 + 1, none⟩ (.int .u64 0))) := H.set4 (y := c0) hkl c0_ok
      clear H hi E E' hx hg h0
      go_enter Tryd.func40, Tryd.ntmps40
      go_wp2_with fail
      refine Calls.mono HI.out ?_
      rintro e w' ⟨rfl, hw'⟩
      rw [hw']
      clear hw'
      go_wp2_with fail
      go_ret
      exact ⟨rfl, HR.out⟩
set_option maxRecDepth 100000 in
set_option maxHeartbeats 8000000 in
theorem rmake_any {rb g : Nat} {h : List Cl} (i : Int) (y : Cl) {w : World} (H : RH w rb g h) (hy : OkK y) :
    Calls Tryd.prog 24 #[.pointer (some ⟨rb, 0, none⟩), .int .i64 i, .int .u8 y.k, .int .u8 y.c, .int .u64 y.a, .int .u64 y.b] w fun e w' => e = .returned (.int .i64 (makeE h i y)) ∧ RhR rb g (makeH h i y) w w' := by
  have HI : Hid (Calls Tryd.prog 76 #[.pointer (some ⟨rb, 0, none⟩), .int .i64 i] w fun e w' => e = .returned (.bool (inB h.length i)) ∧ w' = w) := ris_any i w H
  have HH : Hid (RH w rb g h) := H
  cases hi : inB h.length i
  · have E : makeE h i y = 1 := by unfold makeE; rw [getC_none hi]
    have E' : makeH h i y = h := by unfold makeH; rw [E, if_neg (by decide)]
    rw [E, E']
    rw [hi] at HI
    clear H hi E E'
    go_enter Tryd.func24, Tryd.ntmps24
    go_wp2_with fail
    refine Calls.mono HI.out ?_
    rintro e w' ⟨rfl, hw'⟩
    rw [hw']
    clear hw'
    go_wp2_with fail
    go_ret
    exact ⟨rfl, .refl HH.out⟩
  · obtain ⟨k, x, rfl, hx, hg, hk⟩ := getC_some hi
    rw [hi] at HI
    obtain ⟨a0, ⟨a1, a2, a3, a4⟩, af⟩ := H.at hx
    have hkl := (List.getElem?_eq_some_iff.1 hx).1
    have i1 : (k : Int) < (h.length : Int) := by omega
    have lg := H.lt
    have bad : makeF y = false → makeE h k y = 30 ∧ makeH h k y = h := fun hf => by
      have E : makeE h k y = 30 := by unfold makeE; rw [hg]; dsimp only; rw [hf]; rfl
      exact ⟨E, by unfold makeH; rw [E, if_neg (by decide)]⟩
    by_cases c1 : y.k < 1
    · have z1 : decide (y.k < 1) = true := by simpa using c1
      obtain ⟨E, E'⟩ := bad (by unfold makeF; simp; omega)
      rw [E, E']
      clear H hi E E' hx hg bad
      go_enter Tryd.func24, Tryd.ntmps24
      go_wp2_with fail
      refine Calls.mono HI.out ?_
      rintro e w' ⟨rfl, hw'⟩
      rw [hw']
      clear hw'
      go_wp2_with fail
      go_ret
      exact ⟨rfl, .refl HH.out⟩
    · have z1 : decide (y.k < 1) = false := by simpa using c1
      by_cases c2 : y.k > 3
      · have z2 : decide (y.k > 3) = true := by simpa using c2
        have z3 : decide (3 < y.k) = true := by simpa using c2
        obtain ⟨E, E'⟩ := bad (by unfold makeF; simp; omega)
        rw [E, E']
        clear H hi E E' hx hg bad
        go_enter Tryd.func24, Tryd.ntmps24
        go_wp2_with fail
        refine Calls.mono HI.out ?_
        rintro e w' ⟨rfl, hw'⟩
        rw [hw']
        clear hw'
        go_wp2_with fail
        go_ret
        exact ⟨rfl, .refl HH.out⟩
      · have z2 : decide (y.k > 3) = false := by simpa using c2
        have z3 : decide (3 < y.k) = false := by simpa using c2
        by_cases c3 : y.c > 2
        · have z4 : decide (y.c > 2) = true := by simpa using c3
          have z5 : decide (2 < y.c) = true := by simpa using c3
          obtain ⟨E, E'⟩ := bad (by unfold makeF; simp; omega)
          rw [E, E']
          clear H hi E E' hx hg bad
          go_enter Tryd.func24, Tryd.ntmps24
          go_wp2_with fail
          refine Calls.mono HI.out ?_
          rintro e w' ⟨rfl, hw'⟩
          rw [hw']
          clear hw'
          go_wp2_with fail
          go_ret
          exact ⟨rfl, .refl HH.out⟩
        · have z4 : decide (y.c > 2) = false := by simpa using c3
          have z5 : decide (2 < y.c) = false := by simpa using c3
          have hf : makeF y = true := by unfold makeF; simp; omega
          have E0 : makeE h k y = maE x := by unfold makeE; rw [hg]; dsimp only; rw [if_pos hf]
          by_cases h0 : x.k = 0
          · have z6 : (x.k != 0) = false := by simpa using h0
            have E : makeE h k y = 0 := by rw [E0]; unfold maE; rw [if_pos h0]
            have E' : makeH h k y = h.set k y := by unfold makeH; rw [E, hk]; rfl
            rw [E, E']
            have HR : Hid (RhR rb g (h.set k y) w ((((w.setCell ⟨g, k * 4, none⟩ (.int .u8 y.k)).setCell ⟨g, k * 4 + 1, none⟩ (.int .u8 y.c)).setCell ⟨g, k * 4 + 1 + 1, none⟩ (.int .u64 y.a)).setCell ⟨g, k * 4 + 1 + 1 + 1, none⟩ (.int .u64 y.b))) := H.set4 hkl hy
            clear H hi E E' E0 hx hg h0 bad hf
            go_enter Tryd.func24, Tryd.ntmps24
            go_wp2_with fail
            refine Calls.mono HI.out ?_
            rintro e w' ⟨rfl, hw'⟩
            rw [hw']
            clear hw'
            go_wp2_with fail
            go_ret
            exact ⟨rfl, HR.out⟩
          · have z6 : (x.k != 0) = true := by simpa using h0
            have E : makeE h k y = 31 := by rw [E0]; unfold maE; rw [if_neg h0]
            have E' : makeH h k y = h := by unfold makeH; rw [E, if_neg (by decide)]
            rw [E, E']
            clear H hi E E' E0 hx hg h0 bad hf
            go_enter Tryd.func24, Tryd.ntmps24
            go_wp2_with fail
            refine Calls.mono HI.out ?_
            rintro e w' ⟨rfl, hw'⟩
            rw [hw']
            clear hw'
            go_wp2_with fail
            go_ret
            exact ⟨rfl, .refl HH.out⟩
end Go.Proofs.YtiglmffnhbegiaaDoor
