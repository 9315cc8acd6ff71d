/- FormsPath. -/
import Derived.Test.YtkgnigloboajcaaGreatDoorRKey
import Derived.Test.YtkgnigloboajcaaGreatDoorPAt
import Derived.Test.YtkgnigloboajcaaGreatDoorOfDat
namespace Go.Proofs.YtkgnigloboajcaaGreatDoor
open Go.RowKit

theorem nd_am : ∀ {s : Fo} {j : Nat} {y : Dt}, s.nd j = some y → y.am ≤ s.am
  | .nil, _, _, h => by cases h
  | .cons k n t s d r, 0, y, h => by cases h; simp only [Dt.am, Fo.am]; omega
  | .cons k n t s d r, j + 1, y, h => by have := nd_am (s := r) h; simp only [Fo.am]; omega
theorem at_am : ∀ {p : List Int} {x y : Dt}, atM x p = some y → y.am + p.length ≤ x.am
  | [], x, y, h => by cases h; exact Nat.le_refl _
  | i :: p, x, y, h => by
    simp only [atM] at h
    split at h
    · split at h
      · rename_i z hz
        have h1 := at_am h
        have h2 := nd_am hz
        have h3 : x.am = 1 + x.t.length + x.s.am := rfl
        simp only [List.length_cons]
        omega
      · cases h
    · cases h

set_option maxRecDepth 100000 in
set_option maxHeartbeats 8000000 in
theorem formsPath_walk (x : Dt) (rk : Option Addr) (ck : Nat) (w : World) (hR : RS w rk x.s) (hm : x.s.len ≤ maxLen) (ht : x.t.length ≤ 281474976710656) (hs : x.s.sl) (hE : Env w) :
    Calls Tryz.prog 7 #[datV x (.slice rk x.s.len ck)] w fun e w' => e = .returned (.bool true) ∧ Below w.heap.size w w' := by
  obtain ⟨W1, hW1⟩ : ∃ W1, w.alloc (boxD x (.slice rk x.s.len ck)) = W1 := ⟨_, rfl⟩
  have a1 := (Below.refl _ w).alloc (Nat.le_refl w.heap.size) (boxD x (.slice rk x.s.len ck))
  have q0 := World.alloc_heap_new w (boxD x (.slice rk x.s.len ck))
  rw [hW1] at a1 q0
  have HOf : Hid (Calls Tryz.prog 12 #[datV x (.slice rk x.s.len ck)] W1 fun e w' => (∃ v : Nat, e = .returned (.int .i64 v) ∧ v ≤ 5000000000000 + 281474976710657 ∧ (v ≤ 2147483647 → v = x.am)) ∧ Below W1.heap.size W1 w') := ofDatum_any x rk ck W1 (hR.below a1) hm ht hs
  have HB1 : Hid (Below w.heap.size w W1) := a1
  have HQ1 : Hid _ := q0
  have HR : Hid (RS w rk x.s) := hR
  have HE : Hid (Env w) := hE
  have HM : Hid (x.s.len ≤ maxLen) := hm
  clear hR hm ht hs hE a1 q0
  obtain ⟨c0, c1, c2, c3, c4, _⟩ := cells5 HQ1.out
  go_enter Tryz.func7, Tryz.ntmps7
  go_upto_region 1 with fail
  clear hW1
  go_wp2_with fail
  refine HOf.out.mono ?_
  rintro e w2 ⟨⟨v, rfl, hv1, hv2⟩, hb2⟩
  have HB2 : Hid (Below w.heap.size w w2) := HB1.out.trans (hb2.mono HB1.out.size)
  have HQ2 : Hid _ := (hb2.block _ (Array.getElem?_eq_some_iff.1 HQ1.out).1).trans HQ1.out
  have HV : Hid (v ≤ 2147483647 → v = x.am) := hv2
  clear hb2 hv2 c0 c1 c2 c3 c4 HOf
  by_cases hbig : 200000 < v
  · have hbig' : (200000 : Int) < (v : Int) := by omega
    go_wp2
    go_ret
    exact ⟨rfl, HB2.out⟩
  have hbig' : ¬ (200000 : Int) < (v : Int) := by omega
  have HA : Hid (x.am ≤ 200000) := by have := HV.out (by omega); show x.am ≤ 200000; omega
  have HX : Hid (DOk x) := Dt.am_ok HA.out (by omega)
  go_wp2_with fail
  refine (known_any w2 (HE.out.below HB2.out)).mono ?_
  rintro e w3 ⟨rfl, hb3⟩
  have HB3 : Hid (Below w.heap.size w w3) := HB2.out.trans (hb3.mono HB2.out.size)
  have HQ3 : Hid _ := (hb3.block _ (Array.getElem?_eq_some_iff.1 HQ2.out).1).trans HQ2.out
  clear hb3 hv1 hbig hbig'
  obtain ⟨c0, c1, c2, c3, c4, _⟩ := cells5 HQ3.out
  go_wp2_with fail
  refine (of_any x rk ck w3 HX.out (HR.out.below HB3.out) (HE.out.below HB3.out)).mono ?_
  rintro e w4 ⟨hb4, nv, kv, dv, pv, bs, rfl, hone, hown⟩
  obtain ⟨rp, cp, rfl⟩ := own_slice hown
  obtain ⟨y, hy, h72, h71⟩ := of_path x
  obtain ⟨E, hE⟩ : ∃ E, (ofM x).2.1 = E := ⟨_, rfl⟩
  obtain ⟨p, hp⟩ : ∃ p, (ofM x).2.2 = p := ⟨_, rfl⟩
  obtain ⟨f, hf⟩ : ∃ f, (ofM x).1 = f := ⟨_, rfl⟩
  rw [hE] at h72 h71 ⊢
  rw [hp] at hy hown h72 ⊢
  rw [hf] at hone ⊢
  obtain ⟨s1, g1, s2, g2, s3, g3, rfl, rfl, rfl⟩ := hone.slices
  have HB4 : Hid (Below w.heap.size w w4) := HB3.out.trans (hb4.mono HB3.out.size)
  have HQ4 : Hid _ := (hb4.block _ (Array.getElem?_eq_some_iff.1 HQ3.out).1).trans HQ3.out
  have HP : Hid (RX (Value.int .i64) w4 rp p) := own_rx hown rfl
  have HY : Hid (atM x p = some y) := hy
  have hya := at_am hy
  have HL : Hid (p.length ≤ 200000) := by have := HA.out; show _ ≤ _; omega
  have HT : Hid (y.t.length ≤ 200000) := by have := HA.out; have h3 : y.am = 1 + y.t.length + y.s.am := rfl; show _ ≤ _; omega
  have H72 : Hid (E = 72 → y.k = 2 ∧ 2 ≤ p.length) := h72
  have H71 : Hid (E = 71 → y.k ≠ 2 ∨ (primOf y.t).isSome = true ∨ (kwOf y.t).isSome = true) := h71
  clear hb4 c0 c1 c2 c3 c4 hE hp hf hone hown hy h72 h71 hya
  go_upto_region 5 with fail
  obtain ⟨w5, hw5⟩ : ∃ W, w4.alloc (Z9 f (.slice s1 f.names.length g1) (.slice s2 f.kids.len g2) (.slice s3 f.dat.s.len g3)) = W := ⟨_, rfl⟩
  have a5 := (Below.refl _ w4).alloc (Nat.le_refl w4.heap.size) (Z9 f (.slice s1 f.names.length g1) (.slice s2 f.kids.len g2) (.slice s3 f.dat.s.len g3))
  rw [hw5] at a5 ⊢
  have HB5 : Hid (Below w.heap.size w w5) := HB4.out.trans (a5.mono HB4.out.size)
  obtain ⟨c0, c1, c2, c3, c4, _⟩ := cells5 ((a5.block _ (Array.getElem?_eq_some_iff.1 HQ4.out).1).trans HQ4.out)
  have HCA : Hid (Calls Tryz.prog 38 #[datV x (.slice rk x.s.len ck), .slice rp p.length cp] w5 fun e w' => ∃ rk' ck', e = .returned (.tuple #[datV y (.slice rk' y.s.len ck'), .bool true]) ∧ Below w5.heap.size w5 w') := at_any x y p rk rp ck cp w5 (HR.out.below HB5.out) HM.out (HP.out.below a5) (by have := HL.out; unfold maxLen; omega) HY.out
  clear a5 hw5
  go_wp2_with fail
  refine Calls.mono HCA.out ?_
  rintro e w6 ⟨ry, cy, rfl, hb6⟩
  have HB6 : Hid (Below w.heap.size w w6) := HB5.out.trans (hb6.mono HB5.out.size)
  clear hb6 HCA c0 c1 c2 c3 c4
  have hml : maxLen = 2 ^ 63 - 1 := rfl
  by_cases e72 : E = 72
  · subst e72
    obtain ⟨hk, hl⟩ := H72.out rfl
    have hk2 : (y.k == 2) = true := by simp [hk]
    have hl2 : (2 : Int) ≤ (p.length : Int) := by omega
    clear H72 H71 hk hl
    go_wp2_with fail
    go_ret
    exact ⟨rfl, HB6.out.alloc HB6.out.size _⟩
  have e72' : (E == 72) = false := by simpa using e72
  by_cases e71 : E = 71
  · subst e71
    have h71 := H71.out rfl
    clear H72 H71 e72
    go_upto_region 6 with fail
    obtain ⟨w7, hw7⟩ : ∃ W, w6.alloc (boxD y (.slice ry y.s.len cy)) = W := ⟨_, rfl⟩
    have a7 := (Below.refl _ w6).alloc (Nat.le_refl w6.heap.size) (boxD y (.slice ry y.s.len cy))
    have q7 := World.alloc_heap_new w6 (boxD y (.slice ry y.s.len cy))
    rw [hw7] at a7 q7 ⊢
    obtain ⟨b7, hb7⟩ : ∃ b, w6.heap.size = b := ⟨_, rfl⟩
    have HB7 : Hid (Below w.heap.size w w7) := HB6.out.trans (a7.mono HB6.out.size)
    rw [hb7] at q7 ⊢
    have HQ7 : Hid (w7.heap[b7]? = some (.cells #[.int .u8 y.k, .int .i64 y.n, S y.t, .slice ry y.s.len cy, .bool y.d] 32 (0, 0))) := q7
    obtain ⟨c0, c1, c2, c3, c4, _⟩ := cells5 q7
    have htl : y.t.length ≤ maxLen := by have := HT.out; omega
    have HTL : Hid _ := htl
    have HCP : Hid (Calls Tryz.prog 10 #[S y.t] w7 fun e w' => e = .returned (primV (primOf y.t)) ∧ Below w7.heap.size w7 w') := prim_any y.t w7 htl (HE.out.below HB7.out).pl
    have HK : Hid (y.k ≠ 2 ∨ (primOf y.t).isSome = true ∨ (kwOf y.t).isSome = true) := h71
    clear hw7 a7 q7 hb7 h71 htl
    obtain ⟨pv, hpv⟩ : ∃ pv, primOf y.t = pv := ⟨_, rfl⟩
    rw [hpv] at HCP HK
    clear hpv
    have hk : y.k = 2 ∨ ¬ y.k = 2 := by
      by_cases h : y.k = 2
      · exact .inl h
      · exact .inr h
    cases pv with
    | some pn =>
      have HCP2 : Hid (Calls Tryz.prog 10 #[S y.t] w7 fun e w' => e = .returned (.tuple #[.int .u8 pn, .int .i64 (argsOf pn), .bool true]) ∧ Below w7.heap.size w7 w') := HCP.out
      clear HCP
      obtain ⟨an, han⟩ : ∃ an, argsOf pn = an := ⟨_, rfl⟩
      rw [han] at HCP2
      clear han
      go_wp2_with fail
      refine Calls.mono HCP2.out ?_
      rintro e w8 ⟨rfl, hb8⟩
      have HB8 : Hid (Below w.heap.size w w8) := HB7.out.trans (hb8.mono HB7.out.size)
      have HQ8 : Hid _ := (hb8.block _ (Array.getElem?_eq_some_iff.1 HQ7.out).1).trans HQ7.out
      clear c0 c1 c2 c3 c4 hb8
      obtain ⟨c0, c1, c2, c3, c4, _⟩ := cells5 HQ8.out
      rcases hk with hk | hk
      · have hk2 : (y.k != 2) = false := by simp [hk]
        clear hk
        go_wp2_with fail
        go_ret
        exact ⟨rfl, HB8.out⟩
      · have hk2 : (y.k != 2) = true := by simp [hk]
        clear hk
        go_wp2_with fail
        go_ret
        exact ⟨rfl, HB8.out⟩
    | none =>
      have HCP2 : Hid (Calls Tryz.prog 10 #[S y.t] w7 fun e w' => e = .returned (.tuple #[.int .u8 0, .int .i64 0, .bool false]) ∧ Below w7.heap.size w7 w') := HCP.out
      clear HCP
      go_wp2_with fail
      refine Calls.mono HCP2.out ?_
      rintro e w8 ⟨rfl, hb8⟩
      have HB8 : Hid (Below w.heap.size w w8) := HB7.out.trans (hb8.mono HB7.out.size)
      have HQ8 : Hid _ := (hb8.block _ (Array.getElem?_eq_some_iff.1 HQ7.out).1).trans HQ7.out
      clear c0 c1 c2 c3 c4 hb8
      obtain ⟨c0, c1, c2, c3, c4, _⟩ := cells5 HQ8.out
      rcases hk with hk | hk
      · have hkw : kwB y.t = true := by
          rcases HK.out with h | h | h
          · exact absurd hk h
          · cases h
          · rw [← kw_is]; exact h
        have hk2 : (y.k != 2) = false := by simp [hk]
        have HCK : Hid (Calls Tryz.prog 39 #[S y.t] w8 fun e w' => e = .returned (.bool true) ∧ Below w8.heap.size w8 w') := by
          have h := rkey_any y.t w8 HTL.out
          rw [hkw] at h
          exact h
        clear hk hkw
        go_wp2_with fail
        refine Calls.mono HCK.out ?_
        rintro e w9 ⟨rfl, hb9⟩
        have HB9 : Hid (Below w.heap.size w w9) := HB8.out.trans (hb9.mono HB8.out.size)
        clear hb9
        go_wp2_with fail
        go_ret
        exact ⟨rfl, HB9.out⟩
      · have hk2 : (y.k != 2) = true := by simp [hk]
        clear hk
        go_wp2_with fail
        go_ret
        exact ⟨rfl, HB8.out⟩
  have e71' : (E == 71) = false := by simpa using e71
  clear e71 e72
  go_wp2_with fail
  go_ret
  exact ⟨rfl, HB6.out.alloc HB6.out.size _⟩
end Go.Proofs.YtkgnigloboajcaaGreatDoor
