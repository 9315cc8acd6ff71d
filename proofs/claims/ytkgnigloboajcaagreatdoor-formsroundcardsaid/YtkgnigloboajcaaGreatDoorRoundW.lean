/- FormsRound. -/
import Derived.Test.YtkgnigloboajcaaGreatDoorPlainW
import Derived.Test.YtkgnigloboajcaaGreatDoorHRm
import Derived.Test.YtkgnigloboajcaaGreatDoorSmF
import Derived.Test.YtkgnigloboajcaaGreatDoorOfDat
namespace Go.Proofs.YtkgnigloboajcaaGreatDoor
open Go.RowKit

theorem keepDD {W W' : World} {b g : Nat} {v0 v1 v2 v3 v4 u0 u1 u2 u3 u4 : Value} (hb : Below W.heap.size W W') (h : (W.cell? ⟨b, 0, none⟩ = some v0 ∧ W.cell? ⟨b, 1, none⟩ = some v1 ∧ W.cell? ⟨b, 2, none⟩ = some v2 ∧ W.cell? ⟨b, 3, none⟩ = some v3 ∧ W.cell? ⟨b, 4, none⟩ = some v4) ∧ (W.cell? ⟨g, 0, none⟩ = some u0 ∧ W.cell? ⟨g, 1, none⟩ = some u1 ∧ W.cell? ⟨g, 2, none⟩ = some u2 ∧ W.cell? ⟨g, 3, none⟩ = some u3 ∧ W.cell? ⟨g, 4, none⟩ = some u4)) :
    (W'.cell? ⟨b, 0, none⟩ = some v0 ∧ W'.cell? ⟨b, 1, none⟩ = some v1 ∧ W'.cell? ⟨b, 2, none⟩ = some v2 ∧ W'.cell? ⟨b, 3, none⟩ = some v3 ∧ W'.cell? ⟨b, 4, none⟩ = some v4) ∧ (W'.cell? ⟨g, 0, none⟩ = some u0 ∧ W'.cell? ⟨g, 1, none⟩ = some u1 ∧ W'.cell? ⟨g, 2, none⟩ = some u2 ∧ W'.cell? ⟨g, 3, none⟩ = some u3 ∧ W'.cell? ⟨g, 4, none⟩ = some u4) := ⟨keepD5 hb h.1, keepD5 hb h.2⟩
theorem rfo_0 (w : World) : RFo w frm0 none none none := ⟨⟨0, 0, .inl rfl, fun j s hs => by simp [frm0] at hs⟩, ⟨0, 0, .inl rfl, trivial⟩, rs_nil _ _⟩
theorem szd_0 : Szd 60000 frm0 := ⟨⟨by show 0 ≤ 281474976710656; omega, by show 0 ≤ 1000000; omega, (fun s hs => by cases hs), by show 0 ≤ 1000000; omega, dok_0⟩, trivial, by show 4 + 2 * 0 + 0 + 0 + 0 ≤ _; omega⟩
theorem pl_dok {x : Dt} (h : okD x) (hX : DOk x) : DOk (plD x) := by
  by_cases hk : x.k = 5
  · cases hq : quB x.s x.d with
    | true =>
      rw [plD_quote hk hq]
      split
      · have hl : x.s.len = 2 := by unfold quB at hq; simp only [Bool.and_eq_true, beq_iff_eq] at hq; exact hq.1
        exact hd_dok (by have := tl_size x.s; have := hX.size; omega) (tl_tx hX.tx)
      · exact hX
    | false =>
      have h1 := (pl_one h (fun L => pl_all x.s h.2 L) 0).sz
      rw [plD_list hk hq] at h1 ⊢
      exact ⟨Nat.le_trans h1 hX.size, hX.t, pl_tx hX.tx⟩
  · rw [plD_atom hk]; exact hX

set_option maxRecDepth 100000 in
set_option maxHeartbeats 8000000 in
theorem formsRound_walk (x : Dt) (rk : Option Addr) (ck : Nat) (w : World) (hR : RS w rk x.s) (hm : x.s.len ≤ maxLen) (ht : x.t.length ≤ 281474976710656) (hs : x.s.sl) (hE : Env w) :
    Calls Tryz.prog 6 #[datV x (.slice rk x.s.len ck)] w fun e w' => e = .returned (.bool true) ∧ Below w.heap.size w w' := by
  obtain ⟨W1, hW1⟩ : ∃ W1, w.alloc (boxD x (.slice rk x.s.len ck)) = W1 := ⟨_, rfl⟩
  have a1 := (Below.refl _ w).alloc (Nat.le_refl w.heap.size) (boxD x (.slice rk x.s.len ck))
  have q0 := World.alloc_heap_new w (boxD x (.slice rk x.s.len ck))
  rw [hW1] at a1 q0
  have HOf : Hid (Calls Tryz.prog 12 #[datV x (.slice rk x.s.len ck)] W1 fun e w' => (∃ v : Nat, e = .returned (.int .i64 v) ∧ v ≤ 5000000000000 + 281474976710657 ∧ (v ≤ 2147483647 → v = x.am)) ∧ Below W1.heap.size W1 w') := ofDatum_any x rk ck W1 (hR.below a1) hm ht hs
  have HB1 : Hid (Below w.heap.size w W1) := a1
  have HQ1 : Hid _ := q0
  have HR : Hid (RS w rk x.s) := hR
  have HE : Hid (Env w) := hE
  have HM : Hid (x.s.len ≤ maxLen) := hm
  clear hR hm ht hs hE a1 q0
  obtain ⟨c0, c1, c2, c3, c4, _⟩ := cells5 HQ1.out
  go_enter Tryz.func6, Tryz.ntmps6
  go_upto_region 1 with fail
  clear hW1
  go_wp2_with fail
  refine HOf.out.mono ?_
  rintro e w2 ⟨⟨v, rfl, hv1, hv2⟩, hb2⟩
  have HB2 : Hid (Below w.heap.size w w2) := HB1.out.trans (hb2.mono HB1.out.size)
  have HQ2 : Hid _ := (hb2.block _ (Array.getElem?_eq_some_iff.1 HQ1.out).1).trans HQ1.out
  have HV : Hid (v ≤ 2147483647 → v = x.am) := hv2
  clear hb2 hv2 c0 c1 c2 c3 c4 HOf
  by_cases hbig : 200000 < v
  · have hbig' : (200000 : Int) < (v : Int) := by omega
    go_wp2
    go_ret
    exact ⟨rfl, HB2.out⟩
  have hbig' : ¬ (200000 : Int) < (v : Int) := by omega
  have HA : Hid (x.am ≤ 200000) := by have := HV.out (by omega); show x.am ≤ 200000; omega
  have HX : Hid (DOk x) := Dt.am_ok HA.out (by omega)
  go_wp2_with fail
  refine (known_any w2 (HE.out.below HB2.out)).mono ?_
  rintro e w3 ⟨rfl, hb3⟩
  have HB3 : Hid (Below w.heap.size w w3) := HB2.out.trans (hb3.mono HB2.out.size)
  have HQ3 : Hid _ := (hb3.block _ (Array.getElem?_eq_some_iff.1 HQ2.out).1).trans HQ2.out
  clear hb3 hv1 hbig hbig'
  obtain ⟨c0, c1, c2, c3, c4, _⟩ := cells5 HQ3.out
  go_wp2_with fail
  refine (of_any x rk ck w3 HX.out (HR.out.below HB3.out) (HE.out.below HB3.out)).mono ?_
  rintro e w4 ⟨hb4, nv, kv, dv, pv, bs, rfl, hone, hown⟩
  obtain ⟨rp, cp, rfl⟩ := own_slice hown
  obtain ⟨s1, g1, s2, g2, s3, g3, rfl, rfl, rfl, hrf, hcap⟩ := hone.rfo
  have HSz : Hid (Szd 60000 (ofM x).1) := of_szd HX.out
  have HRd : Hid ((ofM x).2.1 = 0 → canB x = true ∧ (ofM x).2.2 = [] ∧ backM (ofM x).1 = (plD x, 0) ∧ ofM (plD x) = ((ofM x).1, 0, [])) := of_round
  have HEr : Hid ((ofM x).2.1 ≠ 0 → Er (ofM x).2.1 ∧ (ofM x).1 = frm0) := of_err
  obtain ⟨E, hE⟩ : ∃ E, (ofM x).2.1 = E := ⟨_, rfl⟩
  obtain ⟨p, hp⟩ : ∃ p, (ofM x).2.2 = p := ⟨_, rfl⟩
  obtain ⟨f, hf⟩ : ∃ f, (ofM x).1 = f := ⟨_, rfl⟩
  rw [hE] at HRd HEr ⊢
  rw [hp] at hown HRd ⊢
  rw [hf] at hone hrf hcap HSz HRd HEr ⊢
  have HB4 : Hid (Below w.heap.size w w4) := HB3.out.trans (hb4.mono HB3.out.size)
  have HQ4 : Hid _ := (hb4.block _ (Array.getElem?_eq_some_iff.1 HQ3.out).1).trans HQ3.out
  have HRF : Hid (RFo w4 f s1 s2 s3) := hrf
  have HCp : Hid (f.kids.len ≤ g2) := hcap
  clear hb4 c0 c1 c2 c3 c4 hE hp hf hone hown hrf hcap
  go_upto_region 5 with fail
  obtain ⟨w5, hw5⟩ : ∃ W, w4.alloc (Z9 f (.slice s1 f.names.length g1) (.slice s2 f.kids.len g2) (.slice s3 f.dat.s.len g3)) = W := ⟨_, rfl⟩
  have a5 := (Below.refl _ w4).alloc (Nat.le_refl w4.heap.size) (Z9 f (.slice s1 f.names.length g1) (.slice s2 f.kids.len g2) (.slice s3 f.dat.s.len g3))
  have q5 := World.alloc_heap_new w4 (Z9 f (.slice s1 f.names.length g1) (.slice s2 f.kids.len g2) (.slice s3 f.dat.s.len g3))
  rw [hw5] at a5 q5 ⊢
  obtain ⟨b4, hb4⟩ : ∃ b, w4.heap.size = b := ⟨_, rfl⟩
  have HB5 : Hid (Below w.heap.size w w5) := HB4.out.trans (a5.mono HB4.out.size)
  have HQ5 : Hid _ := (a5.block _ (Array.getElem?_eq_some_iff.1 HQ4.out).1).trans HQ4.out
  have HRF5 : Hid (RFo w5 f s1 s2 s3) := HRF.out.below a5
  rw [hb4] at q5 ⊢
  have HF5 : Hid _ := q5
  clear a5 q5 hw5 hb4
  obtain ⟨⟨z0, z1, z2, z3, z4, z5, z6, z7, z8⟩, _⟩ := cells9 HF5.out
  by_cases hE0 : E = 0
  case neg =>
    have hE2 : (E != 0) = true := by simpa using hE0
    obtain ⟨her, hf0⟩ := HEr.out hE0
    have HSF : Hid (Calls Tryz.prog 16 #[frmV f (.slice s1 f.names.length g1) (.slice s2 f.kids.len g2) (.slice s3 f.dat.s.len g3), .agg #[.int .u8 0, .string ⟨#[]⟩, .slice none 0 0, .slice none 0 0, .int .u8 0, .int .i64 0, .string ⟨#[]⟩, .slice none 0 0, .bool false]] w5 fun e w' => e = .returned (.bool true) ∧ Below w5.heap.size w5 w') := by
      refine Calls.mono (sameF_any f f frm0 s1 s2 s3 none none none g1 g2 g3 0 0 0 w5 (Nat.le_refl _) HSz.out.ok HSz.out.ks szd_0.ok szd_0.ks HRF5.out (rfo_0 _)) ?_
      rintro e w' ⟨⟨b, rfl, hb⟩, hbw⟩
      rw [hb hf0]
      exact ⟨rfl, hbw⟩
    have HER : Hid (Er E) := her
    clear her hf0 hE0
    go_wp2_with fail
    refine Calls.mono HSF.out ?_
    rintro e w6 ⟨rfl, hb6⟩
    have HB6 : Hid (Below w.heap.size w w6) := HB5.out.trans (hb6.mono HB5.out.size)
    clear hb6 z0 z1 z2 z3 z4 z5 z6 z7 z8 HSF
    obtain h | h | h := HER.out
    · subst h
      go_wp2_with fail
      go_ret
      exact ⟨rfl, HB6.out⟩
    · subst h
      go_wp2_with fail
      go_ret
      exact ⟨rfl, HB6.out⟩
    · subst h
      go_wp2_with fail
      go_ret
      exact ⟨rfl, HB6.out⟩
  subst hE0
  obtain ⟨hcan, rfl, hback, hof⟩ := HRd.out rfl
  have HCn : Hid (canB x = true) := hcan
  have HOk : Hid (okD x) := canB_ok hcan
  have HPD : Hid (DOk (plD x)) := pl_dok HOk.out HX.out
  have HPC : Hid (canB (plD x) = true) := pl_can hcan
  have HOf : Hid (ofM (plD x) = (f, 0, [])) := hof
  have HBa : Hid (backM f = (plD x, 0)) := hback
  obtain ⟨z, hz⟩ : ∃ z, plD x = z := ⟨_, rfl⟩
  have HZ : Hid (plD x = z) := hz
  rw [hz] at HPD HPC HOf HBa
  clear HRd HEr hcan hof hback hz
  have HCB : Hid (Calls Tryz.prog 27 #[frmV f (.slice s1 f.names.length g1) (.slice s2 f.kids.len g2) (.slice s3 f.dat.s.len g3)] w5 fun e w' => (∃ rb cb, e = .returned (.tuple #[datV z (.slice rb z.s.len cb), .int .i64 0]) ∧ RS w' rb z.s) ∧ Below w5.heap.size w5 w') := by
    have h := back_any f s1 s2 s3 g1 g2 g3 w5 HSz.out.ok HSz.out.ks HRF5.out HCp.out (HE.out.below HB5.out) (by have := HSz.out.wt; omega)
    rw [HBa.out] at h
    refine Calls.mono h ?_
    rintro e w' ⟨v, rfl, hT, hb⟩
    obtain ⟨rb, cb, rfl, hrs, _⟩ := hT.rs
    exact ⟨⟨rb, cb, rfl, hrs⟩, hb⟩
  go_wp2_with fail
  refine Calls.mono HCB.out ?_
  rintro e w6 ⟨⟨rb, cb, rfl, hrs6⟩, hb6⟩
  have HB6 : Hid (Below w.heap.size w w6) := HB5.out.trans (hb6.mono HB5.out.size)
  have HQ6 : Hid _ := cy0 HQ5.out hb6
  have HF6 : Hid _ := cy0 HF5.out hb6
  have HRF6 : Hid (RFo w6 f s1 s2 s3) := HRF5.out.below hb6
  have HRZ6 : Hid (RS w6 rb z.s) := hrs6
  clear z0 z1 z2 z3 z4 z5 z6 z7 z8 HCB hb6 hrs6
  go_upto_region 9 with fail
  obtain ⟨w7, hw7⟩ : ∃ W, w6.alloc (boxD z (.slice rb z.s.len cb)) = W := ⟨_, rfl⟩
  have a7 := (Below.refl _ w6).alloc (Nat.le_refl w6.heap.size) (boxD z (.slice rb z.s.len cb))
  have q7 := World.alloc_heap_new w6 (boxD z (.slice rb z.s.len cb))
  rw [hw7] at a7 q7 ⊢
  obtain ⟨b8, hb8⟩ : ∃ b, w6.heap.size = b := ⟨_, rfl⟩
  have HB7 : Hid (Below w.heap.size w w7) := HB6.out.trans (a7.mono HB6.out.size)
  have HQ7 : Hid _ := cy0 HQ6.out a7
  have HF7 : Hid _ := cy0 HF6.out a7
  have HRF7 : Hid (RFo w7 f s1 s2 s3) := HRF6.out.below a7
  have HRZ7 : Hid (RS w7 rb z.s) := HRZ6.out.below a7
  rw [hb8] at q7 ⊢
  have HK7 : Hid (w7.heap[b8]? = some (.cells #[.int .u8 z.k, .int .i64 z.n, S z.t, .slice rb z.s.len cb, .bool z.d] 32 (0, 0))) := q7
  obtain ⟨y0, y1, y2, y3, y4, _⟩ := cells5 q7
  have HCO : Hid (Calls Tryz.prog 15 #[datV z (.slice rb z.s.len cb)] w7 fun e w' => (∃ a1 c1 a2 c2 a3 c3 rq cq, e = .returned (.tuple #[frmV f (.slice a1 f.names.length c1) (.slice a2 f.kids.len c2) (.slice a3 f.dat.s.len c3), .int .i64 0, .slice rq 0 cq]) ∧ RFo w' f a1 a2 a3) ∧ Below w7.heap.size w7 w') := by
    have h := of_any z rb cb w7 HPD.out HRZ7.out (HE.out.below HB7.out)
    rw [HOf.out] at h
    refine Calls.mono h ?_
    rintro e w' ⟨hb, nv, kv, dv, pv, bs, rfl, hone, hown⟩
    obtain ⟨a1, c1, a2, c2, a3, c3, rfl, rfl, rfl, hrf, _⟩ := hone.rfo
    obtain ⟨rq, cq, rfl⟩ := own_slice hown
    exact ⟨⟨a1, c1, a2, c2, a3, c3, rq, cq, rfl, hrf⟩, hb⟩
  clear a7 q7 hw7 hb8
  go_wp2_with fail
  refine Calls.mono HCO.out ?_
  rintro e w8 ⟨⟨a1, k1, a2, k2, a3, k3, rq, cq, rfl, hrf8⟩, hb8⟩
  have HB8 : Hid (Below w.heap.size w w8) := HB7.out.trans (hb8.mono HB7.out.size)
  have HQ8 : Hid _ := cy0 HQ7.out hb8
  have HF8 : Hid _ := cy0 HF7.out hb8
  have HK8 : Hid _ := cy0 HK7.out hb8
  have HRF8 : Hid (RFo w8 f s1 s2 s3) := HRF7.out.below hb8
  have HRG8 : Hid (RFo w8 f a1 a2 a3) := hrf8
  have HRZ8 : Hid (RS w8 rb z.s) := HRZ7.out.below hb8
  clear y0 y1 y2 y3 y4 hb8 hrf8 HCO
  go_upto_region 10 with fail
  obtain ⟨w9, hw9⟩ : ∃ W, w8.alloc (Z9 f (.slice a1 f.names.length k1) (.slice a2 f.kids.len k2) (.slice a3 f.dat.s.len k3)) = W := ⟨_, rfl⟩
  have a9 := (Below.refl _ w8).alloc (Nat.le_refl w8.heap.size) (Z9 f (.slice a1 f.names.length k1) (.slice a2 f.kids.len k2) (.slice a3 f.dat.s.len k3))
  have q9 := World.alloc_heap_new w8 (Z9 f (.slice a1 f.names.length k1) (.slice a2 f.kids.len k2) (.slice a3 f.dat.s.len k3))
  rw [hw9] at a9 q9 ⊢
  obtain ⟨b9, hb9⟩ : ∃ b, w8.heap.size = b := ⟨_, rfl⟩
  have HB9 : Hid (Below w.heap.size w w9) := HB8.out.trans (a9.mono HB8.out.size)
  have HQ9 : Hid _ := cy0 HQ8.out a9
  have HF9 : Hid _ := cy0 HF8.out a9
  have HK9 : Hid _ := cy0 HK8.out a9
  have HRZ9 : Hid (RS w9 rb z.s) := HRZ8.out.below a9
  have HRF9 : Hid (RFo w9 f s1 s2 s3) := HRF8.out.below a9
  have HSF : Hid (Calls Tryz.prog 16 #[frmV f (.slice a1 f.names.length k1) (.slice a2 f.kids.len k2) (.slice a3 f.dat.s.len k3), frmV f (.slice s1 f.names.length g1) (.slice s2 f.kids.len g2) (.slice s3 f.dat.s.len g3)] w9 fun e w' => e = .returned (.bool true) ∧ Below w9.heap.size w9 w') := by
    refine Calls.mono (sameF_any f f f a1 a2 a3 s1 s2 s3 k1 k2 k3 g1 g2 g3 w9 (Nat.le_refl _) HSz.out.ok HSz.out.ks HSz.out.ok HSz.out.ks (HRG8.out.below a9) HRF9.out) ?_
    rintro e w' ⟨⟨b, rfl, hb⟩, hbw⟩
    rw [hb rfl]
    exact ⟨rfl, hbw⟩
  rw [hb9] at q9 ⊢
  obtain ⟨⟨z0, z1, z2, z3, z4, z5, z6, z7, z8⟩, _⟩ := cells9 HF9.out
  obtain ⟨⟨x0, x1, x2, x3, x4, x5, x6, x7, x8⟩, _⟩ := cells9 q9
  clear a9 q9 hw9 hb9
  go_wp2_with fail
  refine Calls.mono HSF.out ?_
  rintro e w10 ⟨rfl, hb10⟩
  have HB10 : Hid (Below w.heap.size w w10) := HB9.out.trans (hb10.mono HB9.out.size)
  have HQ10 : Hid _ := cy0 HQ9.out hb10
  have HF10 : Hid _ := cy0 HF9.out hb10
  have HK10 : Hid _ := cy0 HK9.out hb10
  have HRZ10 : Hid (RS w10 rb z.s) := HRZ9.out.below hb10
  have HRF10 : Hid (RFo w10 f s1 s2 s3) := HRF9.out.below hb10
  have HCC : Hid (Calls Tryz.prog 28 #[frmV f (.slice s1 f.names.length g1) (.slice s2 f.kids.len g2) (.slice s3 f.dat.s.len g3)] w10 fun e w' => e = .returned (.int .i64 0) ∧ Below w10.heap.size w10 w') := by
    have h := fcheck_any f s1 s2 s3 g1 g2 g3 w10 HSz.out.ok HSz.out.ks HRF10.out HCp.out (HE.out.below HB10.out) (by have := HSz.out.wt; omega)
    rw [HBa.out] at h
    exact h
  clear z0 z1 z2 z3 z4 z5 z6 z7 z8 x0 x1 x2 x3 x4 x5 x6 x7 x8 hb10 HSF
  obtain ⟨⟨z0, z1, z2, z3, z4, z5, z6, z7, z8⟩, _⟩ := cells9 HF10.out
  go_wp2_with fail
  refine Calls.mono HCC.out ?_
  rintro e w11 ⟨rfl, hb11⟩
  have HB11 : Hid (Below w.heap.size w w11) := HB10.out.trans (hb11.mono HB10.out.size)
  have HQ11 : Hid _ := cy0 HQ10.out hb11
  have HK11 : Hid (w11.heap[b8]? = some (.cells #[.int .u8 z.k, .int .i64 z.n, S z.t, .slice rb z.s.len cb, .bool z.d] 32 (0, 0))) := cy0 HK10.out hb11
  have HRZ11 : Hid (RS w11 rb z.s) := HRZ10.out.below hb11
  clear z0 z1 z2 z3 z4 z5 z6 z7 z8 hb11 HCC
  go_upto_region 12 with fail
  obtain ⟨bq, hbq⟩ : ∃ b, w.heap.size = b := ⟨_, rfl⟩
  have hq := HQ11.out
  rw [hbq] at hq ⊢
  have HQb : Hid (w11.heap[bq]? = some (.cells #[.int .u8 x.k, .int .i64 x.n, S x.t, .slice rk x.s.len ck, .bool x.d] 32 (0, 0))) := hq
  obtain ⟨c0, c1, c2, c3, c4, _⟩ := cells5 hq
  obtain ⟨y0, y1, y2, y3, y4, _⟩ := cells5 HK11.out
  have hmx : Tryz.prog.follows .mixedOrders = true := by kernel_rfl
  have HCP : Hid (∀ W, Below w11.heap.size w11 W → Calls Tryz.prog 36 #[datV x (.slice rk x.s.len ck)] W fun e w' => (∃ rp cp, e = .returned (datV z (.slice rp z.s.len cp)) ∧ RS w' rp z.s) ∧ Below W.heap.size W w') := fun W hb => by
    have h := lplain_any x rk ck W HX.out HOk.out (HR.out.below (HB11.out.trans (hb.mono HB11.out.size)))
    rw [HZ.out] at h
    exact h
  have HCS : Hid (∀ W rp cp, Below w11.heap.size w11 W → RS W rp z.s → Calls Tryz.prog 30 #[.agg #[.int .u8 z.k, .int .i64 z.n, S z.t, .slice rb z.s.len cb, .bool z.d], datV z (.slice rp z.s.len cp)] W fun e w' => e = .returned (.bool true) ∧ Below W.heap.size W w') := fun W rp cp hb hr => by
    have hl := HPD.out.len
    have h := sameDat_any z.s.size z.k z.n z.t z.s z.d rb cb z.k z.n z.t z.s z.d rp cp W (Nat.le_refl _) (by unfold maxLen; omega) (by unfold maxLen; omega) (HRZ11.out.below hb) hr
    rw [show sameB z.k z.n z.t z.s z.d z.k z.n z.t z.s z.d = true by simp [sameB, (Fo.same_iff _ _).2 rfl]] at h
    exact h
  clear hq
  first
  | go_region_held3 (fun wx => (wx.cell? ⟨b8, 0, none⟩ = some (.int .u8 z.k) ∧ wx.cell? ⟨b8, 1, none⟩ = some (.int .i64 z.n) ∧ wx.cell? ⟨b8, 2, none⟩ = some (S z.t) ∧ wx.cell? ⟨b8, 3, none⟩ = some (.slice rb z.s.len cb) ∧ wx.cell? ⟨b8, 4, none⟩ = some (.bool z.d)) ∧ (wx.cell? ⟨bq, 0, none⟩ = some (.int .u8 x.k) ∧ wx.cell? ⟨bq, 1, none⟩ = some (.int .i64 x.n) ∧ wx.cell? ⟨bq, 2, none⟩ = some (S x.t) ∧ wx.cell? ⟨bq, 3, none⟩ = some (.slice rk x.s.len ck) ∧ wx.cell? ⟨bq, 4, none⟩ = some (.bool x.d)))
      (first | go_keep | exact keepDD hb12 (by go_keep) | exact keepDD hb13 (by go_keep))
      (first
        | (go_at_call 36; refine Calls.mono (HCP.out _ (Below.refl _ _).drew) ?_; rintro e w12 ⟨⟨rp2, cp2, rfl, hrp2⟩, hb12⟩)
        | (go_at_call 30; refine Calls.mono (HCS.out _ rp2 cp2 ((Below.refl _ _).drew.trans hb12) hrp2) ?_; rintro e w13 ⟨rfl, hb13⟩))
  | fail
  have hbn : Below w11.heap.size w11 w13 := ((Below.refl _ _).drew.trans hb12).trans (hb13.mono ((Below.refl w11.heap.size w11).drew.trans hb12).size)
  have HB13 : Hid (Below w.heap.size w w13) := HB11.out.trans (hbn.mono HB11.out.size)
  have HK13 : Hid (w13.heap[b8]? = some (.cells #[.int .u8 z.k, .int .i64 z.n, S z.t, .slice rb z.s.len cb, .bool z.d] 32 (0, 0))) := cy0 HK11.out hbn
  have HRZ13 : Hid (RS w13 rb z.s) := HRZ11.out.below hbn
  clear hbn hb12 hb13 hrp2 HCP HCS c0 c1 c2 c3 c4 y0 y1 y2 y3 y4
  obtain ⟨y0, y1, y2, y3, y4, _⟩ := cells5 HK13.out
  have a14 := (Below.refl _ w13).alloc (Nat.le_refl w13.heap.size) (.cells #[.int .u8 z.k, .int .i64 z.n, S z.t, .slice rb z.s.len cb, .bool z.d] 32)
  have HB14 : Hid (Below w.heap.size w (w13.alloc (.cells #[.int .u8 z.k, .int .i64 z.n, S z.t, .slice rb z.s.len cb, .bool z.d] 32))) := HB13.out.trans (a14.mono HB13.out.size)
  obtain ⟨tx, htx⟩ : ∃ tx, (writeOf (z.fo .nil)).1 = tx := ⟨_, rfl⟩
  have HCW : Hid (Calls Tryz.prog 37 #[.slice (some ⟨w13.heap.size, 0, none⟩) 1 1] (w13.alloc (.cells #[.int .u8 z.k, .int .i64 z.n, S z.t, .slice rb z.s.len cb, .bool z.d] 32)) fun e w' => e = .returned (.tuple #[.string ⟨tx.toArray⟩, .int .i64 0]) ∧ Below (w13.alloc (.cells #[.int .u8 z.k, .int .i64 z.n, S z.t, .slice rb z.s.len cb, .bool z.d] 32)).heap.size (w13.alloc (.cells #[.int .u8 z.k, .int .i64 z.n, S z.t, .slice rb z.s.len cb, .bool z.d] 32)) w') := by
    have hE := HE.out.below HB14.out
    have h := write_fn (some ⟨w13.heap.size, 0, none⟩) 1 (z.fo .nil) (w13.alloc (.cells #[.int .u8 z.k, .int .i64 z.n, S z.t, .slice rb z.s.len cb, .bool z.d] 32)) (by show 1 ≤ maxLen; unfold maxLen; omega) (by show z.s.size + 0 + 1 + 1 ≤ _; have := HPD.out.size; omega) ⟨HPD.out.t, HPD.out.tx, trivial⟩ (rs_new HRZ13.out (by have := HPD.out.len; unfold maxLen; omega)) hE.ev hE.tb
    have h0 : (writeOf (z.fo .nil)).2 = 0 := by have := HPC.out; unfold canB at this; simpa using this
    rw [h0, htx] at h
    exact h
  clear a14 htx
  go_wp2_with fail
  refine Calls.mono HCW.out ?_
  rintro e w15 ⟨rfl, hb15⟩
  have HB15 : Hid (Below w.heap.size w w15) := HB14.out.trans (hb15.mono HB14.out.size)
  clear hb15 HCW y0 y1 y2 y3 y4
  go_wp2_with fail
  go_ret
  exact ⟨rfl, HB15.out⟩
end Go.Proofs.YtkgnigloboajcaaGreatDoor
