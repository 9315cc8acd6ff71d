/- The document's Write. -/
import Derived.Test.YtlpdfifjdlfpdaaGreatDoorHRefText5
import Derived.Test.YtlpdfifjdlfpdaaGreatDoorHRefMany
import Derived.Test.YtlpdfifjdlfpdaaGreatDoorGM
namespace Go.Proofs.YtlpdfifjdlfpdaaGreatDoor
open Go.RowKit

def lnT : List (List UInt8) → List UInt8
  | [] => []
  | x :: r => 10 :: (x ++ lnT r)
theorem lines_ln : ∀ (r : List (List UInt8)) (x : List UInt8), linesT (x :: r) = x ++ lnT r
  | [], x => by simp [linesT, lnT]
  | y :: r, x => by rw [linesT, lines_ln r y]; simp [lnT]

set_option maxRecDepth 100000 in
set_option maxHeartbeats 8000000 in
theorem refWrite_any (rk : Option Addr) (ck : Nat) (f : Fo) (w : World) (hb : f.size ≤ 1000000) (hm : f.len ≤ maxLen) (htx : f.tx) (hR : RS w rk f) :
    Calls Tryz.prog 12 #[.slice rk f.len ck] w fun e w' => e = .returned (.tuple #[S (writeOf f).1, .int .i64 (writeOf f).2]) ∧ Below w.heap.size w w' := by
  have Htx : Hid f.tx := htx
  have hmm := hm
  unfold maxLen at hmm
  obtain ⟨b, o, hab, hRd⟩ := hR
  have HRd : Hid (Rd w b o f) := hRd
  have Hra : Hid (f.len ≠ 0 → rk = some ⟨b, o, none⟩) := fun h => hab.resolve_left h
  clear hRd hab htx hm
  go_enter Tryz.func12, Tryz.ntmps12
  go_wp2
  go_loopw [4, 5] (fun i q wr => ∃ (j : Nat) (fi : Fo), i = .int .i64 j ∧ fi.len + j = f.len ∧ fi.size ≤ f.size ∧ Hid fi.tx ∧ Hid (Rd w b (o + j * 5) fi) ∧ Hid (allD f = allD fi) ∧ Hid (Below w.heap.size w wr)) (fun i _ _ => f.len - (intOf i).toNat)
  case atStart => exact ⟨0, f, rfl, by simp, Nat.le_refl _, Htx, by simpa using HRd, rfl, Below.refl _ _⟩
  case round =>
    obtain ⟨j, fi, rfl, hj, hsz, HT, HF, HA, HBj⟩ := hrel
    cases fi with
    | nil =>
      have hj' : j = f.len := by simpa [Fo.len] using hj
      have HJ : Hid _ := hj'
      have hjl : ¬ ((j : Int) < (f.len : Int)) := by omega
      have HA1 : Hid (allD f = true) := HA.out
      have HDp : Hid (dep 0 f = dpO f) := by
        show _ = _
        rw [dep_dpO f 0 HA1.out]; split <;> omega
      have HCk : Hid (chk f = if 100 < dpO f then 61 else if 10000 < f.size then 62 else 0) := by
        show _ = _
        unfold chk; rw [ext_is, HA1.out]; simp only [if_true, Nat.zero_add, Nat.zero_max, HDp.out]
      have Hs3 : Hid (sum3 (textsT f) ≤ 40 * f.size) := sum3_texts f HA1.out
      clear hj hj' hsz
      go_wp2
      go_loopw [6, 7] (fun mv i wr => ∃ (j c : Nat) (fi : Fo), mv = .int .i64 c ∧ i = .int .i64 j ∧ fi.len + j = f.len ∧ fi.size + c = f.size ∧ Hid (Rd w b (o + j * 5) fi) ∧ Hid (100 < dpO f ↔ 100 < dpO fi) ∧ Hid (Below w.heap.size w wr)) (fun _ i _ => f.len - (intOf i).toNat)
      case atStart => exact ⟨0, 0, f, rfl, rfl, by simp, by simp, by simpa using HRd, Iff.rfl, HBj⟩
      case round =>
        obtain ⟨j2, c, fi, rfl, rfl, hj, hsz, HF2, HP, HBj2⟩ := hrel
        cases fi with
        | nil =>
          have hj' : j2 = f.len := by simpa [Fo.len] using hj
          have HJ2 : Hid _ := hj'
          have hjl : ¬ ((j2 : Int) < (f.len : Int)) := by omega
          have hP : Hid (¬ 100 < dpO f) := by show ¬ _; rw [HP.out]; simp [dpO]
          have hc : c = f.size := by simpa [Fo.size] using hsz
          have Hc : Hid _ := hc
          clear hj hj' hsz hc
          by_cases hmu : 10000 < c
          · have iu : (10000 : Int) < (c : Int) := by omega
            have HW : Hid (writeOf f = ([], 62)) := by
              show _ = _
              have h62 : chk f = 62 := by rw [HCk.out, if_neg hP.out, if_pos (show 10000 < f.size by rw [← Hc.out]; exact hmu)]
              unfold writeOf; rw [h62]; rfl
            go_wp2
            go_ret2
            exact ⟨by rw [HW.out]; rfl, HBj2.out⟩
          · have iu : ¬ (10000 : Int) < (c : Int) := by omega
            have HC0 : Hid (chk f = 0) := by
              show _ = _
              rw [HCk.out, if_neg hP.out, if_neg (show ¬ 10000 < f.size by rw [← Hc.out]; exact hmu)]
            go_wp2
            go_loopw [8, 9] (fun sv i wr => ∃ (j : Nat) (fi : Fo) (l : List UInt8), sv = S l ∧ i = .int .i64 j ∧ fi.len + j = f.len ∧ fi.size ≤ f.size ∧ Hid (Rd w b (o + j * 5) fi) ∧ Hid (allD fi = true) ∧ Hid (linesT (textsT f) = l ++ (if (j == 0) = true then linesT (textsT fi) else lnT (textsT fi))) ∧ l.length + sum3 (textsT fi) ≤ 40000001 ∧ Hid (Below w.heap.size w wr)) (fun _ i _ => f.len - (intOf i).toNat)
            case atStart => exact ⟨0, f, [], rfl, rfl, by simp, Nat.le_refl _, by simpa using HRd, HA1, rfl, by have := Hs3.out; simp only [List.length_nil]; omega, HBj2⟩
            case round =>
              obtain ⟨j3, fi, l, rfl, rfl, hj, hsz, HF3, HD0, HE, hl, HBj3⟩ := hrel
              cases fi with
              | nil =>
                have hj' : j3 = f.len := by simpa [Fo.len] using hj
                have HJ3 : Hid _ := hj'
                have hjl : ¬ ((j3 : Int) < (f.len : Int)) := by omega
                have HV : Hid (linesT (textsT f) = l) := by show _ = _; rw [HE.out]; simp [textsT, linesT, lnT]
                simp only [textsT, sum3] at hl
                clear hj hj' hsz
                by_cases hbig : 65536 < l.length
                · have iu : (65536 : Int) < (l.length : Int) := by omega
                  have HW : Hid (writeOf f = ([], 2)) := by
                    show _ = _
                    unfold writeOf; rw [if_neg (by rw [HC0.out]; simp), HV.out, if_pos hbig]
                  go_wp2
                  go_ret2
                  exact ⟨by rw [HW.out]; rfl, HBj3.out⟩
                · have iu : ¬ (65536 : Int) < (l.length : Int) := by omega
                  have HW : Hid (writeOf f = (l, 0)) := by
                    show _ = _
                    unfold writeOf; rw [if_neg (by rw [HC0.out]; simp), HV.out, if_neg hbig]
                  go_wp2
                  go_ret2
                  exact ⟨by rw [HW.out]; rfl, HBj3.out⟩
              | cons k' n' t' s' d' r' =>
                simp only [Fo.len] at hj
                simp only [Fo.size] at hsz
                simp only [textsT, sum3] at hl
                have i1 : (j3 : Int) < (f.len : Int) := by omega
                obtain ⟨⟨g0, g1, g2, g3, g4, g5⟩, ⟨rk', ck', bk', ok', gk, gz, gs⟩, gr⟩ := HF3.out
                have ec : ∀ o, wr.cell? ⟨b, o, none⟩ = w.cell? ⟨b, o, none⟩ := fun o => HBj3.out.cell (p := ⟨b, o, none⟩) g0
                have h1 := (ec _).trans g1
                have h2 := (ec _).trans g2
                have h3 := (ec _).trans g3
                have h4 := (ec _).trans g4
                have hk := (ec _).trans gk
                have h0 : b < wr.heap.size := Nat.lt_of_lt_of_le g0 HBj3.out.size
                have HRk : Hid (RS w rk' s') := ⟨bk', ok', gz, gs⟩
                have Hr : Hid _ := gr
                have HD : Hid (isDat k' n' t' s' d' = true ∧ allD s' = true ∧ allD r' = true) := by
                  show _ ∧ _
                  have := HD0.out
                  simpa only [allD, Bool.and_eq_true] using this
                have hjs : j3 < f.len := by omega
                have hra := Hra.out (by omega)
                subst hra
                clear ec g1 g2 g3 g4 gk gz gs gr
                cases hj0 : j3 == 0
                · have ij : (0 : Int) < (j3 : Int) := by
                    have : j3 ≠ 0 := by simpa using hj0
                    omega
                  rw [hj0] at HE
                  clear hj0
                  go_wp2_with fail
                  refine (text_all s'.size k' n' t' s' d' rk' ck' wr (Nat.le_refl _) (by omega) g5 HD.out.1 HD.out.2.1 (HRk.out.below HBj3.out)).mono ?_
                  rintro e w2 ⟨rfl, hb2⟩
                  have HB2 : Hid (Below w.heap.size w w2) := HBj3.out.trans (hb2.mono HBj3.out.size)
                  clear hb2 h1 h2 h3 h4 hk
                  go_wp2
                  go_roundw
                  case rel => exact ⟨j3 + 1, r', (l ++ [10]) ++ oneT k' n' t' s' d' (textsT s'), by go_num, by go_num, by omega, by omega, by rw [show o + (j3 + 1) * 5 = o + j3 * 5 + 5 by omega]; exact Hr, HD.out.2.2, by show _ = _; rw [HE.out, textsT]; simp [lnT], by simp only [List.length_append, List.length_cons, List.length_nil]; omega, HB2⟩
                  case measure => simp [intOf]; omega
                · have hjz : j3 = 0 := by simpa using hj0
                  subst hjz
                  simp only [Nat.zero_mul, Nat.add_zero, Nat.add_assoc, Nat.reduceAdd] at h1 h2 h3 h4 hk
                  clear hj0
                  go_wp2_with fail
                  refine (text_all s'.size k' n' t' s' d' rk' ck' wr (Nat.le_refl _) (by omega) g5 HD.out.1 HD.out.2.1 (HRk.out.below HBj3.out)).mono ?_
                  rintro e w2 ⟨rfl, hb2⟩
                  have HB2 : Hid (Below w.heap.size w w2) := HBj3.out.trans (hb2.mono HBj3.out.size)
                  clear hb2 h1 h2 h3 h4 hk
                  go_wp2
                  go_roundw
                  case rel => exact ⟨0 + 1, r', l ++ oneT k' n' t' s' d' (textsT s'), by go_num, by go_num, by omega, by omega, by rw [show o + (0 + 1) * 5 = o + 0 * 5 + 5 by omega]; exact Hr, HD.out.2.2, by show _ = _; rw [HE.out, textsT]; simp [lines_ln], by simp only [List.length_append]; omega, HB2⟩
                  case measure => simp [intOf]; omega
        | cons k' n' t' s' d' r' =>
          simp only [Fo.len] at hj
          simp only [Fo.size] at hsz
          have i1 : (j2 : Int) < (f.len : Int) := by omega
          obtain ⟨⟨g0, g1, g2, g3, g4, g5⟩, ⟨rk', ck', bk', ok', gk, gz, gs⟩, gr⟩ := HF2.out
          have ec : ∀ o, wr.cell? ⟨b, o, none⟩ = w.cell? ⟨b, o, none⟩ := fun o => HBj2.out.cell (p := ⟨b, o, none⟩) g0
          have h1 := (ec _).trans g1
          have h2 := (ec _).trans g2
          have h3 := (ec _).trans g3
          have h4 := (ec _).trans g4
          have hk := (ec _).trans gk
          have h0 : b < wr.heap.size := Nat.lt_of_lt_of_le g0 HBj2.out.size
          have HRk : Hid (RS w rk' s') := ⟨bk', ok', gz, gs⟩
          have Hr : Hid _ := gr
          have hjs : j2 < f.len := by omega
          have hra := Hra.out (by omega)
          subst hra
          clear g1 g2 g3 g4 gk gz gs gr ec
          go_wp2_with fail
          refine (deep_all s'.size k' n' t' s' d' rk' ck' wr (Nat.le_refl _) (by omega) g5 (HRk.out.below HBj2.out)).mono ?_
          rintro e w2 ⟨rfl, hb2⟩
          have HB2 : Hid (Below w.heap.size w w2) := HBj2.out.trans (hb2.mono HBj2.out.size)
          have hc2 : ∀ o, w2.cell? ⟨b, o, none⟩ = wr.cell? ⟨b, o, none⟩ := fun o => hb2.cell (p := ⟨b, o, none⟩) h0
          have h1' := (hc2 _).trans h1
          have h2' := (hc2 _).trans h2
          have h3' := (hc2 _).trans h3
          have h4' := (hc2 _).trans h4
          have hk' := (hc2 _).trans hk
          have h0' : b < w2.heap.size := Nat.lt_of_lt_of_le h0 hb2.size
          clear hb2 h1 h2 h3 h4 hk hc2
          obtain ⟨D, hD⟩ : ∃ D, (if k' = 5 then dpO s' + 1 else 0) = D := ⟨_, rfl⟩
          have HDd : Hid (dpO (.cons k' n' t' s' d' r') = max D (dpO r')) := by show _ = _; rw [← hD]; rfl
          rw [hD]
          clear hD
          by_cases hdeep : 100 < D
          · have iu : (100 : Int) < (D : Int) := by omega
            have HW : Hid (writeOf f = ([], 61)) := by
              show _ = _
              have : 100 < dpO f := by rw [HP.out, HDd.out]; omega
              have h61 : chk f = 61 := by rw [HCk.out, if_pos this]
              unfold writeOf; rw [h61]; rfl
            go_wp2
            go_ret2
            exact ⟨by rw [HW.out]; rfl, HB2.out⟩
          · have iu : ¬ (100 : Int) < (D : Int) := by omega
            have HP2 : Hid (100 < dpO f ↔ 100 < dpO r') := by
              show _ ↔ _
              rw [HP.out, HDd.out]; omega
            go_wp2_with fail
            refine (many_all s'.size k' n' t' s' d' rk' ck' w2 (Nat.le_refl _) (by omega) g5 (HRk.out.below HB2.out)).mono ?_
            rintro e w3 ⟨rfl, hb3⟩
            have HB3 : Hid (Below w.heap.size w w3) := HB2.out.trans (hb3.mono HB2.out.size)
            clear hb3 h1' h2' h3' h4' hk'
            go_wp2
            go_roundw
            case rel => exact ⟨j2 + 1, c + (s'.size + 1), r', by go_num, by go_num, by omega, by omega, by rw [show o + (j2 + 1) * 5 = o + j2 * 5 + 5 by omega]; exact Hr, HP2, HB3⟩
            case measure => simp [intOf]; omega
    | cons k' n' t' s' d' r' =>
      simp only [Fo.len] at hj
      simp only [Fo.size] at hsz
      have i1 : (j : Int) < (f.len : Int) := by omega
      obtain ⟨⟨g0, g1, g2, g3, g4, g5⟩, ⟨rk', ck', bk', ok', gk, gz, gs⟩, gr⟩ := HF.out
      have ec : ∀ o, wr.cell? ⟨b, o, none⟩ = w.cell? ⟨b, o, none⟩ := fun o => HBj.out.cell (p := ⟨b, o, none⟩) g0
      have h1 := (ec _).trans g1
      have h2 := (ec _).trans g2
      have h3 := (ec _).trans g3
      have h4 := (ec _).trans g4
      have hk := (ec _).trans gk
      have h0 : b < wr.heap.size := Nat.lt_of_lt_of_le g0 HBj.out.size
      have HRk : Hid (RS w rk' s') := ⟨bk', ok', gz, gs⟩
      have Hr : Hid _ := gr
      have hjs : j < f.len := by omega
      have hra := Hra.out (by omega)
      subst hra
      clear ec g1 g2 g3 g4 gk gz gs gr
      go_wp2_with fail
      refine (may_all s'.size k' n' t' s' d' rk' ck' wr (Nat.le_refl _) g5 HT.out.1 HT.out.2.1 (HRk.out.below HBj.out)).mono ?_
      rintro e w2 ⟨rfl, hb2⟩
      have HB2 : Hid (Below w.heap.size w w2) := HBj.out.trans (hb2.mono HBj.out.size)
      clear hb2 h1 h2 h3 h4 hk
      cases hv : (isDat k' n' t' s' d' && allD s')
      · have HW : Hid (writeOf f = ([], 60)) := by
          show _ = _
          have : allD f = false := by rw [HA.out, allD, ← Bool.and_assoc, hv]; rfl
          unfold writeOf chk; rw [ext_is, this]; rfl
        clear hv
        go_wp2
        go_ret2
        exact ⟨by rw [HW.out]; rfl, HB2.out⟩
      · have HV : Hid (allD f = allD r') := by
          show _ = _
          rw [HA.out, allD, ← Bool.and_assoc, hv]; rfl
        clear hv
        go_wp2
        go_roundw
        case rel => exact ⟨j + 1, r', by go_num, by omega, by omega, HT.out.2.2, by rw [show o + (j + 1) * 5 = o + j * 5 + 5 by omega]; exact Hr, HV, HB2⟩
        case measure => simp [intOf]; omega
end Go.Proofs.YtlpdfifjdlfpdaaGreatDoor
