/- The document's text of lists (written by gen_text.py). -/
import Derived.Test.YtlpdfifjdlfpdaaGreatDoorHRefText1
import Derived.Test.YtlpdfifjdlfpdaaGreatDoorGK
namespace Go.Proofs.YtlpdfifjdlfpdaaGreatDoor
open Go.RowKit

def TextC (N : Nat) : Prop := ∀ (k n : Int) (t : List UInt8) (s : Fo) (d : Bool) (rk : Option Addr) (ck : Nat) (w : World), s.size ≤ N → s.size ≤ 1000000 → s.len ≤ maxLen → isDat k n t s d = true → allD s = true → RS w rk s →
  Calls Tryz.prog 50 #[.agg #[.int .u8 k, .int .i64 n, S t, .slice rk s.len ck, .bool d]] w fun e w' => e = .returned (S (oneT k n t s d (textsT s))) ∧ Below w.heap.size w w'

theorem kidsT_cons (d b : Bool) (x : List UInt8) (r : List (List UInt8)) : kidsT d b (x :: r) = (if b then [] else [32]) ++ ((if d && r.isEmpty then [46, 32] else []) ++ (x ++ kidsT d false r)) := rfl

set_option maxRecDepth 100000 in
set_option maxHeartbeats 4000000 in
theorem text_no2 {N : Nat} (h : ∀ M, M < N → TextC M) (s : Fo) (rk : Option Addr) (ck : Nat) (w : World) (hN : s.size ≤ N) (hb : s.size ≤ 1000000) (hm : s.len ≤ maxLen) (hA : allD s = true) (hR : RS w rk s) (h2 : s.len ≠ 2) :
    Calls Tryz.prog 50 #[.agg #[.int .u8 5, .int .i64 0, S [], .slice rk s.len ck, .bool false]] w fun e w' => e = .returned (S (40 :: (kidsT false true (textsT s) ++ [41]))) ∧ Below w.heap.size w w' := by
  have HC : Hid (∀ M, M < N → TextC M) := h
  have hal : Below w.heap.size w (w.alloc (.cells #[.int .u8 5, .int .i64 0, S [], .slice rk s.len ck, .bool false] 58)) := (Below.refl _ w).alloc (Nat.le_refl _) _
  have Hal : Hid _ := hal
  have HQ0 : Hid _ := World.alloc_heap_new w (.cells #[.int .u8 5, .int .i64 0, S [], .slice rk s.len ck, .bool false] 58)
  have HA : Hid (allD s = true) := hA
  have hs3 := sum3_texts s hA
  have Hs3 : Hid (sum3 (textsT s) ≤ 40 * s.size) := hs3
  have hmm := hm
  unfold maxLen at hmm
  obtain ⟨b, o, hab, hRd⟩ := hR
  have HRd : Hid (Rd w b o s) := hRd
  have Hra : Hid (s.len ≠ 0 → rk = some ⟨b, o, none⟩) := fun h => hab.resolve_left h
  clear h hab hal hm hs3
  have q2 : ((s.len : Int) == 2) = false := by rw [beq_eq_false_iff_ne]; omega
  clear hRd hA h2
  go_enter Tryz.func50, Tryz.ntmps50
  go_wp2
  go_loopw [3, 4] (fun sv i wr => ∃ (j : Nat) (fi : Fo) (l : List UInt8), sv = S l ∧ i = .int .i64 j ∧ fi.len + j = s.len ∧ fi.size ≤ s.size ∧ Hid (Rd w b (o + j * 5) fi) ∧ Hid (allD fi = true) ∧ Hid (40 :: kidsT false true (textsT s) = l ++ kidsT false (j == 0) (textsT fi)) ∧ l.length + sum3 (textsT fi) ≤ 40000001 ∧ Hid (Below w.heap.size w wr) ∧ Hid (wr.heap[w.heap.size]? = some (.cells #[.int .u8 5, .int .i64 0, S [], .slice rk s.len ck, .bool false] 58 (0, 0)))) (fun _ i _ => s.len - (intOf i).toNat)
  case atStart => exact ⟨0, s, [40], rfl, rfl, by simp, Nat.le_refl _, by simpa using HRd, HA, rfl, by have := Hs3.out; simp only [List.length_cons, List.length_nil]; omega, Hal, HQ0⟩
  case round =>
    obtain ⟨j, fi, l, rfl, rfl, hj, hsz, HF, HD0, HE, hl, HBj, HQj⟩ := hrel
    obtain ⟨z0, z1, z2, z3, z4, _⟩ := cells5 HQj.out
    have hws : w.heap.size < wr.heap.size := (Array.getElem?_eq_some_iff.1 HQj.out).1
    cases fi with
    | nil =>
      have hj' : j = s.len := by simpa [Fo.len] using hj
      have HJ : Hid _ := hj'
      have hjl : ¬ ((j : Int) < (s.len : Int)) := by omega
      have HV : Hid (40 :: kidsT false true (textsT s) = l) := by show _ = _; rw [HE.out]; simp [textsT, kidsT]
      simp only [textsT, sum3] at hl
      clear hj hj' hsz
      go_wp2
      go_ret
      exact ⟨by rw [← List.cons_append, HV.out]; rfl, HBj.out⟩
    | cons k' n' t' s' d' r' =>
      simp only [Fo.len] at hj
      simp only [Fo.size] at hsz
      simp only [textsT, sum3] at hl
      have i1 : (j : Int) < (s.len : Int) := by omega
      obtain ⟨⟨g0, g1, g2, g3, g4, g5⟩, ⟨rk', ck', bk', ok', gk, gz, gs⟩, gr⟩ := HF.out
      have ec : ∀ o, wr.cell? ⟨b, o, none⟩ = w.cell? ⟨b, o, none⟩ := fun o => HBj.out.cell (p := ⟨b, o, none⟩) g0
      have h1 := (ec _).trans g1
      have h2 := (ec _).trans g2
      have h3 := (ec _).trans g3
      have h4 := (ec _).trans g4
      have hk := (ec _).trans gk
      have h0 : b < wr.heap.size := Nat.lt_of_lt_of_le g0 HBj.out.size
      have HRk : Hid (RS w rk' s') := ⟨bk', ok', gz, gs⟩
      have Hr : Hid _ := gr
      have HD : Hid (isDat k' n' t' s' d' = true ∧ allD s' = true ∧ allD r' = true) := by
        show _ ∧ _
        have := HD0.out
        simpa only [allD, Bool.and_eq_true] using this
      have hjs : j < s.len := by omega
      have hra := Hra.out (by omega)
      subst hra
      clear ec g1 g2 g3 g4 gk gz gs gr
      cases hj0 : j == 0
      · have ij : (0 : Int) < (j : Int) := by have : j ≠ 0 := by simpa using hj0
                                              omega
        have HJ0 : Hid (((j == 0) : Bool) = false) := hj0
        rw [hj0] at HE
        clear hj0
        have HEm : Hid (true = true) := rfl
        go_wp2_with fail
        refine (HC.out s'.size (by omega) k' n' t' s' d' rk' ck' wr (Nat.le_refl _) (by omega) g5 HD.out.1 HD.out.2.1 (HRk.out.below HBj.out)).mono ?_
        rintro e w2 ⟨rfl, hb2⟩
        have HB2 : Hid (Below w.heap.size w w2) := HBj.out.trans (hb2.mono HBj.out.size)
        have HQ2 : Hid _ := (hb2.block _ hws).trans HQj.out
        clear hb2 h1 h2 h3 h4 hk z0 z1 z2 z3 z4
        go_wp2
        go_roundw
        case rel => exact ⟨j + 1, r', (l ++ [32]) ++ oneT k' n' t' s' d' (textsT s'), by go_num, by go_num, by omega, by omega, by rw [show o + (j + 1) * 5 = o + j * 5 + 5 by omega]; exact Hr, HD.out.2.2, by show _ = _; rw [HE.out, textsT, kidsT_cons]; simp [List.append_assoc], by simp only [List.length_append, List.length_cons, List.length_nil]; omega, HB2, HQ2⟩
        case measure => simp [intOf]; omega
      · have hjz : j = 0 := by simpa using hj0
        subst hjz
        simp only [Nat.zero_mul, Nat.add_zero, Nat.add_assoc, Nat.reduceAdd] at h1 h2 h3 h4 hk
        clear hj0
        have HEm : Hid (true = true) := rfl
        go_wp2_with fail
        refine (HC.out s'.size (by omega) k' n' t' s' d' rk' ck' wr (Nat.le_refl _) (by omega) g5 HD.out.1 HD.out.2.1 (HRk.out.below HBj.out)).mono ?_
        rintro e w2 ⟨rfl, hb2⟩
        have HB2 : Hid (Below w.heap.size w w2) := HBj.out.trans (hb2.mono HBj.out.size)
        have HQ2 : Hid _ := (hb2.block _ hws).trans HQj.out
        clear hb2 h1 h2 h3 h4 hk z0 z1 z2 z3 z4
        go_wp2
        go_roundw
        case rel => exact ⟨0 + 1, r', l ++ oneT k' n' t' s' d' (textsT s'), by go_num, by go_num, by omega, by omega, by rw [show o + (0 + 1) * 5 = o + 0 * 5 + 5 by omega]; exact Hr, HD.out.2.2, by show _ = _; rw [HE.out, textsT, kidsT_cons]; simp [List.append_assoc], by simp only [List.length_append]; omega, HB2, HQ2⟩
        case measure => simp [intOf]; omega

end Go.Proofs.YtlpdfifjdlfpdaaGreatDoor
