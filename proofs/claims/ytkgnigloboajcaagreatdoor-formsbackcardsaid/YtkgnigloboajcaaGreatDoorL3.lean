/- The document's text of a datum that is no list.; The document's text of lists (written by gen_text.py).; The document's text of lists (written by gen_text.py).; The document's text of lists (written by gen_text.py).; The document's text.; The document's Many and Deep.; The document's Write. -/
import Derived.Test.YtkgnigloboajcaaGreatDoorL2
import Derived.Test.YtkgnigloboajcaaGreatDoorK41
set_option maxRecDepth 100000
set_option maxHeartbeats 8000000
namespace Go.Proofs.YtkgnigloboajcaaGreatDoor
open Go.RowKit
theorem text_1 (n:Int) (h0 : -9223372036854775807≤n) (h1:n≤9223372036854775807) (t:List UInt8) (v:Value) (d:Bool) (w:World) :
  Calls Tryz.prog 99 #[.agg #[.int .u8 1, .int .i64 n,S t,v, .bool d]] w fun e w' => e = .returned (S (Lib.itoa n))∧Below w.heap.size w w' := by
 have Hal:Hid (Below w.heap.size w (w.alloc (.cells #[.int .u8 1, .int .i64 n,S t,v, .bool d] 32))):=(Below.refl _ w).alloc (Nat.le_refl _) _
 go_enter Tryz.func99,Tryz.ntmps99
 go_wp2_with fail
 refine (digits_any n h0 h1 _).mono ?_
 rintro e w2 ⟨rfl,hb2⟩
 have HB2:Hid (Below w.heap.size w w2):=Hal.out.trans (hb2.mono Hal.out.size)
 clear hb2
 go_wp2
 go_ret
 exact ⟨rfl,HB2.out⟩
theorem text_2 (n:Int) (t:List UInt8) (v:Value) (d:Bool) (w:World) :
  Calls Tryz.prog 99 #[.agg #[.int .u8 2, .int .i64 n,S t,v, .bool d]] w fun e w' => e = .returned (S t)∧Below w.heap.size w w' := by
 have Hal:Hid (Below w.heap.size w (w.alloc (.cells #[.int .u8 2, .int .i64 n,S t,v, .bool d] 32))):=(Below.refl _ w).alloc (Nat.le_refl _) _
 go_enter Tryz.func99,Tryz.ntmps99
 go_wp2
 go_ret
 exact ⟨rfl,Hal.out⟩
theorem text_3 (n:Int) (t:List UInt8) (v:Value) (d:Bool) (w:World) :
  Calls Tryz.prog 99 #[.agg #[.int .u8 3, .int .i64 n,S t,v, .bool d]] w fun e w' => e = .returned (S [35,102])∧Below w.heap.size w w' := by
 have Hal:Hid (Below w.heap.size w (w.alloc (.cells #[.int .u8 3, .int .i64 n,S t,v, .bool d] 32))):=(Below.refl _ w).alloc (Nat.le_refl _) _
 go_enter Tryz.func99,Tryz.ntmps99
 go_wp2
 go_ret
 exact ⟨rfl,Hal.out⟩
theorem text_4 (n:Int) (t:List UInt8) (v:Value) (d:Bool) (w:World) :
  Calls Tryz.prog 99 #[.agg #[.int .u8 4, .int .i64 n,S t,v, .bool d]] w fun e w' => e = .returned (S [35,116])∧Below w.heap.size w w' := by
 have Hal:Hid (Below w.heap.size w (w.alloc (.cells #[.int .u8 4, .int .i64 n,S t,v, .bool d] 32))):=(Below.refl _ w).alloc (Nat.le_refl _) _
 go_enter Tryz.func99,Tryz.ntmps99
 go_wp2
 go_ret
 exact ⟨rfl,Hal.out⟩
def TextC (N:Nat):Prop:=∀(k n:Int) (t:List UInt8) (s:Fo) (d:Bool) (rk:Option Addr) (ck:Nat) (w:World),s.size≤N→s.size≤1000000→s.len≤maxLen→isDat k n t s d=true→allD s=true→RS w rk s →
 Calls Tryz.prog 99 #[.agg #[.int .u8 k, .int .i64 n,S t, .slice rk s.len ck, .bool d]] w fun e w' => e = .returned (S (oneT k n t s d (textsT s)))∧Below w.heap.size w w'
theorem kidsT_cons (d b:Bool) (x:List UInt8) (r:List (List UInt8)):kidsT d b (x::r)=(if b then [] else [32])++((if d && r.isEmpty then [46,32] else [])++(x++kidsT d false r)):=rfl
theorem text_no2 {N : Nat} (h : ∀ M, M < N → TextC M) (s : Fo) (rk : Option Addr) (ck : Nat) (w : World) (hN : s.size ≤ N) (hb : s.size ≤ 1000000) (hm : s.len ≤ maxLen) (hA : allD s = true) (hR : RS w rk s) (h2 : s.len ≠ 2) :
    Calls Tryz.prog 99 #[.agg #[.int .u8 5, .int .i64 0, S [], .slice rk s.len ck, .bool false]] w fun e w' => e = .returned (S (40 :: (kidsT false true (textsT s) ++ [41]))) ∧ Below w.heap.size w w' := by
  have HC : Hid (∀ M, M < N → TextC M) := h
  have hal : Below w.heap.size w (w.alloc (.cells #[.int .u8 5, .int .i64 0, S [], .slice rk s.len ck, .bool false] 32)) := (Below.refl _ w).alloc (Nat.le_refl _) _
  have Hal : Hid _ := hal
  have HQ0 : Hid _ := World.alloc_heap_new w (.cells #[.int .u8 5, .int .i64 0, S [], .slice rk s.len ck, .bool false] 32)
  have HA : Hid (allD s = true) := hA
  have hs3 := sum3_texts s hA
  have Hs3 : Hid (sum3 (textsT s) ≤ 40 * s.size) := hs3
  have hmm := hm
  unfold maxLen at hmm
  obtain ⟨b, o, hab, hRd⟩ := hR
  have HRd : Hid (Rd w b o s) := hRd
  have Hra : Hid (s.len ≠ 0 → rk = some ⟨b, o, none⟩) := fun h => hab.resolve_left h
  clear h hab hal hm hs3
  have q2 : ((s.len : Int) == 2) = false := by rw [beq_eq_false_iff_ne]; omega
  clear hRd hA h2
  go_enter Tryz.func99, Tryz.ntmps99
  go_wp2
  go_loopw [3, 4] (fun sv i wr => ∃ (j : Nat) (fi : Fo) (l : List UInt8), sv = S l ∧ i = .int .i64 j ∧ fi.len + j = s.len ∧ fi.size ≤ s.size ∧ Hid (Rd w b (o + j * 5) fi) ∧ Hid (allD fi = true) ∧ Hid (40 :: kidsT false true (textsT s) = l ++ kidsT false (j == 0) (textsT fi)) ∧ l.length + sum3 (textsT fi) ≤ 40000001 ∧ Hid (Below w.heap.size w wr) ∧ Hid (wr.heap[w.heap.size]? = some (.cells #[.int .u8 5, .int .i64 0, S [], .slice rk s.len ck, .bool false] 32 (0, 0)))) (fun _ i _ => s.len - (intOf i).toNat)
  case atStart => exact ⟨0, s, [40], rfl, rfl, by simp, Nat.le_refl _, by simpa using HRd, HA, rfl, by have := Hs3.out; simp only [List.length_cons, List.length_nil]; omega, Hal, HQ0⟩
  case round =>
    obtain ⟨j, fi, l, rfl, rfl, hj, hsz, HF, HD0, HE, hl, HBj, HQj⟩ := hrel
    obtain ⟨z0, z1, z2, z3, z4, _⟩ := cells5 HQj.out
    have hws : w.heap.size < wr.heap.size := (Array.getElem?_eq_some_iff.1 HQj.out).1
    cases fi with
    | nil =>
      have hj' : j = s.len := by simpa [Fo.len] using hj
      have HJ : Hid _ := hj'
      have hjl : ¬ ((j : Int) < (s.len : Int)) := by omega
      have HV : Hid (40 :: kidsT false true (textsT s) = l) := by show _ = _; rw [HE.out]; simp [textsT, kidsT]
      simp only [textsT, sum3] at hl
      clear hj hj' hsz
      go_wp2
      go_ret
      exact ⟨by rw [← List.cons_append, HV.out]; rfl, HBj.out⟩
    | cons k' n' t' s' d' r' =>
      simp only [Fo.len] at hj
      simp only [Fo.size] at hsz
      simp only [textsT, sum3] at hl
      have i1 : (j : Int) < (s.len : Int) := by omega
      obtain ⟨⟨g0, g1, g2, g3, g4, g5⟩, ⟨rk', ck', bk', ok', gk, gz, gs⟩, gr⟩ := HF.out
      have ec : ∀ o, wr.cell? ⟨b, o, none⟩ = w.cell? ⟨b, o, none⟩ := fun o => HBj.out.cell (p := ⟨b, o, none⟩) g0
      have h1 := (ec _).trans g1
      have h2 := (ec _).trans g2
      have h3 := (ec _).trans g3
      have h4 := (ec _).trans g4
      have hk := (ec _).trans gk
      have h0 : b < wr.heap.size := Nat.lt_of_lt_of_le g0 HBj.out.size
      have HRk : Hid (RS w rk' s') := ⟨bk', ok', gz, gs⟩
      have Hr : Hid _ := gr
      have HD : Hid (isDat k' n' t' s' d' = true ∧ allD s' = true ∧ allD r' = true) := by
        show _ ∧ _
        have := HD0.out
        simpa only [allD, Bool.and_eq_true] using this
      have hjs : j < s.len := by omega
      have hra := Hra.out (by omega)
      subst hra
      clear ec g1 g2 g3 g4 gk gz gs gr
      cases hj0 : j == 0
      · have ij : (0 : Int) < (j : Int) := by have : j ≠ 0 := by simpa using hj0
                                              omega
        have HJ0 : Hid (((j == 0) : Bool) = false) := hj0
        rw [hj0] at HE
        clear hj0
        have HEm : Hid (true = true) := rfl
        go_wp2_with fail
        refine (HC.out s'.size (by omega) k' n' t' s' d' rk' ck' wr (Nat.le_refl _) (by omega) g5 HD.out.1 HD.out.2.1 (HRk.out.below HBj.out)).mono ?_
        rintro e w2 ⟨rfl, hb2⟩
        have HB2 : Hid (Below w.heap.size w w2) := HBj.out.trans (hb2.mono HBj.out.size)
        have HQ2 : Hid _ := (hb2.block _ hws).trans HQj.out
        clear hb2 h1 h2 h3 h4 hk z0 z1 z2 z3 z4
        go_wp2
        go_roundw
        case rel => exact ⟨j + 1, r', (l ++ [32]) ++ oneT k' n' t' s' d' (textsT s'), by go_num, by go_num, by omega, by omega, by rw [show o + (j + 1) * 5 = o + j * 5 + 5 by omega]; exact Hr, HD.out.2.2, by show _ = _; rw [HE.out, textsT, kidsT_cons]; simp [List.append_assoc], by simp only [List.length_append, List.length_cons, List.length_nil]; omega, HB2, HQ2⟩
        case measure => simp [intOf]; omega
      · have hjz : j = 0 := by simpa using hj0
        subst hjz
        simp only [Nat.zero_mul, Nat.add_zero, Nat.add_assoc, Nat.reduceAdd] at h1 h2 h3 h4 hk
        clear hj0
        have HEm : Hid (true = true) := rfl
        go_wp2_with fail
        refine (HC.out s'.size (by omega) k' n' t' s' d' rk' ck' wr (Nat.le_refl _) (by omega) g5 HD.out.1 HD.out.2.1 (HRk.out.below HBj.out)).mono ?_
        rintro e w2 ⟨rfl, hb2⟩
        have HB2 : Hid (Below w.heap.size w w2) := HBj.out.trans (hb2.mono HBj.out.size)
        have HQ2 : Hid _ := (hb2.block _ hws).trans HQj.out
        clear hb2 h1 h2 h3 h4 hk z0 z1 z2 z3 z4
        go_wp2
        go_roundw
        case rel => exact ⟨0 + 1, r', l ++ oneT k' n' t' s' d' (textsT s'), by go_num, by go_num, by omega, by omega, by rw [show o + (0 + 1) * 5 = o + 0 * 5 + 5 by omega]; exact Hr, HD.out.2.2, by show _ = _; rw [HE.out, textsT, kidsT_cons]; simp [List.append_assoc], by simp only [List.length_append]; omega, HB2, HQ2⟩
        case measure => simp [intOf]; omega
theorem text_dno2 {N : Nat} (h : ∀ M, M < N → TextC M) (s : Fo) (rk : Option Addr) (ck : Nat) (w : World) (hN : s.size ≤ N) (hb : s.size ≤ 1000000) (hm : s.len ≤ maxLen) (hA : allD s = true) (hR : RS w rk s) (h2 : s.len ≠ 2) :
    Calls Tryz.prog 99 #[.agg #[.int .u8 5, .int .i64 0, S [], .slice rk s.len ck, .bool true]] w fun e w' => e = .returned (S (40 :: (kidsT true true (textsT s) ++ [41]))) ∧ Below w.heap.size w w' := by
  have HC : Hid (∀ M, M < N → TextC M) := h
  have hal : Below w.heap.size w (w.alloc (.cells #[.int .u8 5, .int .i64 0, S [], .slice rk s.len ck, .bool true] 32)) := (Below.refl _ w).alloc (Nat.le_refl _) _
  have Hal : Hid _ := hal
  have HQ0 : Hid _ := World.alloc_heap_new w (.cells #[.int .u8 5, .int .i64 0, S [], .slice rk s.len ck, .bool true] 32)
  have HA : Hid (allD s = true) := hA
  have hs3 := sum3_texts s hA
  have Hs3 : Hid (sum3 (textsT s) ≤ 40 * s.size) := hs3
  have hmm := hm
  unfold maxLen at hmm
  obtain ⟨b, o, hab, hRd⟩ := hR
  have HRd : Hid (Rd w b o s) := hRd
  have Hra : Hid (s.len ≠ 0 → rk = some ⟨b, o, none⟩) := fun h => hab.resolve_left h
  clear h hab hal hm hs3
  have q2 : ((s.len : Int) == 2) = false := by rw [beq_eq_false_iff_ne]; omega
  clear hRd hA h2
  go_enter Tryz.func99, Tryz.ntmps99
  go_wp2
  go_loopw [3, 4] (fun sv i wr => ∃ (j : Nat) (fi : Fo) (l : List UInt8), sv = S l ∧ i = .int .i64 j ∧ fi.len + j = s.len ∧ fi.size ≤ s.size ∧ Hid (Rd w b (o + j * 5) fi) ∧ Hid (allD fi = true) ∧ Hid (40 :: kidsT true true (textsT s) = l ++ kidsT true (j == 0) (textsT fi)) ∧ l.length + sum3 (textsT fi) ≤ 40000001 ∧ Hid (Below w.heap.size w wr) ∧ Hid (wr.heap[w.heap.size]? = some (.cells #[.int .u8 5, .int .i64 0, S [], .slice rk s.len ck, .bool true] 32 (0, 0)))) (fun _ i _ => s.len - (intOf i).toNat)
  case atStart => exact ⟨0, s, [40], rfl, rfl, by simp, Nat.le_refl _, by simpa using HRd, HA, rfl, by have := Hs3.out; simp only [List.length_cons, List.length_nil]; omega, Hal, HQ0⟩
  case round =>
    obtain ⟨j, fi, l, rfl, rfl, hj, hsz, HF, HD0, HE, hl, HBj, HQj⟩ := hrel
    obtain ⟨z0, z1, z2, z3, z4, _⟩ := cells5 HQj.out
    have hws : w.heap.size < wr.heap.size := (Array.getElem?_eq_some_iff.1 HQj.out).1
    cases fi with
    | nil =>
      have hj' : j = s.len := by simpa [Fo.len] using hj
      have HJ : Hid _ := hj'
      have hjl : ¬ ((j : Int) < (s.len : Int)) := by omega
      have HV : Hid (40 :: kidsT true true (textsT s) = l) := by show _ = _; rw [HE.out]; simp [textsT, kidsT]
      simp only [textsT, sum3] at hl
      clear hj hj' hsz
      go_wp2
      go_ret
      exact ⟨by rw [← List.cons_append, HV.out]; rfl, HBj.out⟩
    | cons k' n' t' s' d' r' =>
      simp only [Fo.len] at hj
      simp only [Fo.size] at hsz
      simp only [textsT, sum3] at hl
      have i1 : (j : Int) < (s.len : Int) := by omega
      obtain ⟨⟨g0, g1, g2, g3, g4, g5⟩, ⟨rk', ck', bk', ok', gk, gz, gs⟩, gr⟩ := HF.out
      have ec : ∀ o, wr.cell? ⟨b, o, none⟩ = w.cell? ⟨b, o, none⟩ := fun o => HBj.out.cell (p := ⟨b, o, none⟩) g0
      have h1 := (ec _).trans g1
      have h2 := (ec _).trans g2
      have h3 := (ec _).trans g3
      have h4 := (ec _).trans g4
      have hk := (ec _).trans gk
      have h0 : b < wr.heap.size := Nat.lt_of_lt_of_le g0 HBj.out.size
      have HRk : Hid (RS w rk' s') := ⟨bk', ok', gz, gs⟩
      have Hr : Hid _ := gr
      have HD : Hid (isDat k' n' t' s' d' = true ∧ allD s' = true ∧ allD r' = true) := by
        show _ ∧ _
        have := HD0.out
        simpa only [allD, Bool.and_eq_true] using this
      have hjs : j < s.len := by omega
      have hra := Hra.out (by omega)
      subst hra
      clear ec g1 g2 g3 g4 gk gz gs gr
      cases hj0 : j == 0
      · have ij : (0 : Int) < (j : Int) := by have : j ≠ 0 := by simpa using hj0
                                              omega
        have HJ0 : Hid (((j == 0) : Bool) = false) := hj0
        rw [hj0] at HE
        clear hj0
        by_cases hrl : r'.len = 0
        · have il : ((j : Int) == (s.len : Int) - 1) = true := by rw [beq_iff_eq]; omega
          have HEm : Hid (textsT r' = []) := by
            show _ = _
            rw [show r' = .nil from Fo.len0 (by omega)]; rfl
          go_wp2_with fail
          refine (HC.out s'.size (by omega) k' n' t' s' d' rk' ck' wr (Nat.le_refl _) (by omega) g5 HD.out.1 HD.out.2.1 (HRk.out.below HBj.out)).mono ?_
          rintro e w2 ⟨rfl, hb2⟩
          have HB2 : Hid (Below w.heap.size w w2) := HBj.out.trans (hb2.mono HBj.out.size)
          have HQ2 : Hid _ := (hb2.block _ hws).trans HQj.out
          clear hb2 h1 h2 h3 h4 hk z0 z1 z2 z3 z4
          go_wp2
          go_roundw
          case rel => exact ⟨j + 1, r', ((l ++ [32]) ++ [46, 32]) ++ oneT k' n' t' s' d' (textsT s'), by go_num, by go_num, by omega, by omega, by rw [show o + (j + 1) * 5 = o + j * 5 + 5 by omega]; exact Hr, HD.out.2.2, by show _ = _; rw [HE.out, textsT, kidsT_cons]; simp [HEm.out, List.append_assoc], by simp only [List.length_append, List.length_cons, List.length_nil]; omega, HB2, HQ2⟩
          case measure => simp [intOf]; omega
        · have il : ((j : Int) == (s.len : Int) - 1) = false := by rw [beq_eq_false_iff_ne]; omega
          have HEm : Hid ((textsT r').isEmpty = false) := by
            show _ = _
            cases r' with
            | nil => exact absurd rfl hrl
            | cons => rfl
          go_wp2_with fail
          refine (HC.out s'.size (by omega) k' n' t' s' d' rk' ck' wr (Nat.le_refl _) (by omega) g5 HD.out.1 HD.out.2.1 (HRk.out.below HBj.out)).mono ?_
          rintro e w2 ⟨rfl, hb2⟩
          have HB2 : Hid (Below w.heap.size w w2) := HBj.out.trans (hb2.mono HBj.out.size)
          have HQ2 : Hid _ := (hb2.block _ hws).trans HQj.out
          clear hb2 h1 h2 h3 h4 hk z0 z1 z2 z3 z4
          go_wp2
          go_roundw
          case rel => exact ⟨j + 1, r', (l ++ [32]) ++ oneT k' n' t' s' d' (textsT s'), by go_num, by go_num, by omega, by omega, by rw [show o + (j + 1) * 5 = o + j * 5 + 5 by omega]; exact Hr, HD.out.2.2, by show _ = _; rw [HE.out, textsT, kidsT_cons]; simp [HEm.out, List.append_assoc], by simp only [List.length_append, List.length_cons, List.length_nil]; omega, HB2, HQ2⟩
          case measure => simp [intOf]; omega
      · have hjz : j = 0 := by simpa using hj0
        subst hjz
        simp only [Nat.zero_mul, Nat.add_zero, Nat.add_assoc, Nat.reduceAdd] at h1 h2 h3 h4 hk
        clear hj0
        by_cases hrl : r'.len = 0
        · have il : (0 == (s.len : Int) - 1) = true := by rw [beq_iff_eq]; omega
          have HEm : Hid (textsT r' = []) := by
            show _ = _
            rw [show r' = .nil from Fo.len0 (by omega)]; rfl
          go_wp2_with fail
          refine (HC.out s'.size (by omega) k' n' t' s' d' rk' ck' wr (Nat.le_refl _) (by omega) g5 HD.out.1 HD.out.2.1 (HRk.out.below HBj.out)).mono ?_
          rintro e w2 ⟨rfl, hb2⟩
          have HB2 : Hid (Below w.heap.size w w2) := HBj.out.trans (hb2.mono HBj.out.size)
          have HQ2 : Hid _ := (hb2.block _ hws).trans HQj.out
          clear hb2 h1 h2 h3 h4 hk z0 z1 z2 z3 z4
          go_wp2
          go_roundw
          case rel => exact ⟨0 + 1, r', (l ++ [46, 32]) ++ oneT k' n' t' s' d' (textsT s'), by go_num, by go_num, by omega, by omega, by rw [show o + (0 + 1) * 5 = o + 0 * 5 + 5 by omega]; exact Hr, HD.out.2.2, by show _ = _; rw [HE.out, textsT, kidsT_cons]; simp [HEm.out, List.append_assoc], by simp only [List.length_append, List.length_cons, List.length_nil]; omega, HB2, HQ2⟩
          case measure => simp [intOf]; omega
        · have il : (0 == (s.len : Int) - 1) = false := by rw [beq_eq_false_iff_ne]; omega
          have HEm : Hid ((textsT r').isEmpty = false) := by
            show _ = _
            cases r' with
            | nil => exact absurd rfl hrl
            | cons => rfl
          go_wp2_with fail
          refine (HC.out s'.size (by omega) k' n' t' s' d' rk' ck' wr (Nat.le_refl _) (by omega) g5 HD.out.1 HD.out.2.1 (HRk.out.below HBj.out)).mono ?_
          rintro e w2 ⟨rfl, hb2⟩
          have HB2 : Hid (Below w.heap.size w w2) := HBj.out.trans (hb2.mono HBj.out.size)
          have HQ2 : Hid _ := (hb2.block _ hws).trans HQj.out
          clear hb2 h1 h2 h3 h4 hk z0 z1 z2 z3 z4
          go_wp2
          go_roundw
          case rel => exact ⟨0 + 1, r', l ++ oneT k' n' t' s' d' (textsT s'), by go_num, by go_num, by omega, by omega, by rw [show o + (0 + 1) * 5 = o + 0 * 5 + 5 by omega]; exact Hr, HD.out.2.2, by show _ = _; rw [HE.out, textsT, kidsT_cons]; simp [HEm.out, List.append_assoc], by simp only [List.length_append]; omega, HB2, HQ2⟩
          case measure => simp [intOf]; omega
theorem text_d2 {N : Nat} (h : ∀ M, M < N → TextC M) (s : Fo) (rk : Option Addr) (ck : Nat) (w : World) (hN : s.size ≤ N) (hb : s.size ≤ 1000000) (hm : s.len ≤ maxLen) (hA : allD s = true) (hR : RS w rk s) (h2 : s.len = 2) :
    Calls Tryz.prog 99 #[.agg #[.int .u8 5, .int .i64 0, S [], .slice rk s.len ck, .bool true]] w fun e w' => e = .returned (S (40 :: (kidsT true true (textsT s) ++ [41]))) ∧ Below w.heap.size w w' := by
  have HC : Hid (∀ M, M < N → TextC M) := h
  have hal : Below w.heap.size w (w.alloc (.cells #[.int .u8 5, .int .i64 0, S [], .slice rk s.len ck, .bool true] 32)) := (Below.refl _ w).alloc (Nat.le_refl _) _
  have Hal : Hid _ := hal
  have HQ0 : Hid _ := World.alloc_heap_new w (.cells #[.int .u8 5, .int .i64 0, S [], .slice rk s.len ck, .bool true] 32)
  have HA : Hid (allD s = true) := hA
  have hs3 := sum3_texts s hA
  have Hs3 : Hid (sum3 (textsT s) ≤ 40 * s.size) := hs3
  have hmm := hm
  unfold maxLen at hmm
  obtain ⟨b, o, hab, hRd⟩ := hR
  have HRd : Hid (Rd w b o s) := hRd
  have Hra : Hid (s.len ≠ 0 → rk = some ⟨b, o, none⟩) := fun h => hab.resolve_left h
  clear h hab hal hm hs3
  have q2 : ((s.len : Int) == 2) = true := by rw [beq_iff_eq]; omega
  clear hRd hA h2
  go_enter Tryz.func99, Tryz.ntmps99
  go_wp2
  go_loopw [3, 4] (fun sv i wr => ∃ (j : Nat) (fi : Fo) (l : List UInt8), sv = S l ∧ i = .int .i64 j ∧ fi.len + j = s.len ∧ fi.size ≤ s.size ∧ Hid (Rd w b (o + j * 5) fi) ∧ Hid (allD fi = true) ∧ Hid (40 :: kidsT true true (textsT s) = l ++ kidsT true (j == 0) (textsT fi)) ∧ l.length + sum3 (textsT fi) ≤ 40000001 ∧ Hid (Below w.heap.size w wr) ∧ Hid (wr.heap[w.heap.size]? = some (.cells #[.int .u8 5, .int .i64 0, S [], .slice rk s.len ck, .bool true] 32 (0, 0)))) (fun _ i _ => s.len - (intOf i).toNat)
  case atStart => exact ⟨0, s, [40], rfl, rfl, by simp, Nat.le_refl _, by simpa using HRd, HA, rfl, by have := Hs3.out; simp only [List.length_cons, List.length_nil]; omega, Hal, HQ0⟩
  case round =>
    obtain ⟨j, fi, l, rfl, rfl, hj, hsz, HF, HD0, HE, hl, HBj, HQj⟩ := hrel
    obtain ⟨z0, z1, z2, z3, z4, _⟩ := cells5 HQj.out
    have hws : w.heap.size < wr.heap.size := (Array.getElem?_eq_some_iff.1 HQj.out).1
    cases fi with
    | nil =>
      have hj' : j = s.len := by simpa [Fo.len] using hj
      have HJ : Hid _ := hj'
      have hjl : ¬ ((j : Int) < (s.len : Int)) := by omega
      have HV : Hid (40 :: kidsT true true (textsT s) = l) := by show _ = _; rw [HE.out]; simp [textsT, kidsT]
      simp only [textsT, sum3] at hl
      clear hj hj' hsz
      go_wp2
      go_ret
      exact ⟨by rw [← List.cons_append, HV.out]; rfl, HBj.out⟩
    | cons k' n' t' s' d' r' =>
      simp only [Fo.len] at hj
      simp only [Fo.size] at hsz
      simp only [textsT, sum3] at hl
      have i1 : (j : Int) < (s.len : Int) := by omega
      obtain ⟨⟨g0, g1, g2, g3, g4, g5⟩, ⟨rk', ck', bk', ok', gk, gz, gs⟩, gr⟩ := HF.out
      have ec : ∀ o, wr.cell? ⟨b, o, none⟩ = w.cell? ⟨b, o, none⟩ := fun o => HBj.out.cell (p := ⟨b, o, none⟩) g0
      have h1 := (ec _).trans g1
      have h2 := (ec _).trans g2
      have h3 := (ec _).trans g3
      have h4 := (ec _).trans g4
      have hk := (ec _).trans gk
      have h0 : b < wr.heap.size := Nat.lt_of_lt_of_le g0 HBj.out.size
      have HRk : Hid (RS w rk' s') := ⟨bk', ok', gz, gs⟩
      have Hr : Hid _ := gr
      have HD : Hid (isDat k' n' t' s' d' = true ∧ allD s' = true ∧ allD r' = true) := by
        show _ ∧ _
        have := HD0.out
        simpa only [allD, Bool.and_eq_true] using this
      have hjs : j < s.len := by omega
      have hra := Hra.out (by omega)
      subst hra
      clear ec g1 g2 g3 g4 gk gz gs gr
      cases hj0 : j == 0
      · have ij : (0 : Int) < (j : Int) := by have : j ≠ 0 := by simpa using hj0
                                              omega
        have HJ0 : Hid (((j == 0) : Bool) = false) := hj0
        rw [hj0] at HE
        clear hj0
        by_cases hrl : r'.len = 0
        · have il : ((j : Int) == (s.len : Int) - 1) = true := by rw [beq_iff_eq]; omega
          have HEm : Hid (textsT r' = []) := by
            show _ = _
            rw [show r' = .nil from Fo.len0 (by omega)]; rfl
          go_wp2_with fail
          refine (HC.out s'.size (by omega) k' n' t' s' d' rk' ck' wr (Nat.le_refl _) (by omega) g5 HD.out.1 HD.out.2.1 (HRk.out.below HBj.out)).mono ?_
          rintro e w2 ⟨rfl, hb2⟩
          have HB2 : Hid (Below w.heap.size w w2) := HBj.out.trans (hb2.mono HBj.out.size)
          have HQ2 : Hid _ := (hb2.block _ hws).trans HQj.out
          clear hb2 h1 h2 h3 h4 hk z0 z1 z2 z3 z4
          go_wp2
          go_roundw
          case rel => exact ⟨j + 1, r', ((l ++ [32]) ++ [46, 32]) ++ oneT k' n' t' s' d' (textsT s'), by go_num, by go_num, by omega, by omega, by rw [show o + (j + 1) * 5 = o + j * 5 + 5 by omega]; exact Hr, HD.out.2.2, by show _ = _; rw [HE.out, textsT, kidsT_cons]; simp [HEm.out, List.append_assoc], by simp only [List.length_append, List.length_cons, List.length_nil]; omega, HB2, HQ2⟩
          case measure => simp [intOf]; omega
        · have il : ((j : Int) == (s.len : Int) - 1) = false := by rw [beq_eq_false_iff_ne]; omega
          have HEm : Hid ((textsT r').isEmpty = false) := by
            show _ = _
            cases r' with
            | nil => exact absurd rfl hrl
            | cons => rfl
          go_wp2_with fail
          refine (HC.out s'.size (by omega) k' n' t' s' d' rk' ck' wr (Nat.le_refl _) (by omega) g5 HD.out.1 HD.out.2.1 (HRk.out.below HBj.out)).mono ?_
          rintro e w2 ⟨rfl, hb2⟩
          have HB2 : Hid (Below w.heap.size w w2) := HBj.out.trans (hb2.mono HBj.out.size)
          have HQ2 : Hid _ := (hb2.block _ hws).trans HQj.out
          clear hb2 h1 h2 h3 h4 hk z0 z1 z2 z3 z4
          go_wp2
          go_roundw
          case rel => exact ⟨j + 1, r', (l ++ [32]) ++ oneT k' n' t' s' d' (textsT s'), by go_num, by go_num, by omega, by omega, by rw [show o + (j + 1) * 5 = o + j * 5 + 5 by omega]; exact Hr, HD.out.2.2, by show _ = _; rw [HE.out, textsT, kidsT_cons]; simp [HEm.out, List.append_assoc], by simp only [List.length_append, List.length_cons, List.length_nil]; omega, HB2, HQ2⟩
          case measure => simp [intOf]; omega
      · have hjz : j = 0 := by simpa using hj0
        subst hjz
        simp only [Nat.zero_mul, Nat.add_zero, Nat.add_assoc, Nat.reduceAdd] at h1 h2 h3 h4 hk
        clear hj0
        by_cases hrl : r'.len = 0
        · have il : (0 == (s.len : Int) - 1) = true := by rw [beq_iff_eq]; omega
          have HEm : Hid (textsT r' = []) := by
            show _ = _
            rw [show r' = .nil from Fo.len0 (by omega)]; rfl
          go_wp2_with fail
          refine (HC.out s'.size (by omega) k' n' t' s' d' rk' ck' wr (Nat.le_refl _) (by omega) g5 HD.out.1 HD.out.2.1 (HRk.out.below HBj.out)).mono ?_
          rintro e w2 ⟨rfl, hb2⟩
          have HB2 : Hid (Below w.heap.size w w2) := HBj.out.trans (hb2.mono HBj.out.size)
          have HQ2 : Hid _ := (hb2.block _ hws).trans HQj.out
          clear hb2 h1 h2 h3 h4 hk z0 z1 z2 z3 z4
          go_wp2
          go_roundw
          case rel => exact ⟨0 + 1, r', (l ++ [46, 32]) ++ oneT k' n' t' s' d' (textsT s'), by go_num, by go_num, by omega, by omega, by rw [show o + (0 + 1) * 5 = o + 0 * 5 + 5 by omega]; exact Hr, HD.out.2.2, by show _ = _; rw [HE.out, textsT, kidsT_cons]; simp [HEm.out, List.append_assoc], by simp only [List.length_append, List.length_cons, List.length_nil]; omega, HB2, HQ2⟩
          case measure => simp [intOf]; omega
        · have il : (0 == (s.len : Int) - 1) = false := by rw [beq_eq_false_iff_ne]; omega
          have HEm : Hid ((textsT r').isEmpty = false) := by
            show _ = _
            cases r' with
            | nil => exact absurd rfl hrl
            | cons => rfl
          go_wp2_with fail
          refine (HC.out s'.size (by omega) k' n' t' s' d' rk' ck' wr (Nat.le_refl _) (by omega) g5 HD.out.1 HD.out.2.1 (HRk.out.below HBj.out)).mono ?_
          rintro e w2 ⟨rfl, hb2⟩
          have HB2 : Hid (Below w.heap.size w w2) := HBj.out.trans (hb2.mono HBj.out.size)
          have HQ2 : Hid _ := (hb2.block _ hws).trans HQj.out
          clear hb2 h1 h2 h3 h4 hk z0 z1 z2 z3 z4
          go_wp2
          go_roundw
          case rel => exact ⟨0 + 1, r', l ++ oneT k' n' t' s' d' (textsT s'), by go_num, by go_num, by omega, by omega, by rw [show o + (0 + 1) * 5 = o + 0 * 5 + 5 by omega]; exact Hr, HD.out.2.2, by show _ = _; rw [HE.out, textsT, kidsT_cons]; simp [HEm.out, List.append_assoc], by simp only [List.length_append]; omega, HB2, HQ2⟩
          case measure => simp [intOf]; omega
theorem text_k2 {N : Nat} (h : ∀ M, M < N → TextC M) (s : Fo) (rk : Option Addr) (ck : Nat) (w : World) (hN : s.size ≤ N) (hb : s.size ≤ 1000000) (hm : s.len ≤ maxLen) (hA : allD s = true) (hR : RS w rk s) (h2 : s.len = 2) (hq : ∀ k1 n1 t1 s1 d1 r1, s = .cons k1 n1 t1 s1 d1 r1 → (k1 == 2) = false) :
    Calls Tryz.prog 99 #[.agg #[.int .u8 5, .int .i64 0, S [], .slice rk s.len ck, .bool false]] w fun e w' => e = .returned (S (40 :: (kidsT false true (textsT s) ++ [41]))) ∧ Below w.heap.size w w' := by
  have HC : Hid (∀ M, M < N → TextC M) := h
  have hal : Below w.heap.size w (w.alloc (.cells #[.int .u8 5, .int .i64 0, S [], .slice rk s.len ck, .bool false] 32)) := (Below.refl _ w).alloc (Nat.le_refl _) _
  have Hal : Hid _ := hal
  have HQ0 : Hid _ := World.alloc_heap_new w (.cells #[.int .u8 5, .int .i64 0, S [], .slice rk s.len ck, .bool false] 32)
  have HA : Hid (allD s = true) := hA
  have hs3 := sum3_texts s hA
  have Hs3 : Hid (sum3 (textsT s) ≤ 40 * s.size) := hs3
  have hmm := hm
  unfold maxLen at hmm
  obtain ⟨b, o, hab, hRd⟩ := hR
  have HRd : Hid (Rd w b o s) := hRd
  have Hra : Hid (s.len ≠ 0 → rk = some ⟨b, o, none⟩) := fun h => hab.resolve_left h
  clear h hab hal hm hs3
  have q2 : ((s.len : Int) == 2) = true := by rw [beq_iff_eq]; omega
  obtain ⟨k1, n1, t1, s1, d1, r1, hse⟩ : ∃ k1 n1 t1 s1 d1 r1, s = .cons k1 n1 t1 s1 d1 r1 := by
    cases s with
    | nil => simp [Fo.len] at h2
    | cons k1 n1 t1 s1 d1 r1 => exact ⟨_, _, _, _, _, _, rfl⟩
  have hra := Hra.out (by omega)
  subst hra
  rw [hse] at hRd
  obtain ⟨⟨y0, y1, y2, y3, y4, y5⟩, ⟨rk1, ck1, bk1, ok1, yk, yz, ys⟩, yr⟩ := hRd
  clear yz ys yr
  have i00 : (0 : Int) < (s.len : Int) := by omega
  have qk := hq _ _ _ _ _ _ hse
  clear hA h2 hq hse
  go_enter Tryz.func99, Tryz.ntmps99
  go_wp2
  go_loopw [3, 4] (fun sv i wr => ∃ (j : Nat) (fi : Fo) (l : List UInt8), sv = S l ∧ i = .int .i64 j ∧ fi.len + j = s.len ∧ fi.size ≤ s.size ∧ Hid (Rd w b (o + j * 5) fi) ∧ Hid (allD fi = true) ∧ Hid (40 :: kidsT false true (textsT s) = l ++ kidsT false (j == 0) (textsT fi)) ∧ l.length + sum3 (textsT fi) ≤ 40000001 ∧ Hid (Below w.heap.size w wr) ∧ Hid (wr.heap[w.heap.size]? = some (.cells #[.int .u8 5, .int .i64 0, S [], .slice (some ⟨b, o, none⟩) s.len ck, .bool false] 32 (0, 0)))) (fun _ i _ => s.len - (intOf i).toNat)
  case atStart => exact ⟨0, s, [40], rfl, rfl, by simp, Nat.le_refl _, by simpa using HRd, HA, rfl, by have := Hs3.out; simp only [List.length_cons, List.length_nil]; omega, Hal, HQ0⟩
  case round =>
    obtain ⟨j, fi, l, rfl, rfl, hj, hsz, HF, HD0, HE, hl, HBj, HQj⟩ := hrel
    obtain ⟨z0, z1, z2, z3, z4, _⟩ := cells5 HQj.out
    have hws : w.heap.size < wr.heap.size := (Array.getElem?_eq_some_iff.1 HQj.out).1
    cases fi with
    | nil =>
      have hj' : j = s.len := by simpa [Fo.len] using hj
      have HJ : Hid _ := hj'
      have hjl : ¬ ((j : Int) < (s.len : Int)) := by omega
      have HV : Hid (40 :: kidsT false true (textsT s) = l) := by show _ = _; rw [HE.out]; simp [textsT, kidsT]
      simp only [textsT, sum3] at hl
      clear hj hj' hsz
      go_wp2
      go_ret
      exact ⟨by rw [← List.cons_append, HV.out]; rfl, HBj.out⟩
    | cons k' n' t' s' d' r' =>
      simp only [Fo.len] at hj
      simp only [Fo.size] at hsz
      simp only [textsT, sum3] at hl
      have i1 : (j : Int) < (s.len : Int) := by omega
      obtain ⟨⟨g0, g1, g2, g3, g4, g5⟩, ⟨rk', ck', bk', ok', gk, gz, gs⟩, gr⟩ := HF.out
      have ec : ∀ o, wr.cell? ⟨b, o, none⟩ = w.cell? ⟨b, o, none⟩ := fun o => HBj.out.cell (p := ⟨b, o, none⟩) g0
      have h1 := (ec _).trans g1
      have h2 := (ec _).trans g2
      have h3 := (ec _).trans g3
      have h4 := (ec _).trans g4
      have hk := (ec _).trans gk
      have h0 : b < wr.heap.size := Nat.lt_of_lt_of_le g0 HBj.out.size
      have HRk : Hid (RS w rk' s') := ⟨bk', ok', gz, gs⟩
      have Hr : Hid _ := gr
      have HD : Hid (isDat k' n' t' s' d' = true ∧ allD s' = true ∧ allD r' = true) := by
        show _ ∧ _
        have := HD0.out
        simpa only [allD, Bool.and_eq_true] using this
      have hjs : j < s.len := by omega
      clear ec g1 g2 g3 g4 gk gz gs gr
      cases hj0 : j == 0
      · have ij : (0 : Int) < (j : Int) := by have : j ≠ 0 := by simpa using hj0
                                              omega
        have HJ0 : Hid (((j == 0) : Bool) = false) := hj0
        rw [hj0] at HE
        clear hj0
        have HEm : Hid (true = true) := rfl
        go_wp2_with fail
        refine (HC.out s'.size (by omega) k' n' t' s' d' rk' ck' wr (Nat.le_refl _) (by omega) g5 HD.out.1 HD.out.2.1 (HRk.out.below HBj.out)).mono ?_
        rintro e w2 ⟨rfl, hb2⟩
        have HB2 : Hid (Below w.heap.size w w2) := HBj.out.trans (hb2.mono HBj.out.size)
        have HQ2 : Hid _ := (hb2.block _ hws).trans HQj.out
        clear hb2 h1 h2 h3 h4 hk z0 z1 z2 z3 z4
        go_wp2
        go_roundw
        case rel => exact ⟨j + 1, r', (l ++ [32]) ++ oneT k' n' t' s' d' (textsT s'), by go_num, by go_num, by omega, by omega, by rw [show o + (j + 1) * 5 = o + j * 5 + 5 by omega]; exact Hr, HD.out.2.2, by show _ = _; rw [HE.out, textsT, kidsT_cons]; simp [List.append_assoc], by simp only [List.length_append, List.length_cons, List.length_nil]; omega, HB2, HQ2⟩
        case measure => simp [intOf]; omega
      · have hjz : j = 0 := by simpa using hj0
        subst hjz
        simp only [Nat.zero_mul, Nat.add_zero, Nat.add_assoc, Nat.reduceAdd] at h1 h2 h3 h4 hk
        clear hj0
        have HEm : Hid (true = true) := rfl
        go_wp2_with fail
        refine (HC.out s'.size (by omega) k' n' t' s' d' rk' ck' wr (Nat.le_refl _) (by omega) g5 HD.out.1 HD.out.2.1 (HRk.out.below HBj.out)).mono ?_
        rintro e w2 ⟨rfl, hb2⟩
        have HB2 : Hid (Below w.heap.size w w2) := HBj.out.trans (hb2.mono HBj.out.size)
        have HQ2 : Hid _ := (hb2.block _ hws).trans HQj.out
        clear hb2 h1 h2 h3 h4 hk z0 z1 z2 z3 z4
        go_wp2
        go_roundw
        case rel => exact ⟨0 + 1, r', l ++ oneT k' n' t' s' d' (textsT s'), by go_num, by go_num, by omega, by omega, by rw [show o + (0 + 1) * 5 = o + 0 * 5 + 5 by omega]; exact Hr, HD.out.2.2, by show _ = _; rw [HE.out, textsT, kidsT_cons]; simp [List.append_assoc], by simp only [List.length_append]; omega, HB2, HQ2⟩
        case measure => simp [intOf]; omega
theorem text_t2 {N : Nat} (h : ∀ M, M < N → TextC M) (s : Fo) (rk : Option Addr) (ck : Nat) (w : World) (hN : s.size ≤ N) (hb : s.size ≤ 1000000) (hm : s.len ≤ maxLen) (hA : allD s = true) (hR : RS w rk s) (h2 : s.len = 2) (hq : ∀ k1 n1 t1 s1 d1 r1, s = .cons k1 n1 t1 s1 d1 r1 → k1 = 2 ∧ t1 ≠ [113, 117, 111, 116, 101]) :
    Calls Tryz.prog 99 #[.agg #[.int .u8 5, .int .i64 0, S [], .slice rk s.len ck, .bool false]] w fun e w' => e = .returned (S (40 :: (kidsT false true (textsT s) ++ [41]))) ∧ Below w.heap.size w w' := by
  have HC : Hid (∀ M, M < N → TextC M) := h
  have hal : Below w.heap.size w (w.alloc (.cells #[.int .u8 5, .int .i64 0, S [], .slice rk s.len ck, .bool false] 32)) := (Below.refl _ w).alloc (Nat.le_refl _) _
  have Hal : Hid _ := hal
  have HQ0 : Hid _ := World.alloc_heap_new w (.cells #[.int .u8 5, .int .i64 0, S [], .slice rk s.len ck, .bool false] 32)
  have HA : Hid (allD s = true) := hA
  have hs3 := sum3_texts s hA
  have Hs3 : Hid (sum3 (textsT s) ≤ 40 * s.size) := hs3
  have hmm := hm
  unfold maxLen at hmm
  obtain ⟨b, o, hab, hRd⟩ := hR
  have HRd : Hid (Rd w b o s) := hRd
  have Hra : Hid (s.len ≠ 0 → rk = some ⟨b, o, none⟩) := fun h => hab.resolve_left h
  clear h hab hal hm hs3
  have q2 : ((s.len : Int) == 2) = true := by rw [beq_iff_eq]; omega
  obtain ⟨k1, n1, t1, s1, d1, r1, hse⟩ : ∃ k1 n1 t1 s1 d1 r1, s = .cons k1 n1 t1 s1 d1 r1 := by
    cases s with
    | nil => simp [Fo.len] at h2
    | cons k1 n1 t1 s1 d1 r1 => exact ⟨_, _, _, _, _, _, rfl⟩
  have hra := Hra.out (by omega)
  subst hra
  rw [hse] at hRd
  obtain ⟨⟨y0, y1, y2, y3, y4, y5⟩, ⟨rk1, ck1, bk1, ok1, yk, yz, ys⟩, yr⟩ := hRd
  clear yz ys yr
  have i00 : (0 : Int) < (s.len : Int) := by omega
  obtain ⟨qk, qt⟩ := hq _ _ _ _ _ _ hse
  subst qk
  have qb : (t1 == [113, 117, 111, 116, 101]) = false := by rw [beq_eq_false_iff_ne]; exact qt
  clear qt
  clear hA h2 hq hse
  go_enter Tryz.func99, Tryz.ntmps99
  go_wp2
  go_loopw [3, 4] (fun sv i wr => ∃ (j : Nat) (fi : Fo) (l : List UInt8), sv = S l ∧ i = .int .i64 j ∧ fi.len + j = s.len ∧ fi.size ≤ s.size ∧ Hid (Rd w b (o + j * 5) fi) ∧ Hid (allD fi = true) ∧ Hid (40 :: kidsT false true (textsT s) = l ++ kidsT false (j == 0) (textsT fi)) ∧ l.length + sum3 (textsT fi) ≤ 40000001 ∧ Hid (Below w.heap.size w wr) ∧ Hid (wr.heap[w.heap.size]? = some (.cells #[.int .u8 5, .int .i64 0, S [], .slice (some ⟨b, o, none⟩) s.len ck, .bool false] 32 (0, 0)))) (fun _ i _ => s.len - (intOf i).toNat)
  case atStart => exact ⟨0, s, [40], rfl, rfl, by simp, Nat.le_refl _, by simpa using HRd, HA, rfl, by have := Hs3.out; simp only [List.length_cons, List.length_nil]; omega, Hal, HQ0⟩
  case round =>
    obtain ⟨j, fi, l, rfl, rfl, hj, hsz, HF, HD0, HE, hl, HBj, HQj⟩ := hrel
    obtain ⟨z0, z1, z2, z3, z4, _⟩ := cells5 HQj.out
    have hws : w.heap.size < wr.heap.size := (Array.getElem?_eq_some_iff.1 HQj.out).1
    cases fi with
    | nil =>
      have hj' : j = s.len := by simpa [Fo.len] using hj
      have HJ : Hid _ := hj'
      have hjl : ¬ ((j : Int) < (s.len : Int)) := by omega
      have HV : Hid (40 :: kidsT false true (textsT s) = l) := by show _ = _; rw [HE.out]; simp [textsT, kidsT]
      simp only [textsT, sum3] at hl
      clear hj hj' hsz
      go_wp2
      go_ret
      exact ⟨by rw [← List.cons_append, HV.out]; rfl, HBj.out⟩
    | cons k' n' t' s' d' r' =>
      simp only [Fo.len] at hj
      simp only [Fo.size] at hsz
      simp only [textsT, sum3] at hl
      have i1 : (j : Int) < (s.len : Int) := by omega
      obtain ⟨⟨g0, g1, g2, g3, g4, g5⟩, ⟨rk', ck', bk', ok', gk, gz, gs⟩, gr⟩ := HF.out
      have ec : ∀ o, wr.cell? ⟨b, o, none⟩ = w.cell? ⟨b, o, none⟩ := fun o => HBj.out.cell (p := ⟨b, o, none⟩) g0
      have h1 := (ec _).trans g1
      have h2 := (ec _).trans g2
      have h3 := (ec _).trans g3
      have h4 := (ec _).trans g4
      have hk := (ec _).trans gk
      have h0 : b < wr.heap.size := Nat.lt_of_lt_of_le g0 HBj.out.size
      have HRk : Hid (RS w rk' s') := ⟨bk', ok', gz, gs⟩
      have Hr : Hid _ := gr
      have HD : Hid (isDat k' n' t' s' d' = true ∧ allD s' = true ∧ allD r' = true) := by
        show _ ∧ _
        have := HD0.out
        simpa only [allD, Bool.and_eq_true] using this
      have hjs : j < s.len := by omega
      clear ec g1 g2 g3 g4 gk gz gs gr
      cases hj0 : j == 0
      · have ij : (0 : Int) < (j : Int) := by have : j ≠ 0 := by simpa using hj0
                                              omega
        have HJ0 : Hid (((j == 0) : Bool) = false) := hj0
        rw [hj0] at HE
        clear hj0
        have HEm : Hid (true = true) := rfl
        go_wp2_with fail
        refine (HC.out s'.size (by omega) k' n' t' s' d' rk' ck' wr (Nat.le_refl _) (by omega) g5 HD.out.1 HD.out.2.1 (HRk.out.below HBj.out)).mono ?_
        rintro e w2 ⟨rfl, hb2⟩
        have HB2 : Hid (Below w.heap.size w w2) := HBj.out.trans (hb2.mono HBj.out.size)
        have HQ2 : Hid _ := (hb2.block _ hws).trans HQj.out
        clear hb2 h1 h2 h3 h4 hk z0 z1 z2 z3 z4
        go_wp2
        go_roundw
        case rel => exact ⟨j + 1, r', (l ++ [32]) ++ oneT k' n' t' s' d' (textsT s'), by go_num, by go_num, by omega, by omega, by rw [show o + (j + 1) * 5 = o + j * 5 + 5 by omega]; exact Hr, HD.out.2.2, by show _ = _; rw [HE.out, textsT, kidsT_cons]; simp [List.append_assoc], by simp only [List.length_append, List.length_cons, List.length_nil]; omega, HB2, HQ2⟩
        case measure => simp [intOf]; omega
      · have hjz : j = 0 := by simpa using hj0
        subst hjz
        simp only [Nat.zero_mul, Nat.add_zero, Nat.add_assoc, Nat.reduceAdd] at h1 h2 h3 h4 hk
        clear hj0
        have HEm : Hid (true = true) := rfl
        go_wp2_with fail
        refine (HC.out s'.size (by omega) k' n' t' s' d' rk' ck' wr (Nat.le_refl _) (by omega) g5 HD.out.1 HD.out.2.1 (HRk.out.below HBj.out)).mono ?_
        rintro e w2 ⟨rfl, hb2⟩
        have HB2 : Hid (Below w.heap.size w w2) := HBj.out.trans (hb2.mono HBj.out.size)
        have HQ2 : Hid _ := (hb2.block _ hws).trans HQj.out
        clear hb2 h1 h2 h3 h4 hk z0 z1 z2 z3 z4
        go_wp2
        go_roundw
        case rel => exact ⟨0 + 1, r', l ++ oneT k' n' t' s' d' (textsT s'), by go_num, by go_num, by omega, by omega, by rw [show o + (0 + 1) * 5 = o + 0 * 5 + 5 by omega]; exact Hr, HD.out.2.2, by show _ = _; rw [HE.out, textsT, kidsT_cons]; simp [List.append_assoc], by simp only [List.length_append]; omega, HB2, HQ2⟩
        case measure => simp [intOf]; omega
theorem text_q {N:Nat} (h:∀M,M<N→TextC M) (n1:Int) (s1:Fo) (d1:Bool) (k2 n2:Int) (t2:List UInt8) (s2:Fo) (d2:Bool) (rk:Option Addr) (ck:Nat) (w:World) (hN:s2.size<N) (hb:s2.size≤999999) (hi:isDat k2 n2 t2 s2 d2=true) (hA:allD s2=true) (hR:RS w rk (.cons 2 n1 quoteB s1 d1 (.cons k2 n2 t2 s2 d2 .nil))) :
  Calls Tryz.prog 99 #[.agg #[.int .u8 5, .int .i64 0,S [], .slice rk 2 ck, .bool false]] w fun e w' => e = .returned (S (39::oneT k2 n2 t2 s2 d2 (textsT s2)))∧Below w.heap.size w w' := by
 have HC:Hid (∀M,M<N→TextC M):=h
 have Hal:Hid (Below w.heap.size w (w.alloc (.cells #[.int .u8 5, .int .i64 0,S [], .slice rk 2 ck, .bool false] 32))):=(Below.refl _ w).alloc (Nat.le_refl _) _
 have Hi:Hid (isDat k2 n2 t2 s2 d2=true):=hi
 have HA:Hid (allD s2=true):=hA
 have hlen:(oneT k2 n2 t2 s2 d2 (textsT s2)).length≤40000000:=by
  have:=sum3_texts (.cons k2 n2 t2 s2 d2 .nil) (by simp [allD,hi,hA])
  simp only [textsT,sum3,Fo.size] at this
  omega
 obtain ⟨b,o,hab,hRd⟩:=hR
 have hra:rk=some ⟨b,o,none⟩:=hab.resolve_left (by simp [Fo.len])
 subst hra
 obtain ⟨⟨y0,y1,y2,y3,y4,y5⟩,⟨rk1,ck1,bk1,ok1,yk,yz,ys⟩,⟨⟨x0,x1,x2,x3,x4,x5⟩,⟨rk2,ck2,bk2,ok2,xk,xz,xs⟩,_⟩⟩:=hRd
 have HR2:Hid (RS w rk2 s2):=⟨bk2,ok2,xz,xs⟩
 unfold quoteB at y3
 clear h hi hA hab yz ys xz xs
 go_enter Tryz.func99,Tryz.ntmps99
 go_wp2_with fail
 refine (HC.out s2.size hN k2 n2 t2 s2 d2 rk2 ck2 _ (Nat.le_refl _) (by omega) x5 Hi.out HA.out (HR2.out.below Hal.out)).mono ?_
 rintro e w2 ⟨rfl,hb2⟩
 have HB2:Hid (Below w.heap.size w w2):=Hal.out.trans (hb2.mono Hal.out.size)
 clear hb2
 go_wp2
 go_ret
 exact ⟨rfl,HB2.out⟩
theorem text_all:∀N,TextC N:=fun N=>by
 induction N using Nat.strongRecOn with
 | _ N ih =>
  intro k n t s d rk ck w hN hb hm hi hA hR
  rcases isDat_kind hi with rfl|rfl|rfl|rfl|rfl
  ·have hf:=(isDat_num hi).1
   simp only [fits,Bool.and_eq_true,decide_eq_true_eq] at hf
   exact text_1 n (by omega) (by omega) t _ d w
  ·exact text_2 n t _ d w
  ·exact text_3 n t _ d w
  ·exact text_4 n t _ d w
  ·obtain ⟨rfl,rfl,hT⟩:=isDat_list hi
   have e:∀ts,oneT 5 0 [] s d ts=if isQ s d then 39::ts.getD 1 [] else 40::(kidsT d true ts++[41]):=fun ts=>by
    simp only [oneT,show ¬ (5:Int)=1 by decide,show ¬ (5:Int)=2 by decide,show ¬ (5:Int)=3 by decide,show ¬ (5:Int)=4 by decide,if_false]
   rw [e]
   cases d with
   | true =>
    have q:isQ s true=false:=by
     unfold isQ;split<;>simp
    rw [q]
    by_cases h2:s.len=2
    ·exact text_d2 ih s rk ck w hN hb hm hA hR h2
    ·exact text_dno2 ih s rk ck w hN hb hm hA hR h2
   | false =>
    by_cases h2:s.len=2
    ·obtain ⟨k1,n1,t1,s1,d1,k2,n2,t2,s2,d2,hs⟩:∃k1 n1 t1 s1 d1 k2 n2 t2 s2 d2,s = .cons k1 n1 t1 s1 d1 (.cons k2 n2 t2 s2 d2 .nil):=by
      cases s with
      | nil=>simp [Fo.len] at h2
      | cons k1 n1 t1 s1 d1 r1 =>
       cases r1 with
       | nil=>simp [Fo.len] at h2
       | cons k2 n2 t2 s2 d2 r2 =>
        have:r2 = .nil:=Fo.len0 (by simp only [Fo.len] at h2;omega)
        subst this
        exact ⟨_,_,_,_,_,_,_,_,_,_,rfl⟩
     have hA' := hA
     rw [hs] at hA'
     simp only [allD,Bool.and_eq_true] at hA'
     obtain ⟨hi1,hs1,hi2,hs2,_⟩:=hA'
     by_cases hk:k1=2
     ·by_cases ht:t1=quoteB
      ·subst hk ht
       obtain ⟨_,rfl,rfl,rfl⟩:=isDat_sym hi1
       subst hs
       have q:isQ (.cons 2 0 quoteB .nil false (.cons k2 n2 t2 s2 d2 .nil)) false=true:=by simp [isQ,sameB,Fo.same]
       rw [q]
       simp only [Fo.size] at hN hb
       exact text_q ih 0 .nil false k2 n2 t2 s2 d2 rk ck w (by omega) (by omega) hi2 hs2 hR
      ·have q:isQ s false=false:=by
        rw [hs];simp [isQ,sameB,ht]
       rw [q]
       refine text_t2 ih s rk ck w hN hb hm hA hR h2 (fun a1 a2 a3 a4 a5 a6 ha=>?_)
       rw [hs] at ha
       injection ha with e1 e2 e3
       subst e1 e3
       exact ⟨hk,ht⟩
     ·have q:isQ s false=false:=by
       rw [hs];simp [isQ,sameB,hk]
      rw [q]
      refine text_k2 ih s rk ck w hN hb hm hA hR h2 (fun a1 a2 a3 a4 a5 a6 ha=>?_)
      rw [hs] at ha
      injection ha with e1
      subst e1
      exact beq_eq_false_iff_ne.2 hk
    ·have q:isQ s false=false:=by
      unfold isQ;split
      ·simp [Fo.len] at h2
      ·rfl
     rw [q]
     exact text_no2 ih s rk ck w hN hb hm hA hR h2
def ManyC (N:Nat):Prop:=∀(k n:Int) (t:List UInt8) (s:Fo) (d:Bool) (rk:Option Addr) (ck:Nat) (w:World),s.size≤N→s.size≤1000000→s.len≤maxLen→RS w rk s →
 Calls Tryz.prog 98 #[.agg #[.int .u8 k, .int .i64 n,S t, .slice rk s.len ck, .bool d]] w fun e w' => e = .returned (.int .i64 ((s.size+1:Nat):Int))∧Below w.heap.size w w'
theorem many_of {N:Nat} (h:∀M,M<N→ManyC M):ManyC N:=by
 intro k n t s d rk ck w hN hb hm hR
 have HC:Hid (∀M,M<N→ManyC M):=h
 have hal:Below w.heap.size w (w.alloc (.cells #[.int .u8 k, .int .i64 n,S t, .slice rk s.len ck, .bool d] 32)):=(Below.refl _ w).alloc (Nat.le_refl _) _
 have Hal:Hid _:=hal
 have HQ0:Hid _:=World.alloc_heap_new w (.cells #[.int .u8 k, .int .i64 n,S t, .slice rk s.len ck, .bool d] 32)
 have hmm:=hm
 unfold maxLen at hmm
 obtain ⟨b,o,hab,hRd⟩:=hR
 have HRd:Hid (Rd w b o s):=hRd
 have Hra:Hid (s.len≠0→rk=some ⟨b,o,none⟩):=fun h=>hab.resolve_left h
 clear h hRd hab hal
 go_enter Tryz.func98,Tryz.ntmps98
 go_wp2
 go_loopw [3,4] (fun nv i wr=>∃(j c:Nat) (fi:Fo),nv = .int .i64 c∧i = .int .i64 j∧fi.len+j=s.len∧1≤c∧fi.size+c=s.size+1∧Hid (Rd w b (o+j*5) fi)∧Hid (Below w.heap.size w wr)∧Hid (wr.heap[w.heap.size]?=some (.cells #[.int .u8 k, .int .i64 n,S t, .slice rk s.len ck, .bool d] 32 (0,0)))) (fun _ i _=>s.len-(intOf i).toNat)
 case atStart=>exact ⟨0,1,s,rfl,rfl,by simp,Nat.le_refl _,rfl,by simpa using HRd,Hal,HQ0⟩
 case round =>
  obtain ⟨j,c,fi,rfl,rfl,hj,hc1,hsz,HF,HBj,HQj⟩:=hrel
  obtain ⟨z0,z1,z2,z3,z4,_⟩:=cells5 HQj.out
  have hws:w.heap.size<wr.heap.size:=(Array.getElem?_eq_some_iff.1 HQj.out).1
  cases fi with
  | nil =>
   have hj' : j=s.len:=by simpa [Fo.len] using hj
   have HJ:Hid _:=hj'
   have hjl:¬ ((j:Int)<(s.len:Int)):=by omega
   have hc:Hid (c=s.size+1):=by show _=_;simpa [Fo.size] using hsz
   clear hj hj' hsz
   go_wp2
   go_ret
   exact ⟨by rw [show ((s.size:Int)+1)=(c:Int) by have:=hc.out;omega];rfl,HBj.out⟩
  | cons k' n' t' s' d' r' =>
   simp only [Fo.len] at hj
   simp only [Fo.size] at hsz
   have i1:(j:Int)<(s.len:Int):=by omega
   obtain ⟨⟨g0,g1,g2,g3,g4,g5⟩,⟨rk', ck', bk', ok', gk,gz,gs⟩,gr⟩:=HF.out
   have ec:∀o,wr.cell? ⟨b,o,none⟩=w.cell? ⟨b,o,none⟩:=fun o=>HBj.out.cell (p:=⟨b,o,none⟩) g0
   have h1:=(ec _).trans g1
   have h2:=(ec _).trans g2
   have h3:=(ec _).trans g3
   have h4:=(ec _).trans g4
   have hk:=(ec _).trans gk
   have h0:b<wr.heap.size:=Nat.lt_of_lt_of_le g0 HBj.out.size
   have HRk:Hid (RS w rk' s'):=⟨bk', ok', gz,gs⟩
   have Hr:Hid _:=gr
   have hjs:j<s.len:=by omega
   have hra:=Hra.out (by omega)
   subst hra
   clear ec g1 g2 g3 g4 gk gz gs gr
   go_wp2_with fail
   refine (HC.out s'.size (by omega) k' n' t' s' d' rk' ck' wr (Nat.le_refl _) (by omega) g5 (HRk.out.below HBj.out)).mono ?_
   rintro e w2 ⟨rfl,hb2⟩
   have HB2:Hid (Below w.heap.size w w2):=HBj.out.trans (hb2.mono HBj.out.size)
   have HQ2:Hid _:=(hb2.block _ hws).trans HQj.out
   clear hb2 h1 h2 h3 h4 hk z0 z1 z2 z3 z4
   go_wp2
   go_roundw
   case rel=>exact ⟨j+1,c+(s'.size+1),r', by go_num,by go_num,by omega,by omega,by omega,by rw [show o+(j+1)*5=o+j*5+5 by omega];exact Hr,HB2,HQ2⟩
   case measure=>simp [intOf];omega
theorem many_all:∀N,ManyC N:=fun N=>by
 induction N using Nat.strongRecOn with
 | _ N ih=>exact many_of ih
def dpO:Fo→Nat
 | .nil=>0
 | .cons k _ _ s _ r=>max (if k=5 then dpO s+1 else 0) (dpO r)
theorem dep_dpO:∀(f:Fo) (L:Nat),allD f=true→dep L f=if dpO f=0 then 0 else L+dpO f
 | .nil,L,_=>rfl
 | .cons k n t s d r,L,h=>by
  simp only [allD,Bool.and_eq_true] at h
  obtain ⟨hi,hs,hr⟩:=h
  have ihr:=dep_dpO r L hr
  have ihs:=dep_dpO s (L+1) hs
  rcases isDat_kind hi with rfl|rfl|rfl|rfl|rfl
  ·obtain ⟨_,_,rfl,_⟩:=isDat_num hi
   simp only [dep,dpO];simp;exact ihr
  ·obtain ⟨_,_,rfl,_⟩:=isDat_sym hi
   simp only [dep,dpO];simp;exact ihr
  ·obtain ⟨_,_,rfl,_⟩:=isDat_lf (.inl rfl) hi
   simp only [dep,dpO];simp;exact ihr
  ·obtain ⟨_,_,rfl,_⟩:=isDat_lf (.inr rfl) hi
   simp only [dep,dpO];simp;exact ihr
  ·simp only [dep,dpO,if_true]
   rw [ihr,ihs]
   split<;>split<;>split<;>omega
theorem dpO_le:∀(f:Fo),dpO f≤f.size
 | .nil=>Nat.le_refl _
 | .cons k n t s d r=>by have h1:=dpO_le s;have h2:=dpO_le r;simp only [dpO,Fo.size];split<;>omega
def DeepC (N:Nat):Prop:=∀(k n:Int) (t:List UInt8) (s:Fo) (d:Bool) (rk:Option Addr) (ck:Nat) (w:World),s.size≤N→s.size≤1000000→s.len≤maxLen→RS w rk s →
 Calls Tryz.prog 97 #[.agg #[.int .u8 k, .int .i64 n,S t, .slice rk s.len ck, .bool d]] w fun e w' => e = .returned (.int .i64 (((if k=5 then dpO s+1 else 0):Nat):Int))∧Below w.heap.size w w'
theorem deep_list {N:Nat} (h:∀M,M<N→DeepC M) (n:Int) (t:List UInt8) (s:Fo) (d:Bool) (rk:Option Addr) (ck:Nat) (w:World) (hN:s.size≤N) (hb:s.size≤1000000) (hm:s.len≤maxLen) (hR:RS w rk s) :
  Calls Tryz.prog 97 #[.agg #[.int .u8 5, .int .i64 n,S t, .slice rk s.len ck, .bool d]] w fun e w' => e = .returned (.int .i64 ((dpO s+1:Nat):Int))∧Below w.heap.size w w' := by
 have HC:Hid (∀M,M<N→DeepC M):=h
 have hal:Below w.heap.size w (w.alloc (.cells #[.int .u8 5, .int .i64 n,S t, .slice rk s.len ck, .bool d] 32)):=(Below.refl _ w).alloc (Nat.le_refl _) _
 have Hal:Hid _:=hal
 have HQ0:Hid _:=World.alloc_heap_new w (.cells #[.int .u8 5, .int .i64 n,S t, .slice rk s.len ck, .bool d] 32)
 have hmm:=hm
 unfold maxLen at hmm
 obtain ⟨b,o,hab,hRd⟩:=hR
 have HRd:Hid (Rd w b o s):=hRd
 have Hra:Hid (s.len≠0→rk=some ⟨b,o,none⟩):=fun h=>hab.resolve_left h
 clear h hRd hab hal
 go_enter Tryz.func97,Tryz.ntmps97
 go_wp2
 go_loopw [3,4] (fun nv i wr=>∃(j c:Nat) (fi:Fo),nv = .int .i64 c∧i = .int .i64 j∧fi.len+j=s.len∧fi.size≤s.size∧c≤s.size∧max c (dpO fi)=dpO s∧Hid (Rd w b (o+j*5) fi)∧Hid (Below w.heap.size w wr)∧Hid (wr.heap[w.heap.size]?=some (.cells #[.int .u8 5, .int .i64 n,S t, .slice rk s.len ck, .bool d] 32 (0,0)))) (fun _ i _=>s.len-(intOf i).toNat)
 case atStart=>exact ⟨0,0,s,rfl,rfl,by simp,Nat.le_refl _,Nat.zero_le _,by simp,by simpa using HRd,Hal,HQ0⟩
 case round =>
  obtain ⟨j,c,fi,rfl,rfl,hj,hsz,hc0,hmax,HF,HBj,HQj⟩:=hrel
  have Hmax:Hid (max c (dpO fi)=dpO s):=hmax
  clear hmax
  obtain ⟨z0,z1,z2,z3,z4,_⟩:=cells5 HQj.out
  have hws:w.heap.size<wr.heap.size:=(Array.getElem?_eq_some_iff.1 HQj.out).1
  cases fi with
  | nil =>
   have hj' : j=s.len:=by simpa [Fo.len] using hj
   have HJ:Hid _:=hj'
   have hjl:¬ ((j:Int)<(s.len:Int)):=by omega
   have hc:Hid (c=dpO s):=by show _=_;have:=Hmax.out;simp only [dpO] at this;omega
   clear hj hj' hsz
   go_wp2
   go_ret
   exact ⟨by rw [←hc.out];rfl,HBj.out⟩
  | cons k' n' t' s' d' r' =>
   simp only [Fo.len] at hj
   simp only [Fo.size] at hsz
   have i1:(j:Int)<(s.len:Int):=by omega
   obtain ⟨⟨g0,g1,g2,g3,g4,g5⟩,⟨rk', ck', bk', ok', gk,gz,gs⟩,gr⟩:=HF.out
   have ec:∀o,wr.cell? ⟨b,o,none⟩=w.cell? ⟨b,o,none⟩:=fun o=>HBj.out.cell (p:=⟨b,o,none⟩) g0
   have h1:=(ec _).trans g1
   have h2:=(ec _).trans g2
   have h3:=(ec _).trans g3
   have h4:=(ec _).trans g4
   have hk:=(ec _).trans gk
   have h0:b<wr.heap.size:=Nat.lt_of_lt_of_le g0 HBj.out.size
   have HRk:Hid (RS w rk' s'):=⟨bk', ok', gz,gs⟩
   have Hr:Hid _:=gr
   have hjs:j<s.len:=by omega
   have hra:=Hra.out (by omega)
   subst hra
   have hdp:=dpO_le s'
   clear ec g1 g2 g3 g4 gk gz gs gr
   go_wp2_with fail
   refine (HC.out s'.size (by omega) k' n' t' s' d' rk' ck' wr (Nat.le_refl _) (by omega) g5 (HRk.out.below HBj.out)).mono ?_
   obtain ⟨D,hD⟩:∃D:Nat,(if k' = 5 then dpO s' + 1 else 0)=D:=⟨_,rfl⟩
   have hDs:D≤s.size:=by rw [←hD];split<;>omega
   rw [hD]
   rintro e w2 ⟨rfl,hb2⟩
   have Hmx:Hid (max (max c D) (dpO r')=dpO s):=by show _=_;have:=Hmax.out;simp only [dpO] at this;rw [hD] at this;omega
   clear hD
   have HB2:Hid (Below w.heap.size w w2):=HBj.out.trans (hb2.mono HBj.out.size)
   have HQ2:Hid _:=(hb2.block _ hws).trans HQj.out
   clear hb2 h1 h2 h3 h4 hk z0 z1 z2 z3 z4
   go_wp2
   go_roundw
   case rel=>exact ⟨j+1,max c D,r', by go_num,by go_num,by omega,by omega,by omega,Hmx.out,by rw [show o+(j+1)*5=o+j*5+5 by omega];exact Hr,HB2,HQ2⟩
   case measure=>simp [intOf];omega
theorem deep_leaf (k n:Int) (t:List UInt8) (s:Fo) (d:Bool) (rk:Option Addr) (ck:Nat) (w:World) (hk:k≠5) :
  Calls Tryz.prog 97 #[.agg #[.int .u8 k, .int .i64 n,S t, .slice rk s.len ck, .bool d]] w fun e w' => e = .returned (.int .i64 0)∧Below w.heap.size w w' := by
 have hal:Below w.heap.size w (w.alloc (.cells #[.int .u8 k, .int .i64 n,S t, .slice rk s.len ck, .bool d] 32)):=(Below.refl _ w).alloc (Nat.le_refl _) _
 have Hal:Hid _:=hal
 have b5:(k == 5)=false:=beq_eq_false_iff_ne.2 hk
 have b5' : (k != 5)=true:=by simp [bne,b5]
 clear hal hk
 go_enter Tryz.func97,Tryz.ntmps97
 go_wp2
 go_ret
 exact ⟨rfl,Hal.out⟩
theorem deep_all:∀N,DeepC N:=fun N=>by
 induction N using Nat.strongRecOn with
 | _ N ih =>
  intro k n t s d rk ck w hN hb hm hR
  by_cases hk:k=5
  ·subst hk
   rw [if_pos rfl]
   exact deep_list ih n t s d rk ck w hN hb hm hR
  ·rw [if_neg hk]
   exact deep_leaf k n t s d rk ck w hk
def lnT:List (List UInt8)→List UInt8
 | []=>[]
 | x::r=>10::(x++lnT r)
theorem lines_ln:∀(r:List (List UInt8)) (x:List UInt8),linesT (x::r)=x++lnT r
 | [],x=>by simp [linesT,lnT]
 | y::r,x=>by rw [linesT,lines_ln r y];simp [lnT]
theorem refWrite_any (rk:Option Addr) (ck:Nat) (f:Fo) (w:World) (hb:f.size≤1000000) (hm:f.len≤maxLen) (htx:f.tx) (hR:RS w rk f) :
  Calls Tryz.prog 45 #[.slice rk f.len ck] w fun e w' => e = .returned (.tuple #[S (writeOf f).1, .int .i64 (writeOf f).2])∧Below w.heap.size w w' := by
 have Htx:Hid f.tx:=htx
 have hmm:=hm
 unfold maxLen at hmm
 obtain ⟨b,o,hab,hRd⟩:=hR
 have HRd:Hid (Rd w b o f):=hRd
 have Hra:Hid (f.len≠0→rk=some ⟨b,o,none⟩):=fun h=>hab.resolve_left h
 clear hRd hab htx hm
 go_enter Tryz.func45,Tryz.ntmps45
 go_wp2
 go_loopw [4,5] (fun i q wr=>∃(j:Nat) (fi:Fo),i = .int .i64 j∧fi.len+j=f.len∧fi.size≤f.size∧Hid fi.tx∧Hid (Rd w b (o+j*5) fi)∧Hid (allD f=allD fi)∧Hid (Below w.heap.size w wr)) (fun i _ _=>f.len-(intOf i).toNat)
 case atStart=>exact ⟨0,f,rfl,by simp,Nat.le_refl _,Htx,by simpa using HRd,rfl,Below.refl _ _⟩
 case round =>
  obtain ⟨j,fi,rfl,hj,hsz,HT,HF,HA,HBj⟩:=hrel
  cases fi with
  | nil =>
   have hj' : j=f.len:=by simpa [Fo.len] using hj
   have HJ:Hid _:=hj'
   have hjl:¬ ((j:Int)<(f.len:Int)):=by omega
   have HA1:Hid (allD f=true):=HA.out
   have HDp:Hid (dep 0 f=dpO f):=by
    show _=_
    rw [dep_dpO f 0 HA1.out];split<;>omega
   have HCk:Hid (chk f=if 100<dpO f then 61 else if 10000<f.size then 62 else 0):=by
    show _=_
    unfold chk;rw [ext_is,HA1.out];simp only [if_true,Nat.zero_add,Nat.zero_max,HDp.out]
   have Hs3:Hid (sum3 (textsT f)≤40*f.size):=sum3_texts f HA1.out
   clear hj hj' hsz
   go_wp2
   go_loopw [6,7] (fun mv i wr=>∃(j c:Nat) (fi:Fo),mv = .int .i64 c∧i = .int .i64 j∧fi.len+j=f.len∧fi.size+c=f.size∧Hid (Rd w b (o+j*5) fi)∧Hid (100<dpO f↔100<dpO fi)∧Hid (Below w.heap.size w wr)) (fun _ i _=>f.len-(intOf i).toNat)
   case atStart=>exact ⟨0,0,f,rfl,rfl,by simp,by simp,by simpa using HRd,Iff.rfl,HBj⟩
   case round =>
    obtain ⟨j2,c,fi,rfl,rfl,hj,hsz,HF2,HP,HBj2⟩:=hrel
    cases fi with
    | nil =>
     have hj' : j2=f.len:=by simpa [Fo.len] using hj
     have HJ2:Hid _:=hj'
     have hjl:¬ ((j2:Int)<(f.len:Int)):=by omega
     have hP:Hid (¬ 100<dpO f):=by show ¬ _;rw [HP.out];simp [dpO]
     have hc:c=f.size:=by simpa [Fo.size] using hsz
     have Hc:Hid _:=hc
     clear hj hj' hsz hc
     by_cases hmu:10000<c
     ·have iu:(10000:Int)<(c:Int):=by omega
      have HW:Hid (writeOf f=([],62)):=by
       show _=_
       have h62:chk f=62:=by rw [HCk.out,if_neg hP.out,if_pos (show 10000<f.size by rw [←Hc.out];exact hmu)]
       unfold writeOf;rw [h62];rfl
      go_wp2
      go_ret2
      exact ⟨by rw [HW.out];rfl,HBj2.out⟩
     ·have iu:¬ (10000:Int)<(c:Int):=by omega
      have HC0:Hid (chk f=0):=by
       show _=_
       rw [HCk.out,if_neg hP.out,if_neg (show ¬ 10000<f.size by rw [←Hc.out];exact hmu)]
      go_wp2
      go_loopw [8,9] (fun sv i wr=>∃(j:Nat) (fi:Fo) (l:List UInt8),sv=S l∧i = .int .i64 j∧fi.len+j=f.len∧fi.size≤f.size∧Hid (Rd w b (o+j*5) fi)∧Hid (allD fi=true)∧Hid (linesT (textsT f)=l++(if (j == 0)=true then linesT (textsT fi) else lnT (textsT fi)))∧l.length+sum3 (textsT fi)≤40000001∧Hid (Below w.heap.size w wr)) (fun _ i _=>f.len-(intOf i).toNat)
      case atStart=>exact ⟨0,f,[],rfl,rfl,by simp,Nat.le_refl _,by simpa using HRd,HA1,rfl,by have:=Hs3.out;simp only [List.length_nil];omega,HBj2⟩
      case round =>
       obtain ⟨j3,fi,l,rfl,rfl,hj,hsz,HF3,HD0,HE,hl,HBj3⟩:=hrel
       cases fi with
       | nil =>
        have hj' : j3=f.len:=by simpa [Fo.len] using hj
        have HJ3:Hid _:=hj'
        have hjl:¬ ((j3:Int)<(f.len:Int)):=by omega
        have HV:Hid (linesT (textsT f)=l):=by show _=_;rw [HE.out];simp [textsT,linesT,lnT]
        simp only [textsT,sum3] at hl
        clear hj hj' hsz
        by_cases hbig:65536<l.length
        ·have iu:(65536:Int)<(l.length:Int):=by omega
         have HW:Hid (writeOf f=([],2)):=by
          show _=_
          unfold writeOf;rw [if_neg (by rw [HC0.out];simp),HV.out,if_pos hbig]
         go_wp2
         go_ret2
         exact ⟨by rw [HW.out];rfl,HBj3.out⟩
        ·have iu:¬ (65536:Int)<(l.length:Int):=by omega
         have HW:Hid (writeOf f=(l,0)):=by
          show _=_
          unfold writeOf;rw [if_neg (by rw [HC0.out];simp),HV.out,if_neg hbig]
         go_wp2
         go_ret2
         exact ⟨by rw [HW.out];rfl,HBj3.out⟩
       | cons k' n' t' s' d' r' =>
        simp only [Fo.len] at hj
        simp only [Fo.size] at hsz
        simp only [textsT,sum3] at hl
        have i1:(j3:Int)<(f.len:Int):=by omega
        obtain ⟨⟨g0,g1,g2,g3,g4,g5⟩,⟨rk', ck', bk', ok', gk,gz,gs⟩,gr⟩:=HF3.out
        have ec:∀o,wr.cell? ⟨b,o,none⟩=w.cell? ⟨b,o,none⟩:=fun o=>HBj3.out.cell (p:=⟨b,o,none⟩) g0
        have h1:=(ec _).trans g1
        have h2:=(ec _).trans g2
        have h3:=(ec _).trans g3
        have h4:=(ec _).trans g4
        have hk:=(ec _).trans gk
        have h0:b<wr.heap.size:=Nat.lt_of_lt_of_le g0 HBj3.out.size
        have HRk:Hid (RS w rk' s'):=⟨bk', ok', gz,gs⟩
        have Hr:Hid _:=gr
        have HD:Hid (isDat k' n' t' s' d' = true∧allD s' = true∧allD r' = true):=by
         show _∧_
         have:=HD0.out
         simpa only [allD,Bool.and_eq_true] using this
        have hjs:j3<f.len:=by omega
        have hra:=Hra.out (by omega)
        subst hra
        clear ec g1 g2 g3 g4 gk gz gs gr
        cases hj0:j3 == 0
        ·have ij:(0:Int)<(j3:Int):=by
          have:j3≠0:=by simpa using hj0
          omega
         rw [hj0] at HE
         clear hj0
         go_wp2_with fail
         refine (text_all s'.size k' n' t' s' d' rk' ck' wr (Nat.le_refl _) (by omega) g5 HD.out.1 HD.out.2.1 (HRk.out.below HBj3.out)).mono ?_
         rintro e w2 ⟨rfl,hb2⟩
         have HB2:Hid (Below w.heap.size w w2):=HBj3.out.trans (hb2.mono HBj3.out.size)
         clear hb2 h1 h2 h3 h4 hk
         go_wp2
         go_roundw
         case rel=>exact ⟨j3+1,r', (l++[10])++oneT k' n' t' s' d' (textsT s'),by go_num,by go_num,by omega,by omega,by rw [show o+(j3+1)*5=o+j3*5+5 by omega];exact Hr,HD.out.2.2,by show _=_;rw [HE.out,textsT];simp [lnT],by simp only [List.length_append,List.length_cons,List.length_nil];omega,HB2⟩
         case measure=>simp [intOf];omega
        ·have hjz:j3=0:=by simpa using hj0
         subst hjz
         simp only [Nat.zero_mul,Nat.add_zero,Nat.add_assoc,Nat.reduceAdd] at h1 h2 h3 h4 hk
         clear hj0
         go_wp2_with fail
         refine (text_all s'.size k' n' t' s' d' rk' ck' wr (Nat.le_refl _) (by omega) g5 HD.out.1 HD.out.2.1 (HRk.out.below HBj3.out)).mono ?_
         rintro e w2 ⟨rfl,hb2⟩
         have HB2:Hid (Below w.heap.size w w2):=HBj3.out.trans (hb2.mono HBj3.out.size)
         clear hb2 h1 h2 h3 h4 hk
         go_wp2
         go_roundw
         case rel=>exact ⟨0+1,r', l++oneT k' n' t' s' d' (textsT s'),by go_num,by go_num,by omega,by omega,by rw [show o+(0+1)*5=o+0*5+5 by omega];exact Hr,HD.out.2.2,by show _=_;rw [HE.out,textsT];simp [lines_ln],by simp only [List.length_append];omega,HB2⟩
         case measure=>simp [intOf];omega
    | cons k' n' t' s' d' r' =>
     simp only [Fo.len] at hj
     simp only [Fo.size] at hsz
     have i1:(j2:Int)<(f.len:Int):=by omega
     obtain ⟨⟨g0,g1,g2,g3,g4,g5⟩,⟨rk', ck', bk', ok', gk,gz,gs⟩,gr⟩:=HF2.out
     have ec:∀o,wr.cell? ⟨b,o,none⟩=w.cell? ⟨b,o,none⟩:=fun o=>HBj2.out.cell (p:=⟨b,o,none⟩) g0
     have h1:=(ec _).trans g1
     have h2:=(ec _).trans g2
     have h3:=(ec _).trans g3
     have h4:=(ec _).trans g4
     have hk:=(ec _).trans gk
     have h0:b<wr.heap.size:=Nat.lt_of_lt_of_le g0 HBj2.out.size
     have HRk:Hid (RS w rk' s'):=⟨bk', ok', gz,gs⟩
     have Hr:Hid _:=gr
     have hjs:j2<f.len:=by omega
     have hra:=Hra.out (by omega)
     subst hra
     clear g1 g2 g3 g4 gk gz gs gr ec
     go_wp2_with fail
     refine (deep_all s'.size k' n' t' s' d' rk' ck' wr (Nat.le_refl _) (by omega) g5 (HRk.out.below HBj2.out)).mono ?_
     rintro e w2 ⟨rfl,hb2⟩
     have HB2:Hid (Below w.heap.size w w2):=HBj2.out.trans (hb2.mono HBj2.out.size)
     have hc2:∀o,w2.cell? ⟨b,o,none⟩=wr.cell? ⟨b,o,none⟩:=fun o=>hb2.cell (p:=⟨b,o,none⟩) h0
     have h1' := (hc2 _).trans h1
     have h2' := (hc2 _).trans h2
     have h3' := (hc2 _).trans h3
     have h4' := (hc2 _).trans h4
     have hk' := (hc2 _).trans hk
     have h0' : b<w2.heap.size:=Nat.lt_of_lt_of_le h0 hb2.size
     clear hb2 h1 h2 h3 h4 hk hc2
     obtain ⟨D,hD⟩:∃D,(if k' = 5 then dpO s' + 1 else 0)=D:=⟨_,rfl⟩
     have HDd:Hid (dpO (.cons k' n' t' s' d' r')=max D (dpO r')):=by show _=_;rw [←hD];rfl
     rw [hD]
     clear hD
     by_cases hdeep:100<D
     ·have iu:(100:Int)<(D:Int):=by omega
      have HW:Hid (writeOf f=([],61)):=by
       show _=_
       have:100<dpO f:=by rw [HP.out,HDd.out];omega
       have h61:chk f=61:=by rw [HCk.out,if_pos this]
       unfold writeOf;rw [h61];rfl
      go_wp2
      go_ret2
      exact ⟨by rw [HW.out];rfl,HB2.out⟩
     ·have iu:¬ (100:Int)<(D:Int):=by omega
      have HP2:Hid (100<dpO f↔100<dpO r'):=by
       show _↔_
       rw [HP.out,HDd.out];omega
      go_wp2_with fail
      refine (many_all s'.size k' n' t' s' d' rk' ck' w2 (Nat.le_refl _) (by omega) g5 (HRk.out.below HB2.out)).mono ?_
      rintro e w3 ⟨rfl,hb3⟩
      have HB3:Hid (Below w.heap.size w w3):=HB2.out.trans (hb3.mono HB2.out.size)
      clear hb3 h1' h2' h3' h4' hk'
      go_wp2
      go_roundw
      case rel=>exact ⟨j2+1,c+(s'.size+1),r', by go_num,by go_num,by omega,by omega,by rw [show o+(j2+1)*5=o+j2*5+5 by omega];exact Hr,HP2,HB3⟩
      case measure=>simp [intOf];omega
  | cons k' n' t' s' d' r' =>
   simp only [Fo.len] at hj
   simp only [Fo.size] at hsz
   have i1:(j:Int)<(f.len:Int):=by omega
   obtain ⟨⟨g0,g1,g2,g3,g4,g5⟩,⟨rk', ck', bk', ok', gk,gz,gs⟩,gr⟩:=HF.out
   have ec:∀o,wr.cell? ⟨b,o,none⟩=w.cell? ⟨b,o,none⟩:=fun o=>HBj.out.cell (p:=⟨b,o,none⟩) g0
   have h1:=(ec _).trans g1
   have h2:=(ec _).trans g2
   have h3:=(ec _).trans g3
   have h4:=(ec _).trans g4
   have hk:=(ec _).trans gk
   have h0:b<wr.heap.size:=Nat.lt_of_lt_of_le g0 HBj.out.size
   have HRk:Hid (RS w rk' s'):=⟨bk', ok', gz,gs⟩
   have Hr:Hid _:=gr
   have hjs:j<f.len:=by omega
   have hra:=Hra.out (by omega)
   subst hra
   clear ec g1 g2 g3 g4 gk gz gs gr
   go_wp2_with fail
   refine (may_all s'.size k' n' t' s' d' rk' ck' wr (Nat.le_refl _) g5 HT.out.1 HT.out.2.1 (HRk.out.below HBj.out)).mono ?_
   rintro e w2 ⟨rfl,hb2⟩
   have HB2:Hid (Below w.heap.size w w2):=HBj.out.trans (hb2.mono HBj.out.size)
   clear hb2 h1 h2 h3 h4 hk
   cases hv:(isDat k' n' t' s' d' && allD s')
   ·have HW:Hid (writeOf f=([],60)):=by
     show _=_
     have:allD f=false:=by rw [HA.out,allD, ←Bool.and_assoc,hv];rfl
     unfold writeOf chk;rw [ext_is,this];rfl
    clear hv
    go_wp2
    go_ret2
    exact ⟨by rw [HW.out];rfl,HB2.out⟩
   ·have HV:Hid (allD f=allD r'):=by
     show _=_
     rw [HA.out,allD, ←Bool.and_assoc,hv];rfl
    clear hv
    go_wp2
    go_roundw
    case rel=>exact ⟨j+1,r', by go_num,by omega,by omega,HT.out.2.2,by rw [show o+(j+1)*5=o+j*5+5 by omega];exact Hr,HV,HB2⟩
    case measure=>simp [intOf];omega
end Go.Proofs.YtkgnigloboajcaaGreatDoor
