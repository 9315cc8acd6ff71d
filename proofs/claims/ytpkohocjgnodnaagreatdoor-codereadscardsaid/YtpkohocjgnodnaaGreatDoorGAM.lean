/- count, wordOf, constOf.; instrOf. -/
import Derived.Test.YtpkohocjgnodnaaGreatDoorGAK
/- count, wordOf, constOf. -/
namespace Go.Proofs.YtpkohocjgnodnaaGreatDoor
open Go.RowKit

def ToldI (o : Option Int) (e : Ending) : Prop := ∃ n b, e = .returned (.tuple #[.int .i64 n, .bool b]) ∧ Tells o n b
def ToldW (o : Option Int) (e : Ending) : Prop := ∃ n b, e = .returned (.tuple #[.int .u64 n, .bool b]) ∧ Tells o n b

set_option maxRecDepth 100000 in
set_option maxHeartbeats 2000000 in
theorem count_any (d : List UInt8) (w : World) (hl : d.length ≤ 140737488355328) (hE : Env w) :
    Calls Tryz.prog 142 #[S d] w fun e w' => ToldI (countV d) e ∧ Below w.heap.size w w' := by
  have HC := numberC_any d w hl hE
  have HC : Hid (Calls Tryz.prog 157 #[S d] w fun e w' => (∃ n b, e = .returned (.tuple #[.int .i64 n, .bool b]) ∧ Tells (numV d) n b ∧ (-9223372036854775808 ≤ n ∧ n ≤ 9223372036854775807)) ∧ Below w.heap.size w w') := HC
  clear hE
  go_enter Tryz.func142, Tryz.ntmps142
  go_wp2_with fail
  refine Calls.mono HC.out ?_
  rintro e w1 ⟨⟨n, b, rfl, ht, hn1, hn2⟩, hb⟩
  rcases ht with ⟨h1, rfl⟩ | ⟨h1, rfl⟩
  · by_cases h0 : 0 ≤ n
    · by_cases h2 : n ≤ 2147483647
      · have HV : Hid (countV d = some n) := by show _ = _; unfold countV; rw [h1]; exact if_pos ⟨h0, h2⟩
        clear h1
        go_wp2
        go_ret2
        exact ⟨⟨n, true, rfl, .inl ⟨HV.out, rfl⟩⟩, hb⟩
      · have HV : Hid (countV d = none) := by show _ = _; unfold countV; rw [h1]; exact if_neg (fun h => h2 h.2)
        clear h1
        go_wp2
        go_ret2
        exact ⟨⟨n, _, rfl, .inr ⟨HV.out, by simp; omega⟩⟩, hb⟩
    · have HV : Hid (countV d = none) := by show _ = _; unfold countV; rw [h1]; exact if_neg (fun h => h0 h.1)
      clear h1
      go_wp2
      go_ret2
      exact ⟨⟨n, false, rfl, .inr ⟨HV.out, rfl⟩⟩, hb⟩
  · have HV : Hid (countV d = none) := by show _ = _; unfold countV; rw [h1]
    clear h1
    go_wp2
    go_ret2
    exact ⟨⟨n, false, rfl, .inr ⟨HV.out, rfl⟩⟩, hb⟩
theorem mkE_is (t n : Int) : mkE t n = 0 ∨ mkE t n = 11 ∨ mkE t n = 10 := by
  unfold mkE; split
  · split
    · exact .inl rfl
    · exact .inr (.inl rfl)
  · exact .inr (.inr rfl)
set_option maxRecDepth 100000 in
set_option maxHeartbeats 2000000 in
theorem wordOf_any (k : Nat) (d : List UInt8) (has : Bool) (w : World) (hk : k ≤ 255) (hl : d.length ≤ 140737488355328) (hE : Env w) :
    Calls Tryz.prog 155 #[.int .u8 k, S d, .bool has] w fun e w' => ToldW (wordV k d has) e ∧ Below w.heap.size w w' := by
  have HE : Hid (Env w) := hE
  have hmk : ∀ (n : Int) (w5 : World), Below w.heap.size w w5 → Calls Tryz.prog 67 #[.int .u8 k, .int .i64 n] w5 fun e w' => e = .returned (.tuple #[.int .u64 (mkW k n), .int .i64 (mkE k n)]) ∧ w' = w5 := fun n w5 h5 => make_any k n w5 (by omega) (by omega) (HE.out.below h5).T
  have HM : Hid _ := hmk
  have fin : ∀ n : Int, mkE k n = 0 ∨ (mkE k n == 0) = false := fun n => by
    rcases mkE_is k n with h | h | h
    · exact .inl h
    · exact .inr (by rw [h]; rfl)
    · exact .inr (by rw [h]; rfl)
  have HF : Hid (∀ n : Int, mkE k n = 0 ∨ (mkE k n == 0) = false) := fin
  clear fin hmk
  cases has with
  | false =>
    clear hE
    go_enter Tryz.func155, Tryz.ntmps155
    go_wp2_with fail
    refine Calls.mono (HM.out 0 w (Below.refl _ _)) ?_
    rintro e w1 ⟨rfl, rfl⟩
    rcases HF.out 0 with h | h
    · have HV : Hid (wordV k d false = some (mkW k 0)) := by show _ = _; unfold wordV wordN; rw [if_neg (by simp), if_pos h]
      rw [h]
      go_wp2
      go_ret2
      exact ⟨⟨_, true, rfl, .inl ⟨HV.out, rfl⟩⟩, Below.refl _ _⟩
    · have HV : Hid (wordV k d false = none) := by show _ = _; unfold wordV wordN; rw [if_neg (by simp), if_neg (by simpa using h)]
      generalize mkE k 0 = m at *
      go_wp2
      go_ret2
      exact ⟨⟨_, false, rfl, .inr ⟨HV.out, rfl⟩⟩, Below.refl _ _⟩
  | true =>
    have HC : Hid (Calls Tryz.prog 157 #[S d] w fun e w' => (∃ n b, e = .returned (.tuple #[.int .i64 n, .bool b]) ∧ Tells (numV d) n b ∧ (-9223372036854775808 ≤ n ∧ n ≤ 9223372036854775807)) ∧ Below w.heap.size w w') := numberC_any d w hl hE
    clear hE
    go_enter Tryz.func155, Tryz.ntmps155
    go_wp2_with fail
    refine Calls.mono HC.out ?_
    rintro e w1 ⟨⟨n, b, rfl, ht, hn1, hn2⟩, hb⟩
    rcases ht with ⟨h1, rfl⟩ | ⟨h1, rfl⟩
    · have HV : Hid (wordV k d true = wordN k n) := by show _ = _; unfold wordV; rw [if_pos rfl, h1]
      clear h1
      go_wp2_with fail
      refine Calls.mono (HM.out n w1 hb) ?_
      rintro e w2 ⟨rfl, rfl⟩
      rcases HF.out n with h | h
      · have HV2 : Hid (wordV k d true = some (mkW k n)) := by show _ = _; rw [HV.out]; unfold wordN; rw [if_pos h]
        rw [h]
        go_wp2
        go_ret2
        exact ⟨⟨_, true, rfl, .inl ⟨HV2.out, rfl⟩⟩, hb⟩
      · have HV2 : Hid (wordV k d true = none) := by show _ = _; rw [HV.out]; unfold wordN; rw [if_neg (by simpa using h)]
        clear HV
        generalize mkE k n = m at *
        go_wp2
        go_ret2
        exact ⟨⟨_, false, rfl, .inr ⟨HV2.out, rfl⟩⟩, hb⟩
    · have HV : Hid (wordV k d true = none) := by show _ = _; unfold wordV; rw [if_pos rfl, h1]
      clear h1
      go_wp2_with fail
      refine Calls.mono (HM.out n w1 hb) ?_
      rintro e w2 ⟨rfl, rfl⟩
      generalize mkE k n = m at *
      go_wp2
      go_ret2
      exact ⟨⟨_, false, rfl, .inr ⟨HV.out, rfl⟩⟩, hb⟩
theorem tells_none {n : Int} : Tells none n false := .inr ⟨rfl, rfl⟩
theorem cut_len (t : List UInt8) : (cut1 t).length ≤ t.length ∧ (cut2 t).length ≤ t.length := by
  have h := cut_put t
  have := congrArg List.length h
  split at this
  · simp at this; omega
  · rename_i hc
    have hc' : (32 : UInt8) ∉ t := fun hm => hc (by unfold cutH; simpa using hm)
    obtain ⟨_, _, h3⟩ := cut_none hc'
    rw [h3]; simp; omega
set_option maxRecDepth 100000 in
set_option maxHeartbeats 4000000 in
theorem constOf_any (t : List UInt8) (w : World) (hl : t.length ≤ 140737488355328) (hE : Env w) :
    Calls Tryz.prog 140 #[S t] w fun e w' => ToldW (constV t) e ∧ Below w.heap.size w w' := by
  have HE : Hid (Env w) := hE
  have HC : Hid (Calls Tryz.prog 154 #[S t, S [32]] w fun e w' => e = .returned (.tuple #[S (cut1 t), S (cut2 t), .bool (cutH t)]) ∧ Below w.heap.size w w') := cutS_any t w hl
  have hdl : (cut2 t).length ≤ 140737488355328 := Nat.le_trans (cut_len t).2 hl
  have HV : Hid (constV t = constFrom (cut1 t) (cut2 t) (cutH t) 1 7) := rfl
  clear hE
  generalize cut1 t = nm at *
  generalize cut2 t = d at *
  generalize cutH t = has at *
  go_enter Tryz.func140, Tryz.ntmps140
  go_wp2_with fail
  refine Calls.mono HC.out ?_
  rintro e w1 ⟨rfl, hb⟩
  have HB : Hid (Below w.heap.size w w1) := hb
  clear hb
  go_wp2
  go_loopw [7] (fun i wr => ∃ j k : Nat, i = .int .u8 j ∧ 1 ≤ j ∧ j + k = 8 ∧ Hid (constV t = constFrom nm d has j k) ∧ Hid (Below w.heap.size w wr)) (fun i _ => 8 - (intOf i).toNat)
  case atStart => exact ⟨1, 7, rfl, by omega, rfl, HV, HB⟩
  case round =>
    obtain ⟨j, k, rfl, hj1, hjk, HJ, HW⟩ := hrel
    cases k with
    | zero =>
      have i1 : ¬ (j : Int) ≤ 7 := by omega
      have HN : Hid (constV t = none) := by show _ = _; rw [HJ.out]; rfl
      clear HJ
      go_wp2
      go_ret2
      exact ⟨⟨0, false, rfl, .inr ⟨HN.out, rfl⟩⟩, HW.out⟩
    | succ k =>
      have i1 : (j : Int) ≤ 7 := by omega
      have i2 : (j : Int) < 8 := by omega
      have hen := HE.out.below HW.out
      have c1 : wr.cell? ⟨0, j, none⟩ = some (S (tagNames.getD j [])) := hen.N j (by omega)
      have c2 : 0 < wr.heap.size := hen.N.lt
      have HEN : Hid (Env wr) := hen
      have HJ2 : Hid (constV t = if tagNames.getD j [] = nm ∧ tagNumB j = has then wordV j d has else constFrom nm d has (j + 1) k) := HJ.out
      have HCH : Hid (∀ w5 : World, Calls Tryz.prog 115 #[.int .u8 j] w5 fun e w' => e = .returned (.bool (tagNumB j)) ∧ w' = w5) := fun w5 => tagHasNumber_any j w5
      have HWO : Hid (Calls Tryz.prog 155 #[.int .u8 j, S d, .bool has] wr fun e w' => ToldW (wordV j d has) e ∧ Below wr.heap.size wr w') := wordOf_any j d has wr (by omega) hdl hen
      clear hen HJ
      generalize tagNames.getD j [] = tn at *
      generalize tagNumB j = tb at *
      by_cases he : tn = nm
      · have he' : (tn == nm) = true := beq_iff_eq.2 he
        by_cases hh : tb = has
        · have HV3 : Hid (constV t = wordV j d has) := by show _ = _; rw [HJ2.out, if_pos ⟨he, hh⟩]
          clear he HJ2
          subst hh
          go_wp2_with fail
          refine (HCH.out _).mono ?_
          rintro e w2 ⟨rfl, rfl⟩
          have hbb : (tb == tb) = true := by simp
          go_wp2_with fail
          refine Calls.mono HWO.out ?_
          rintro e w3 ⟨⟨x, b, rfl, ht⟩, hb3⟩
          have HT : Hid (Tells (wordV j d tb) x b) := ht
          clear ht
          go_wp2
          go_ret2
          exact ⟨⟨x, b, rfl, by rw [HV3.out]; exact HT.out⟩, HW.out.trans (hb3.mono HW.out.size)⟩
        · have HV3 : Hid (constV t = constFrom nm d has (j + 1) k) := by show _ = _; rw [HJ2.out, if_neg (fun h => hh h.2)]
          have hbb : (tb == has) = false := by simpa using hh
          clear he HJ2 hh
          go_wp2_with fail
          refine (HCH.out _).mono ?_
          rintro e w2 ⟨rfl, rfl⟩
          go_wp2
          go_roundw
          case rel => exact ⟨j + 1, k, by go_num, by omega, by omega, HV3, HW⟩
          case measure => simp [intOf]; omega
      · have HV3 : Hid (constV t = constFrom nm d has (j + 1) k) := by show _ = _; rw [HJ2.out, if_neg (fun h => he h.1)]
        have he' : (tn == nm) = false := beq_eq_false_iff_ne.2 he
        clear he HJ2
        go_wp2
        go_roundw
        case rel => exact ⟨j + 1, k, by go_num, by omega, by omega, HV3, HW⟩
        case measure => simp [intOf]; omega
end Go.Proofs.YtpkohocjgnodnaaGreatDoor

/- instrOf. -/
namespace Go.Proofs.YtpkohocjgnodnaaGreatDoor
open Go.RowKit

def ToldN (o : Option Ins) (e : Ending) : Prop := ∃ op a b, e = .returned (.tuple #[.agg #[.int .u8 op, .int .i64 a], .bool b]) ∧ ((o = some ⟨op, a⟩ ∧ b = true) ∨ (o = none ∧ b = false))
theorem below2 {w w1 : World} {b : Nat} (h : Below w.heap.size w w1) (hb : w.heap.size ≤ b) (v0 v1 : Value) :
    Below w.heap.size w ((w1.setCell ⟨b, 0, none⟩ v0).setCell ⟨b, 1, none⟩ v1) :=
  (h.setCell (p := ⟨b, 0, none⟩) hb v0).setCell (p := ⟨b, 1, none⟩) hb v1
abbrev ZI : Obj := .cells #[.int .u8 0, .int .i64 0] 79
set_option maxRecDepth 100000 in
set_option maxHeartbeats 4000000 in
theorem instrOf_any (t : List UInt8) (w : World) (hl : t.length ≤ 140737488355328) (hE : Env w) :
    Calls Tryz.prog 143 #[S t] w fun e w' => ToldN (instrV t) e ∧ Below w.heap.size w w' := by
  have hal : Below w.heap.size w (w.alloc ZI) := (Below.refl _ w).alloc (Nat.le_refl _) ZI
  have HA : Hid (Below w.heap.size w (w.alloc ZI)) := hal
  have HE : Hid (Env (w.alloc ZI)) := hE.below hal
  have HC : Hid (Calls Tryz.prog 154 #[S t, S [32]] (w.alloc ZI) fun e w' => e = .returned (.tuple #[S (cut1 t), S (cut2 t), .bool (cutH t)]) ∧ Below (w.alloc ZI).heap.size (w.alloc ZI) w') := cutS_any t _ hl
  have hdl : (cut2 t).length ≤ 140737488355328 := Nat.le_trans (cut_len t).2 hl
  have HV : Hid (instrV t = instrFrom (cut1 t) (cut2 t) (cutH t) 1 18) := rfl
  clear hE hal
  generalize cut1 t = nm at *
  generalize cut2 t = d at *
  generalize cutH t = has at *
  go_enter Tryz.func143, Tryz.ntmps143
  go_wp2_with fail
  refine Calls.mono HC.out ?_
  rintro e w1 ⟨rfl, hb⟩
  have HB : Hid (Below (w.alloc ZI).heap.size (w.alloc ZI) w1) := hb
  clear hb
  go_wp2
  go_loopw [7] (fun i wr => ∃ j k : Nat, i = .int .u8 j ∧ 1 ≤ j ∧ j + k = 19 ∧ Hid (instrV t = instrFrom nm d has j k) ∧ Hid (Below (w.alloc ZI).heap.size (w.alloc ZI) wr)) (fun i _ => 19 - (intOf i).toNat)
  case atStart => exact ⟨1, 18, rfl, by omega, rfl, HV, HB⟩
  case round =>
    obtain ⟨j, k, rfl, hj1, hjk, HJ, HW⟩ := hrel
    obtain ⟨hc, hfz⟩ := bcell HW.out
    have hz : w.heap.size < wr.heap.size := by have := HW.out.size; simp at this; omega
    cases k with
    | zero =>
      have i1 : ¬ (j : Int) ≤ 18 := by omega
      have HN : Hid (instrV t = none) := by show _ = _; rw [HJ.out]; rfl
      clear HJ
      go_wp2
      refine bodyPost_ret (v := .tuple #[.agg #[.int .u8 0, .int .i64 0], .bool false]) (by simp [results, Tryz.results143, go_sem, hc]) rfl ⟨?_, ?_⟩
      · exact ⟨0, 0, false, rfl, .inr ⟨HN.out, rfl⟩⟩
      · exact below2 (below1 HW.out) (Nat.le_refl _) _ _
    | succ k =>
      have i1 : (j : Int) ≤ 18 := by omega
      have i2 : (j : Int) < 19 := by omega
      have hen := HE.out.below HW.out
      have c1 : wr.cell? ⟨1, j, none⟩ = some (S (opNames.getD j [])) := hen.O j (by omega)
      have c2 : 1 < wr.heap.size := hen.O.lt
      have HEN : Hid (Env wr) := hen
      have HJ2 : Hid (instrV t = if opNames.getD j [] = nm ∧ opNumB j = has then insV j d has else instrFrom nm d has (j + 1) k) := HJ.out
      have HCH : Hid (∀ w5 : World, Calls Tryz.prog 118 #[.int .u8 j] w5 fun e w' => e = .returned (.bool (opNumB j)) ∧ w' = w5) := fun w5 => hasNumber_any j w5
      have HWO : Hid (Calls Tryz.prog 142 #[S d] wr fun e w' => ToldI (countV d) e ∧ Below wr.heap.size wr w') := count_any d wr hdl hen
      clear hen HJ
      generalize opNames.getD j [] = tn at *
      generalize opNumB j = tb at *
      by_cases he : tn = nm
      · have he' : (tn == nm) = true := beq_iff_eq.2 he
        by_cases hh : tb = has
        · have HV3 : Hid (instrV t = insV j d has) := by show _ = _; rw [HJ2.out, if_pos ⟨he, hh⟩]
          clear he HJ2
          subst hh
          go_wp2_with fail
          refine (HCH.out _).mono ?_
          rintro e w2 ⟨rfl, rfl⟩
          have hbb : (tb == tb) = true := by simp
          cases tb with
          | false =>
            have HV4 : Hid (instrV t = some ⟨j, 0⟩) := by show _ = _; rw [HV3.out]; rfl
            clear HV3
            go_wp2
            refine bodyPost_ret (v := .tuple #[.agg #[.int .u8 j, .int .i64 0], .bool true]) (by simp [results, Tryz.results143, go_sem, hc]) rfl ⟨?_, ?_⟩
            · exact ⟨j, 0, true, rfl, .inl ⟨HV4.out, rfl⟩⟩
            · exact below2 (below1 HW.out) (Nat.le_refl _) _ _
          | true =>
            go_wp2_with fail
            refine Calls.mono HWO.out ?_
            rintro e w3 ⟨⟨a, b, rfl, ht⟩, hb3⟩
            have hb4 : Below (w.alloc ZI).heap.size (w.alloc ZI) w3 := HW.out.trans (hb3.mono HW.out.size)
            obtain ⟨hc3, hfz3⟩ := bcell hb4
            have hz3 : w.heap.size < w3.heap.size := by have := hb4.size; simp at this; omega
            have HT : Hid ((instrV t = some ⟨j, a⟩ ∧ b = true) ∨ (instrV t = none ∧ b = false)) := by
              rcases ht with ⟨h1, h2⟩ | ⟨h1, h2⟩
              · refine .inl ⟨?_, h2⟩; rw [HV3.out]; unfold insV; rw [if_pos rfl, h1]
              · refine .inr ⟨?_, h2⟩; rw [HV3.out]; unfold insV; rw [if_pos rfl, h1]
            clear ht HV3
            go_wp2
            refine bodyPost_ret (v := .tuple #[.agg #[.int .u8 j, .int .i64 a], .bool b]) (by simp [results, Tryz.results143, go_sem, hc3]) rfl ⟨?_, ?_⟩
            · exact ⟨j, a, b, rfl, HT.out⟩
            · exact below2 (below1 hb4) (Nat.le_refl _) _ _
        · have HV3 : Hid (instrV t = instrFrom nm d has (j + 1) k) := by show _ = _; rw [HJ2.out, if_neg (fun h => hh h.2)]
          have hbb : (tb == has) = false := by simpa using hh
          clear he HJ2 hh
          go_wp2_with fail
          refine (HCH.out _).mono ?_
          rintro e w2 ⟨rfl, rfl⟩
          go_wp2
          go_roundw
          case rel => exact ⟨j + 1, k, by go_num, by omega, by omega, HV3, HW⟩
          case measure => simp [intOf]; omega
      · have HV3 : Hid (instrV t = instrFrom nm d has (j + 1) k) := by show _ = _; rw [HJ2.out, if_neg (fun h => he h.1)]
        have he' : (tn == nm) = false := beq_eq_false_iff_ne.2 he
        clear he HJ2
        go_wp2
        go_roundw
        case rel => exact ⟨j + 1, k, by go_num, by omega, by omega, HV3, HW⟩
        case measure => simp [intOf]; omega
end Go.Proofs.YtpkohocjgnodnaaGreatDoor
