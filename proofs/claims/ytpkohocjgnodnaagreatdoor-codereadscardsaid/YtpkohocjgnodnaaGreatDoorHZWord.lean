/- The document's word. -/
import Derived.Test.YtpkohocjgnodnaaGreatDoorGAL
import Derived.Test.YtpkohocjgnodnaaGreatDoorGAW
import Derived.Test.YtpkohocjgnodnaaGreatDoorGAM
namespace Go.Proofs.YtpkohocjgnodnaaGreatDoor
open Go.RowKit

def nmA : List (List UInt8) := [[110, 105, 108], [102, 97, 108, 115, 101], [116, 114, 117, 101], [110, 111, 110, 101]]
def nmB : List (List UInt8) := [[105, 110, 116, 32], [115, 121, 109, 98, 111, 108, 32], [112, 114, 105, 109, 32]]
def wordB (t : List UInt8) : Nat → Nat → Option Int
  | _, 0 => none
  | k, j + 1 => if Lib.hasPrefix t (nmB.getD k []) = true then wordM ((k : Int) + 5) (numW (t.drop (nmB.getD k []).length)) else wordB t (k + 1) j
def wordA (t : List UInt8) : Nat → Nat → Option Int
  | _, 0 => wordB t 0 3
  | k, j + 1 => if t = nmA.getD k [] then wordN ((k : Int) + 1) 0 else wordA t (k + 1) j
theorem wordA_is (t : List UInt8) : wordA t 0 4 = constV t := by
  rw [← wordD_is]
  rfl
theorem tells_word (tag n : Int) : Tells (wordN tag n) (mkW tag n) (mkE tag n == 0) := by
  unfold Tells wordN
  by_cases h : mkE tag n = 0
  · exact .inl ⟨by rw [if_pos h], by rw [h]; rfl⟩
  · exact .inr ⟨by rw [if_neg h], by simpa using h⟩
/-- What stands behind the minus, and whether there is one. -/
theorem numW_minus {d : List UInt8} (h : Lib.hasPrefix d [45] = true) : numW d = match numD (d.drop 1) with | some n => (if n = 0 then none else some (-(n : Int))) | none => none := by
  unfold numW; rw [if_pos h]; cases numD (d.drop 1) <;> rfl
theorem numW_plain {d : List UInt8} (h : Lib.hasPrefix d [45] = false) : numW d = match numD d with | some n => some (n : Int) | none => none := by
  unfold numW; rw [if_neg (by rw [h]; exact Bool.false_ne_true)]; cases numD d <;> rfl
set_option maxRecDepth 100000 in
set_option maxHeartbeats 8000000 in
theorem dWord_any (t : List UInt8) (w : World) (hl : t.length ≤ 140737488355328) :
    Calls Tryz.prog 91 #[S t] w fun e w' => ToldW (constV t) e ∧ Below w.heap.size w w' := by
  have HM : Hid (∀ (tag n : Int) (w1 : World), 0 ≤ tag → tag ≤ 255 → Calls Tryz.prog 119 #[.int .u8 tag, .int .i64 n] w1 fun e w' => e = .returned (.tuple #[.int .u64 (mkW tag n), .int .i64 (mkE tag n)]) ∧ w' = w1) := fun tag n w1 h0 h1 => refMake_any tag n w1 h0 h1
  have HN : Hid (∀ (d : List UInt8) (w1 : World), d.length ≤ t.length → Calls Tryz.prog 120 #[S d] w1 fun e w' => e = .returned (numR (numD d)) ∧ w' = w1) := fun d w1 hd => dNumber_any (ByteArray.mk d.toArray) w1 (by show d.length ≤ _; omega)
  have HCu : Hid (∀ (d p : List UInt8) (w1 : World), d.length ≤ t.length → Calls Tryz.prog 90 #[S d, S p] w1 fun e w' => e = .returned (.tuple #[S (if Lib.hasPrefix d p = true then d.drop p.length else []), .bool (Lib.hasPrefix d p)]) ∧ w' = w1) := fun d p w1 hd => dCut_any d p w1 (by omega)
  have HA : Hid (wordA t 0 4 = constV t) := wordA_is t
  generalize constV t = o at HA
  have HB : Hid (∀ X Y : Obj, Below w.heap.size w ((w.alloc X).alloc Y)) := fun X Y => ((Below.refl _ w).alloc (Nat.le_refl _) _).alloc (by rw [World.size_alloc]; omega) _
  have HB2 : Hid (∀ X Y X2 Y2 : Obj, Below w.heap.size w ((((w.alloc X).alloc Y).alloc X2).alloc Y2)) := fun X Y X2 Y2 => ((((Below.refl _ w).alloc (Nat.le_refl _) _).alloc (by rw [World.size_alloc]; omega) _).alloc (by rw [World.size_alloc, World.size_alloc]; omega) _).alloc (by rw [World.size_alloc, World.size_alloc, World.size_alloc]; omega) _
  go_enter Tryz.func91, Tryz.ntmps91
  go_wp2_with fail
  go_loop [6] (fun i => ∃ k j : Nat, k + j = 4 ∧ i = .int .i64 k ∧ Hid (wordA t k j = o)) (fun i => 4 - (intOf i).toNat)
  case atStart => exact ⟨0, 4, rfl, rfl, HA⟩
  case round =>
    clear HA
    obtain ⟨k, j, hkj, rfl, H⟩ := hrel
    have hk : (k = 0 ∧ j = 4) ∨ (k = 1 ∧ j = 3) ∨ (k = 2 ∧ j = 2) ∨ (k = 3 ∧ j = 1) ∨ (k = 4 ∧ j = 0) := by omega
    clear hkj
    rcases hk with ⟨rfl, rfl⟩ | ⟨rfl, rfl⟩ | ⟨rfl, rfl⟩ | ⟨rfl, rfl⟩ | ⟨rfl, rfl⟩
    · by_cases c : t = [110, 105, 108]
      · have c1 : (t == [110, 105, 108]) = true := by simpa using c
        have HV : Hid (wordN 1 0 = o) := by show _ = _; rw [← H.out, c]; rfl
        clear c H
        go_wp2_with fail
        refine Calls.mono (HM.out 1 0 _ (by omega) (by omega)) ?_
        rintro e w1 ⟨rfl, rfl⟩
        have HT : Hid (Tells o (mkW 1 0) (mkE 1 0 == 0)) := by show Tells _ _ _; rw [← HV.out]; exact tells_word _ _
        generalize mkE 1 0 = m at *
        go_wp2
        go_ret2
        exact ⟨⟨_, _, rfl, HT.out⟩, HB.out _ _⟩
      · have c1 : (t == [110, 105, 108]) = false := by simpa using c
        have H2 : Hid (wordA t 1 3 = o) := by show _ = _; rw [← H.out]; exact (if_neg c).symm
        clear c H
        go_wp2
        go_round
        case rel => exact ⟨1, 3, rfl, rfl, H2⟩
        case measure => simp [intOf]
    · by_cases c : t = [102, 97, 108, 115, 101]
      · have c1 : (t == [102, 97, 108, 115, 101]) = true := by simpa using c
        have HV : Hid (wordN 2 0 = o) := by show _ = _; rw [← H.out, c]; rfl
        clear c H
        go_wp2_with fail
        refine Calls.mono (HM.out 2 0 _ (by omega) (by omega)) ?_
        rintro e w1 ⟨rfl, rfl⟩
        have HT : Hid (Tells o (mkW 2 0) (mkE 2 0 == 0)) := by show Tells _ _ _; rw [← HV.out]; exact tells_word _ _
        generalize mkE 2 0 = m at *
        go_wp2
        go_ret2
        exact ⟨⟨_, _, rfl, HT.out⟩, HB.out _ _⟩
      · have c1 : (t == [102, 97, 108, 115, 101]) = false := by simpa using c
        have H2 : Hid (wordA t 2 2 = o) := by show _ = _; rw [← H.out]; exact (if_neg c).symm
        clear c H
        go_wp2
        go_round
        case rel => exact ⟨2, 2, rfl, rfl, H2⟩
        case measure => simp [intOf]
    · by_cases c : t = [116, 114, 117, 101]
      · have c1 : (t == [116, 114, 117, 101]) = true := by simpa using c
        have HV : Hid (wordN 3 0 = o) := by show _ = _; rw [← H.out, c]; rfl
        clear c H
        go_wp2_with fail
        refine Calls.mono (HM.out 3 0 _ (by omega) (by omega)) ?_
        rintro e w1 ⟨rfl, rfl⟩
        have HT : Hid (Tells o (mkW 3 0) (mkE 3 0 == 0)) := by show Tells _ _ _; rw [← HV.out]; exact tells_word _ _
        generalize mkE 3 0 = m at *
        go_wp2
        go_ret2
        exact ⟨⟨_, _, rfl, HT.out⟩, HB.out _ _⟩
      · have c1 : (t == [116, 114, 117, 101]) = false := by simpa using c
        have H2 : Hid (wordA t 3 1 = o) := by show _ = _; rw [← H.out]; exact (if_neg c).symm
        clear c H
        go_wp2
        go_round
        case rel => exact ⟨3, 1, rfl, rfl, H2⟩
        case measure => simp [intOf]
    · by_cases c : t = [110, 111, 110, 101]
      · have c1 : (t == [110, 111, 110, 101]) = true := by simpa using c
        have HV : Hid (wordN 4 0 = o) := by show _ = _; rw [← H.out, c]; rfl
        clear c H
        go_wp2_with fail
        refine Calls.mono (HM.out 4 0 _ (by omega) (by omega)) ?_
        rintro e w1 ⟨rfl, rfl⟩
        have HT : Hid (Tells o (mkW 4 0) (mkE 4 0 == 0)) := by show Tells _ _ _; rw [← HV.out]; exact tells_word _ _
        generalize mkE 4 0 = m at *
        go_wp2
        go_ret2
        exact ⟨⟨_, _, rfl, HT.out⟩, HB.out _ _⟩
      · have c1 : (t == [110, 111, 110, 101]) = false := by simpa using c
        have H2 : Hid (wordA t 4 0 = o) := by show _ = _; rw [← H.out]; exact (if_neg c).symm
        clear c H
        go_wp2
        go_round
        case rel => exact ⟨4, 0, rfl, rfl, H2⟩
        case measure => simp [intOf]
    · have HW : Hid (wordB t 0 3 = o) := H
      clear H
      go_wp2_with fail
      go_loop [9, 10, 11] (fun i _ _ => ∃ k j : Nat, k + j = 3 ∧ i = .int .i64 k ∧ Hid (wordB t k j = o)) (fun i _ _ => 3 - (intOf i).toNat)
      case atStart => exact ⟨0, 3, rfl, rfl, HW⟩
      case round =>
        clear HW
        obtain ⟨k, j, hkj, rfl, H⟩ := hrel
        have hk : (k = 0 ∧ j = 3) ∨ (k = 1 ∧ j = 2) ∨ (k = 2 ∧ j = 1) ∨ (k = 3 ∧ j = 0) := by omega
        clear hkj
        rcases hk with ⟨rfl, rfl⟩ | ⟨rfl, rfl⟩ | ⟨rfl, rfl⟩ | ⟨rfl, rfl⟩
        · by_cases c : Lib.hasPrefix t [105, 110, 116, 32] = true
          · have HK : Hid (∀ w1 : World, Calls Tryz.prog 90 #[S t, S [105, 110, 116, 32]] w1 fun e w' => e = .returned (.tuple #[S (t.drop 4), .bool true]) ∧ w' = w1) := fun w1 => by
              have := HCu.out t [105, 110, 116, 32] w1 (Nat.le_refl _)
              rw [c, if_pos rfl] at this
              exact this
            have HF0 : Hid (o = wordM 5 (numW (t.drop 4))) := by show _ = _; rw [← H.out]; exact (if_pos c)
            have hrl : (t.drop 4).length ≤ t.length := by rw [List.length_drop]; omega
            clear c H
            go_wp2_with fail
            refine Calls.mono (HK.out _) ?_
            rintro e w1 ⟨rfl, rfl⟩
            clear HK
            generalize t.drop 4 = r at *
            by_cases c : Lib.hasPrefix r [45] = true
            · have HK : Hid (∀ w1 : World, Calls Tryz.prog 90 #[S r, S [45]] w1 fun e w' => e = .returned (.tuple #[S (r.drop 1), .bool true]) ∧ w' = w1) := fun w1 => by
                have := HCu.out r [45] w1 hrl
                rw [c, if_pos rfl] at this
                exact this
              have HF : Hid (o = wordM 5 (match numD (r.drop 1) with | some n => (if n = 0 then none else some (-(n : Int))) | none => none)) := by show _ = _; rw [HF0.out, numW_minus c]
              have hdl : (r.drop 1).length ≤ t.length := by rw [List.length_drop]; omega
              clear c HF0
              go_wp2_with fail
              refine Calls.mono (HK.out _) ?_
              rintro e w1 ⟨rfl, rfl⟩
              clear HK
              generalize r.drop 1 = d at *
              have hle := @numD_le (d)
              have HN2 : Hid (∀ w1 : World, Calls Tryz.prog 120 #[S d] w1 fun e w' => e = .returned (numR (numD d)) ∧ w' = w1) := fun w1 => HN.out d w1 hdl
              cases hd : numD (d) with
              | none =>
                rw [hd] at HN2 HF
                unfold numR at HN2
                have HV : Hid (o = none) := HF
                clear HF hle hd
                go_wp2_with fail
                refine Calls.mono (HN2.out _) ?_
                rintro e w1 ⟨rfl, rfl⟩
                go_wp2
                go_ret2
                exact ⟨⟨_, _, rfl, by rw [HV.out]; exact tells_none⟩, HB2.out _ _ _ _⟩
              | some n =>
                rw [hd] at HN2 HF
                unfold numR at HN2
                have hn := hle hd
                clear hle hd
                by_cases hz : n = 0
                · subst hz
                  have HV : Hid (o = none) := HF
                  clear HF
                  go_wp2_with fail
                  refine Calls.mono (HN2.out _) ?_
                  rintro e w1 ⟨rfl, rfl⟩
                  go_wp2
                  go_ret2
                  exact ⟨⟨_, _, rfl, by rw [HV.out]; exact tells_none⟩, HB2.out _ _ _ _⟩
                · have hz2 : ((n : Int) == 0) = false := by simpa using hz
                  have HV : Hid (o = wordN 5 (-(n : Int))) := by
                    show _ = _
                    rw [HF.out]
                    show wordM _ (if n = 0 then none else some (-(n : Int))) = _
                    rw [if_neg hz]; rfl
                  clear HF hz
                  go_wp2_with fail
                  refine Calls.mono (HN2.out _) ?_
                  rintro e w1 ⟨rfl, rfl⟩
                  go_wp2_with fail
                  refine Calls.mono (HM.out 5 (-(n : Int)) _ (by omega) (by omega)) ?_
                  rintro e w1 ⟨rfl, rfl⟩
                  have HT : Hid (Tells o (mkW 5 (-(n : Int))) (mkE 5 (-(n : Int)) == 0)) := by show Tells _ _ _; rw [HV.out]; exact tells_word _ _
                  generalize mkE 5 (-(n : Int)) = m at *
                  generalize mkW 5 (-(n : Int)) = mw at *
                  go_wp2
                  go_ret2
                  exact ⟨⟨_, _, rfl, HT.out⟩, HB2.out _ _ _ _⟩
            · have c' : Lib.hasPrefix r [45] = false := by simpa using c
              have HK : Hid (∀ w1 : World, Calls Tryz.prog 90 #[S r, S [45]] w1 fun e w' => e = .returned (.tuple #[S [], .bool false]) ∧ w' = w1) := fun w1 => by
                have := HCu.out r [45] w1 hrl
                rw [c', if_neg Bool.false_ne_true] at this
                exact this
              have HF : Hid (o = wordM 5 (match numD r with | some n => some (n : Int) | none => none)) := by show _ = _; rw [HF0.out, numW_plain c']
              have hdl : r.length ≤ t.length := hrl
              clear c c' HF0
              go_wp2_with fail
              refine Calls.mono (HK.out _) ?_
              rintro e w1 ⟨rfl, rfl⟩
              clear HK
              have hle := @numD_le (r)
              have HN2 : Hid (∀ w1 : World, Calls Tryz.prog 120 #[S r] w1 fun e w' => e = .returned (numR (numD r)) ∧ w' = w1) := fun w1 => HN.out r w1 hdl
              cases hd : numD (r) with
              | none =>
                rw [hd] at HN2 HF
                unfold numR at HN2
                have HV : Hid (o = none) := HF
                clear HF hle hd
                go_wp2_with fail
                refine Calls.mono (HN2.out _) ?_
                rintro e w1 ⟨rfl, rfl⟩
                go_wp2
                go_ret2
                exact ⟨⟨_, _, rfl, by rw [HV.out]; exact tells_none⟩, HB2.out _ _ _ _⟩
              | some n =>
                rw [hd] at HN2 HF
                unfold numR at HN2
                have hn := hle hd
                clear hle hd
                have HV : Hid (o = wordN 5 (n : Int)) := HF
                clear HF
                go_wp2_with fail
                refine Calls.mono (HN2.out _) ?_
                rintro e w1 ⟨rfl, rfl⟩
                go_wp2_with fail
                refine Calls.mono (HM.out 5 ((n : Int)) _ (by omega) (by omega)) ?_
                rintro e w1 ⟨rfl, rfl⟩
                have HT : Hid (Tells o (mkW 5 ((n : Int))) (mkE 5 ((n : Int)) == 0)) := by show Tells _ _ _; rw [HV.out]; exact tells_word _ _
                generalize mkE 5 ((n : Int)) = m at *
                generalize mkW 5 ((n : Int)) = mw at *
                go_wp2
                go_ret2
                exact ⟨⟨_, _, rfl, HT.out⟩, HB2.out _ _ _ _⟩
          · have c' : Lib.hasPrefix t [105, 110, 116, 32] = false := by simpa using c
            have HK : Hid (∀ w1 : World, Calls Tryz.prog 90 #[S t, S [105, 110, 116, 32]] w1 fun e w' => e = .returned (.tuple #[S [], .bool false]) ∧ w' = w1) := fun w1 => by
              have := HCu.out t [105, 110, 116, 32] w1 (Nat.le_refl _)
              rw [c', if_neg Bool.false_ne_true] at this
              exact this
            have H2 : Hid (wordB t 1 2 = o) := by show _ = _; rw [← H.out]; exact (if_neg c).symm
            clear c c' H
            go_wp2_with fail
            refine Calls.mono (HK.out _) ?_
            rintro e w1 ⟨rfl, rfl⟩
            go_wp2
            go_round
            case rel => exact ⟨1, 2, rfl, rfl, H2⟩
            case measure => simp [intOf]
        · by_cases c : Lib.hasPrefix t [115, 121, 109, 98, 111, 108, 32] = true
          · have HK : Hid (∀ w1 : World, Calls Tryz.prog 90 #[S t, S [115, 121, 109, 98, 111, 108, 32]] w1 fun e w' => e = .returned (.tuple #[S (t.drop 7), .bool true]) ∧ w' = w1) := fun w1 => by
              have := HCu.out t [115, 121, 109, 98, 111, 108, 32] w1 (Nat.le_refl _)
              rw [c, if_pos rfl] at this
              exact this
            have HF0 : Hid (o = wordM 6 (numW (t.drop 7))) := by show _ = _; rw [← H.out]; exact (if_pos c)
            have hrl : (t.drop 7).length ≤ t.length := by rw [List.length_drop]; omega
            clear c H
            go_wp2_with fail
            refine Calls.mono (HK.out _) ?_
            rintro e w1 ⟨rfl, rfl⟩
            clear HK
            generalize t.drop 7 = r at *
            by_cases c : Lib.hasPrefix r [45] = true
            · have HK : Hid (∀ w1 : World, Calls Tryz.prog 90 #[S r, S [45]] w1 fun e w' => e = .returned (.tuple #[S (r.drop 1), .bool true]) ∧ w' = w1) := fun w1 => by
                have := HCu.out r [45] w1 hrl
                rw [c, if_pos rfl] at this
                exact this
              have HF : Hid (o = wordM 6 (match numD (r.drop 1) with | some n => (if n = 0 then none else some (-(n : Int))) | none => none)) := by show _ = _; rw [HF0.out, numW_minus c]
              have hdl : (r.drop 1).length ≤ t.length := by rw [List.length_drop]; omega
              clear c HF0
              go_wp2_with fail
              refine Calls.mono (HK.out _) ?_
              rintro e w1 ⟨rfl, rfl⟩
              clear HK
              generalize r.drop 1 = d at *
              have hle := @numD_le (d)
              have HN2 : Hid (∀ w1 : World, Calls Tryz.prog 120 #[S d] w1 fun e w' => e = .returned (numR (numD d)) ∧ w' = w1) := fun w1 => HN.out d w1 hdl
              cases hd : numD (d) with
              | none =>
                rw [hd] at HN2 HF
                unfold numR at HN2
                have HV : Hid (o = none) := HF
                clear HF hle hd
                go_wp2_with fail
                refine Calls.mono (HN2.out _) ?_
                rintro e w1 ⟨rfl, rfl⟩
                go_wp2
                go_ret2
                exact ⟨⟨_, _, rfl, by rw [HV.out]; exact tells_none⟩, HB2.out _ _ _ _⟩
              | some n =>
                rw [hd] at HN2 HF
                unfold numR at HN2
                have hn := hle hd
                clear hle hd
                by_cases hz : n = 0
                · subst hz
                  have HV : Hid (o = none) := HF
                  clear HF
                  go_wp2_with fail
                  refine Calls.mono (HN2.out _) ?_
                  rintro e w1 ⟨rfl, rfl⟩
                  go_wp2
                  go_ret2
                  exact ⟨⟨_, _, rfl, by rw [HV.out]; exact tells_none⟩, HB2.out _ _ _ _⟩
                · have hz2 : ((n : Int) == 0) = false := by simpa using hz
                  have HV : Hid (o = wordN 6 (-(n : Int))) := by
                    show _ = _
                    rw [HF.out]
                    show wordM _ (if n = 0 then none else some (-(n : Int))) = _
                    rw [if_neg hz]; rfl
                  clear HF hz
                  go_wp2_with fail
                  refine Calls.mono (HN2.out _) ?_
                  rintro e w1 ⟨rfl, rfl⟩
                  go_wp2_with fail
                  refine Calls.mono (HM.out 6 (-(n : Int)) _ (by omega) (by omega)) ?_
                  rintro e w1 ⟨rfl, rfl⟩
                  have HT : Hid (Tells o (mkW 6 (-(n : Int))) (mkE 6 (-(n : Int)) == 0)) := by show Tells _ _ _; rw [HV.out]; exact tells_word _ _
                  generalize mkE 6 (-(n : Int)) = m at *
                  generalize mkW 6 (-(n : Int)) = mw at *
                  go_wp2
                  go_ret2
                  exact ⟨⟨_, _, rfl, HT.out⟩, HB2.out _ _ _ _⟩
            · have c' : Lib.hasPrefix r [45] = false := by simpa using c
              have HK : Hid (∀ w1 : World, Calls Tryz.prog 90 #[S r, S [45]] w1 fun e w' => e = .returned (.tuple #[S [], .bool false]) ∧ w' = w1) := fun w1 => by
                have := HCu.out r [45] w1 hrl
                rw [c', if_neg Bool.false_ne_true] at this
                exact this
              have HF : Hid (o = wordM 6 (match numD r with | some n => some (n : Int) | none => none)) := by show _ = _; rw [HF0.out, numW_plain c']
              have hdl : r.length ≤ t.length := hrl
              clear c c' HF0
              go_wp2_with fail
              refine Calls.mono (HK.out _) ?_
              rintro e w1 ⟨rfl, rfl⟩
              clear HK
              have hle := @numD_le (r)
              have HN2 : Hid (∀ w1 : World, Calls Tryz.prog 120 #[S r] w1 fun e w' => e = .returned (numR (numD r)) ∧ w' = w1) := fun w1 => HN.out r w1 hdl
              cases hd : numD (r) with
              | none =>
                rw [hd] at HN2 HF
                unfold numR at HN2
                have HV : Hid (o = none) := HF
                clear HF hle hd
                go_wp2_with fail
                refine Calls.mono (HN2.out _) ?_
                rintro e w1 ⟨rfl, rfl⟩
                go_wp2
                go_ret2
                exact ⟨⟨_, _, rfl, by rw [HV.out]; exact tells_none⟩, HB2.out _ _ _ _⟩
              | some n =>
                rw [hd] at HN2 HF
                unfold numR at HN2
                have hn := hle hd
                clear hle hd
                have HV : Hid (o = wordN 6 (n : Int)) := HF
                clear HF
                go_wp2_with fail
                refine Calls.mono (HN2.out _) ?_
                rintro e w1 ⟨rfl, rfl⟩
                go_wp2_with fail
                refine Calls.mono (HM.out 6 ((n : Int)) _ (by omega) (by omega)) ?_
                rintro e w1 ⟨rfl, rfl⟩
                have HT : Hid (Tells o (mkW 6 ((n : Int))) (mkE 6 ((n : Int)) == 0)) := by show Tells _ _ _; rw [HV.out]; exact tells_word _ _
                generalize mkE 6 ((n : Int)) = m at *
                generalize mkW 6 ((n : Int)) = mw at *
                go_wp2
                go_ret2
                exact ⟨⟨_, _, rfl, HT.out⟩, HB2.out _ _ _ _⟩
          · have c' : Lib.hasPrefix t [115, 121, 109, 98, 111, 108, 32] = false := by simpa using c
            have HK : Hid (∀ w1 : World, Calls Tryz.prog 90 #[S t, S [115, 121, 109, 98, 111, 108, 32]] w1 fun e w' => e = .returned (.tuple #[S [], .bool false]) ∧ w' = w1) := fun w1 => by
              have := HCu.out t [115, 121, 109, 98, 111, 108, 32] w1 (Nat.le_refl _)
              rw [c', if_neg Bool.false_ne_true] at this
              exact this
            have H2 : Hid (wordB t 2 1 = o) := by show _ = _; rw [← H.out]; exact (if_neg c).symm
            clear c c' H
            go_wp2_with fail
            refine Calls.mono (HK.out _) ?_
            rintro e w1 ⟨rfl, rfl⟩
            go_wp2
            go_round
            case rel => exact ⟨2, 1, rfl, rfl, H2⟩
            case measure => simp [intOf]
        · by_cases c : Lib.hasPrefix t [112, 114, 105, 109, 32] = true
          · have HK : Hid (∀ w1 : World, Calls Tryz.prog 90 #[S t, S [112, 114, 105, 109, 32]] w1 fun e w' => e = .returned (.tuple #[S (t.drop 5), .bool true]) ∧ w' = w1) := fun w1 => by
              have := HCu.out t [112, 114, 105, 109, 32] w1 (Nat.le_refl _)
              rw [c, if_pos rfl] at this
              exact this
            have HF0 : Hid (o = wordM 7 (numW (t.drop 5))) := by show _ = _; rw [← H.out]; exact (if_pos c)
            have hrl : (t.drop 5).length ≤ t.length := by rw [List.length_drop]; omega
            clear c H
            go_wp2_with fail
            refine Calls.mono (HK.out _) ?_
            rintro e w1 ⟨rfl, rfl⟩
            clear HK
            generalize t.drop 5 = r at *
            by_cases c : Lib.hasPrefix r [45] = true
            · have HK : Hid (∀ w1 : World, Calls Tryz.prog 90 #[S r, S [45]] w1 fun e w' => e = .returned (.tuple #[S (r.drop 1), .bool true]) ∧ w' = w1) := fun w1 => by
                have := HCu.out r [45] w1 hrl
                rw [c, if_pos rfl] at this
                exact this
              have HF : Hid (o = wordM 7 (match numD (r.drop 1) with | some n => (if n = 0 then none else some (-(n : Int))) | none => none)) := by show _ = _; rw [HF0.out, numW_minus c]
              have hdl : (r.drop 1).length ≤ t.length := by rw [List.length_drop]; omega
              clear c HF0
              go_wp2_with fail
              refine Calls.mono (HK.out _) ?_
              rintro e w1 ⟨rfl, rfl⟩
              clear HK
              generalize r.drop 1 = d at *
              have hle := @numD_le (d)
              have HN2 : Hid (∀ w1 : World, Calls Tryz.prog 120 #[S d] w1 fun e w' => e = .returned (numR (numD d)) ∧ w' = w1) := fun w1 => HN.out d w1 hdl
              cases hd : numD (d) with
              | none =>
                rw [hd] at HN2 HF
                unfold numR at HN2
                have HV : Hid (o = none) := HF
                clear HF hle hd
                go_wp2_with fail
                refine Calls.mono (HN2.out _) ?_
                rintro e w1 ⟨rfl, rfl⟩
                go_wp2
                go_ret2
                exact ⟨⟨_, _, rfl, by rw [HV.out]; exact tells_none⟩, HB2.out _ _ _ _⟩
              | some n =>
                rw [hd] at HN2 HF
                unfold numR at HN2
                have hn := hle hd
                clear hle hd
                by_cases hz : n = 0
                · subst hz
                  have HV : Hid (o = none) := HF
                  clear HF
                  go_wp2_with fail
                  refine Calls.mono (HN2.out _) ?_
                  rintro e w1 ⟨rfl, rfl⟩
                  go_wp2
                  go_ret2
                  exact ⟨⟨_, _, rfl, by rw [HV.out]; exact tells_none⟩, HB2.out _ _ _ _⟩
                · have hz2 : ((n : Int) == 0) = false := by simpa using hz
                  have HV : Hid (o = wordN 7 (-(n : Int))) := by
                    show _ = _
                    rw [HF.out]
                    show wordM _ (if n = 0 then none else some (-(n : Int))) = _
                    rw [if_neg hz]; rfl
                  clear HF hz
                  go_wp2_with fail
                  refine Calls.mono (HN2.out _) ?_
                  rintro e w1 ⟨rfl, rfl⟩
                  go_wp2_with fail
                  refine Calls.mono (HM.out 7 (-(n : Int)) _ (by omega) (by omega)) ?_
                  rintro e w1 ⟨rfl, rfl⟩
                  have HT : Hid (Tells o (mkW 7 (-(n : Int))) (mkE 7 (-(n : Int)) == 0)) := by show Tells _ _ _; rw [HV.out]; exact tells_word _ _
                  generalize mkE 7 (-(n : Int)) = m at *
                  generalize mkW 7 (-(n : Int)) = mw at *
                  go_wp2
                  go_ret2
                  exact ⟨⟨_, _, rfl, HT.out⟩, HB2.out _ _ _ _⟩
            · have c' : Lib.hasPrefix r [45] = false := by simpa using c
              have HK : Hid (∀ w1 : World, Calls Tryz.prog 90 #[S r, S [45]] w1 fun e w' => e = .returned (.tuple #[S [], .bool false]) ∧ w' = w1) := fun w1 => by
                have := HCu.out r [45] w1 hrl
                rw [c', if_neg Bool.false_ne_true] at this
                exact this
              have HF : Hid (o = wordM 7 (match numD r with | some n => some (n : Int) | none => none)) := by show _ = _; rw [HF0.out, numW_plain c']
              have hdl : r.length ≤ t.length := hrl
              clear c c' HF0
              go_wp2_with fail
              refine Calls.mono (HK.out _) ?_
              rintro e w1 ⟨rfl, rfl⟩
              clear HK
              have hle := @numD_le (r)
              have HN2 : Hid (∀ w1 : World, Calls Tryz.prog 120 #[S r] w1 fun e w' => e = .returned (numR (numD r)) ∧ w' = w1) := fun w1 => HN.out r w1 hdl
              cases hd : numD (r) with
              | none =>
                rw [hd] at HN2 HF
                unfold numR at HN2
                have HV : Hid (o = none) := HF
                clear HF hle hd
                go_wp2_with fail
                refine Calls.mono (HN2.out _) ?_
                rintro e w1 ⟨rfl, rfl⟩
                go_wp2
                go_ret2
                exact ⟨⟨_, _, rfl, by rw [HV.out]; exact tells_none⟩, HB2.out _ _ _ _⟩
              | some n =>
                rw [hd] at HN2 HF
                unfold numR at HN2
                have hn := hle hd
                clear hle hd
                have HV : Hid (o = wordN 7 (n : Int)) := HF
                clear HF
                go_wp2_with fail
                refine Calls.mono (HN2.out _) ?_
                rintro e w1 ⟨rfl, rfl⟩
                go_wp2_with fail
                refine Calls.mono (HM.out 7 ((n : Int)) _ (by omega) (by omega)) ?_
                rintro e w1 ⟨rfl, rfl⟩
                have HT : Hid (Tells o (mkW 7 ((n : Int))) (mkE 7 ((n : Int)) == 0)) := by show Tells _ _ _; rw [HV.out]; exact tells_word _ _
                generalize mkE 7 ((n : Int)) = m at *
                generalize mkW 7 ((n : Int)) = mw at *
                go_wp2
                go_ret2
                exact ⟨⟨_, _, rfl, HT.out⟩, HB2.out _ _ _ _⟩
          · have c' : Lib.hasPrefix t [112, 114, 105, 109, 32] = false := by simpa using c
            have HK : Hid (∀ w1 : World, Calls Tryz.prog 90 #[S t, S [112, 114, 105, 109, 32]] w1 fun e w' => e = .returned (.tuple #[S [], .bool false]) ∧ w' = w1) := fun w1 => by
              have := HCu.out t [112, 114, 105, 109, 32] w1 (Nat.le_refl _)
              rw [c', if_neg Bool.false_ne_true] at this
              exact this
            have H2 : Hid (wordB t 3 0 = o) := by show _ = _; rw [← H.out]; exact (if_neg c).symm
            clear c c' H
            go_wp2_with fail
            refine Calls.mono (HK.out _) ?_
            rintro e w1 ⟨rfl, rfl⟩
            go_wp2
            go_round
            case rel => exact ⟨3, 0, rfl, rfl, H2⟩
            case measure => simp [intOf]
        · have HV : Hid (o = none) := by show _ = _; rw [← H.out]; rfl
          clear H
          go_wp2
          go_ret2
          exact ⟨⟨_, _, rfl, by rw [HV.out]; exact tells_none⟩, HB2.out _ _ _ _⟩
end Go.Proofs.YtpkohocjgnodnaaGreatDoor
