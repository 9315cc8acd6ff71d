/- The document's instr. -/
import Derived.Test.YtpkohocjgnodnaaGreatDoorGAL
import Derived.Test.YtpkohocjgnodnaaGreatDoorGAY
import Derived.Test.YtpkohocjgnodnaaGreatDoorGAM
namespace Go.Proofs.YtpkohocjgnodnaaGreatDoor
open Go.RowKit

theorem op_len : ∀ j : Nat, j < 19 → (opNames.getD j []).length ≤ 100 := by decide
theorem instD_step {t nm : List UInt8} {j k : Nat} {o : Option Ins} {hb : Bool} (h : instD t j (k + 1) = o) (hn : opNames.getD j [] = nm) (ho : opNumB j = hb) :
    (if hb = false ∧ t = nm then some ⟨(j : Int), 0⟩
    else if hb = true ∧ Lib.hasPrefix t (nm ++ [32]) = true then (match countV (t.drop (nm.length + 1)) with | some a => some ⟨(j : Int), a⟩ | none => none)
    else instD t (j + 1) k) = o := by
  rw [← h, ← hn, ← ho, instD]
  rfl
set_option maxRecDepth 100000 in
set_option maxHeartbeats 8000000 in
theorem dInstr_any (t : List UInt8) (w : World) (hl : t.length ≤ 140737488355328) :
    Calls Tryz.prog 93 #[S t] w fun e w' => ToldN (instrV t) e ∧ Below w.heap.size w w' := by
  have HS : Hid (∀ (d : List UInt8) (w1 : World), d.length ≤ t.length → Calls Tryz.prog 92 #[S d] w1 fun e w' => e = .returned (smallR (numD d)) ∧ w' = w1) := fun d w1 hd => dSmall_any (ByteArray.mk d.toArray) w1 (by show d.length ≤ _; omega)
  have HCu : Hid (∀ (d p : List UInt8) (w1 : World), d.length ≤ t.length → Calls Tryz.prog 90 #[S d, S p] w1 fun e w' => e = .returned (.tuple #[S (if Lib.hasPrefix d p = true then d.drop p.length else []), .bool (Lib.hasPrefix d p)]) ∧ w' = w1) := fun d p w1 hd => dCut_any d p w1 (by omega)
  have HA : Hid (instD t 1 18 = instrV t) := instD_is t 18 1 (Nat.le_refl _)
  generalize instrV t = o at HA
  have hal : Below w.heap.size w (w.alloc ZI) := (Below.refl _ w).alloc (Nat.le_refl _) ZI
  have HAl : Hid (Below w.heap.size w (w.alloc ZI)) := hal
  have HNm : Hid (Calls Tryz.prog 26 #[] (w.alloc ZI) fun e w' => (∃ b, e = .returned (.slice (some ⟨b, 0, none⟩) 19 19) ∧ NS w' b) ∧ Below (w.alloc ZI).heap.size (w.alloc ZI) w') := dNames_any _
  clear hal
  go_enter Tryz.func93, Tryz.ntmps93
  go_wp2_with fail
  refine Calls.mono HNm.out ?_
  rintro e w1 ⟨⟨bN, rfl, hns⟩, hb1⟩
  have HNS : Hid (NS w1 bN) := hns
  have hres : w1.heap[w.heap.size]? = some ZI := (hb1.block _ (by rw [World.size_alloc]; omega)).trans (heap_alloc_new w _)
  have hz : w.heap.size < w1.heap.size := by have := hb1.size; rw [World.size_alloc] at this; omega
  have z0 : w1.cell? ⟨w.heap.size, 0, none⟩ = some (.int .u8 0) := by simp [World.cell?, hres]
  have z1 : w1.cell? ⟨w.heap.size, 1, none⟩ = some (.int .i64 0) := by simp [World.cell?, hres]
  have y0 : w1.frozen? ⟨w.heap.size, 0, none⟩ = false := by simp [World.frozen?, hres]
  have y1 : w1.frozen? ⟨w.heap.size, 1, none⟩ = false := by simp [World.frozen?, hres]
  have HB : Hid (Below w.heap.size w w1) := HAl.out.trans (hb1.mono (by rw [World.size_alloc]; omega))
  have hbN : bN < w1.heap.size := by obtain ⟨cs, h, _⟩ := hns; exact (Array.getElem?_eq_some_iff.1 h).1
  clear hns hb1 hres HNm HAl
  go_wp2_with fail
  go_loop [5, 6, 7] (fun i _ _ => ∃ j k : Nat, j + k = 19 ∧ 1 ≤ j ∧ i = .int .i64 j ∧ Hid (instD t j k = o)) (fun i _ _ => 19 - (intOf i).toNat)
  case atStart => exact ⟨1, 18, rfl, Nat.le_refl _, rfl, HA⟩
  case round =>
    clear HA
    obtain ⟨j, k, hjk, hj1, rfl, H⟩ := hrel
    cases k with
    | zero =>
      have hj : j = 19 := by omega
      subst hj
      have HV : Hid (o = none) := by show _ = _; rw [← H.out]; rfl
      clear H
      go_wp2
      refine bodyPost_ret (v := .tuple #[.agg #[.int .u8 0, .int .i64 0], .bool false]) (by simp [results, Tryz.results93, go_sem, z0, z1]) rfl ⟨⟨0, 0, false, rfl, .inr ⟨HV.out, rfl⟩⟩, below2 HB.out (Nat.le_refl _) _ _⟩
    | succ k =>
      have hj19 : j < 19 := by omega
      have i1 : (j : Int) < 19 := by omega
      have hc : w1.cell? ⟨bN, j, none⟩ = some (S (opNames.getD j [])) := by
        obtain ⟨cs, h, h2⟩ := HNS.out
        simp [World.cell?, h, h2 j hj19]
      have hnl := op_len j hj19
      have HH : Hid (∀ w2 : World, Calls Tryz.prog 28 #[.int .u8 j] w2 fun e w' => e = .returned (.bool (opNumB j)) ∧ w' = w2) := fun w2 => dHas_any j w2
      have H0 := fun nm hb => @instD_step t nm j k o hb H.out
      generalize hno : opNames.getD j [] = nm at hc hnl H0
      generalize hho : opNumB (j : Int) = hb at HH H0
      have HI : Hid _ := H0 nm hb rfl rfl
      clear H0 hno hho H
      have r1 := add_run nm [32] (by omega) (by decide)
      have HCt : Hid (∀ w2 : World, Calls Tryz.prog 90 #[S t, S (nm ++ [32])] w2 fun e w' => e = .returned (.tuple #[S (if Lib.hasPrefix t (nm ++ [32]) = true then t.drop (nm ++ [32]).length else []), .bool (Lib.hasPrefix t (nm ++ [32]))]) ∧ w' = w2) := fun w2 => HCu.out t (nm ++ [32]) w2 (Nat.le_refl _)
      cases hb with
      | false =>
        by_cases c : t = nm
        · have c1 : (t == nm) = true := by simpa using c
          have HV : Hid (o = some ⟨(j : Int), 0⟩) := by show _ = _; rw [← HI.out, if_pos ⟨rfl, c⟩]
          clear c HI HCt
          go_wp2_with fail
          refine Calls.mono (HH.out _) ?_
          rintro e w2 ⟨rfl, rfl⟩
          go_wp2
          refine bodyPost_ret (v := .tuple #[.agg #[.int .u8 j, .int .i64 0], .bool true]) (by simp [results, Tryz.results93, go_sem, z0, z1]) rfl ⟨⟨j, 0, true, rfl, .inl ⟨HV.out, rfl⟩⟩, below2 HB.out (Nat.le_refl _) _ _⟩
        · have c1 : (t == nm) = false := by simpa using c
          have HV : Hid (instD t (j + 1) k = o) := by
            show _ = _
            rw [← HI.out, if_neg (fun q => c q.2), if_neg (fun q => absurd q.1 Bool.false_ne_true)]
          clear c HI
          generalize (if Lib.hasPrefix t (nm ++ [32]) = true then t.drop (nm ++ [32]).length else []) = rr at HCt
          generalize Lib.hasPrefix t (nm ++ [32]) = bp at HCt
          go_wp2_with fail
          refine Calls.mono (HH.out _) ?_
          rintro e w2 ⟨rfl, rfl⟩
          go_wp2_with fail
          refine Calls.mono (HCt.out _) ?_
          rintro e w2 ⟨rfl, rfl⟩
          go_wp2_with fail
          refine Calls.mono (HH.out _) ?_
          rintro e w2 ⟨rfl, rfl⟩
          go_wp2
          go_round
          case rel => exact ⟨j + 1, k, by omega, by omega, by go_num, HV⟩
          case measure => simp [intOf]; omega
      | true =>
        by_cases c : Lib.hasPrefix t (nm ++ [32]) = true
        · have HV0 : Hid (o = match countV (t.drop (nm.length + 1)) with | some a => some ⟨(j : Int), a⟩ | none => none) := by
            show _ = _
            rw [← HI.out, if_neg (fun q => absurd q.1 (by simp)), if_pos ⟨rfl, c⟩]
          rw [c, if_pos rfl, List.length_append, show [(32 : UInt8)].length = 1 from rfl] at HCt
          have hdl : (t.drop (nm.length + 1)).length ≤ t.length := by rw [List.length_drop]; omega
          clear c HI
          generalize t.drop (nm.length + 1) = d at *
          have HS2 : Hid (∀ w1 : World, Calls Tryz.prog 92 #[S d] w1 fun e w' => e = .returned (smallR (numD d)) ∧ w' = w1) := fun w1 => HS.out d w1 hdl
          rw [count_is] at HV0
          go_wp2_with fail
          refine Calls.mono (HH.out _) ?_
          rintro e w2 ⟨rfl, rfl⟩
          go_wp2_with fail
          refine Calls.mono (HCt.out _) ?_
          rintro e w2 ⟨rfl, rfl⟩
          go_wp2_with fail
          refine Calls.mono (HH.out _) ?_
          rintro e w2 ⟨rfl, rfl⟩
          go_wp2_with fail
          refine Calls.mono (HS2.out _) ?_
          rintro e w2 ⟨rfl, rfl⟩
          have hle := @numD_le d
          cases hd : numD d with
          | none =>
            rw [hd] at HV0
            have HV : Hid (o = none) := HV0
            clear HV0 hd hle
            unfold smallR
            go_wp2
            refine bodyPost_ret (v := .tuple #[.agg #[.int .u8 j, .int .i64 0], .bool false]) (by simp [results, Tryz.results93, go_sem, z0, z1]) rfl ⟨⟨j, 0, false, rfl, .inr ⟨HV.out, rfl⟩⟩, below2 HB.out (Nat.le_refl _) _ _⟩
          | some n =>
            rw [hd] at HV0
            have hn := hle hd
            have HT : Hid ((o = some ⟨(j : Int), (n : Int)⟩ ∧ decide (n ≤ 2147483647) = true) ∨ (o = none ∧ decide (n ≤ 2147483647) = false)) := by
              by_cases q : n ≤ 2147483647
              · refine .inl ⟨?_, decide_eq_true q⟩
                rw [HV0.out]
                show (match (if n ≤ 2147483647 then some (n : Int) else none) with | some a => some (⟨(j : Int), a⟩ : Ins) | none => none) = _
                rw [if_pos q]
              · refine .inr ⟨?_, decide_eq_false q⟩
                rw [HV0.out]
                show (match (if n ≤ 2147483647 then some (n : Int) else none) with | some a => some (⟨(j : Int), a⟩ : Ins) | none => none) = _
                rw [if_neg q]
            clear HV0 hd hle
            unfold smallR
            dsimp only
            generalize decide (n ≤ 2147483647) = ok at *
            go_wp2
            refine bodyPost_ret (v := .tuple #[.agg #[.int .u8 j, .int .i64 n], .bool ok]) (by simp [results, Tryz.results93, go_sem, z0, z1]) rfl ⟨⟨j, n, ok, rfl, HT.out⟩, below2 HB.out (Nat.le_refl _) _ _⟩
        · have c' : Lib.hasPrefix t (nm ++ [32]) = false := by simpa using c
          have HV : Hid (instD t (j + 1) k = o) := by
            show _ = _
            rw [← HI.out, if_neg (fun q => absurd q.1 (by simp)), if_neg (fun q => c q.2)]
          rw [c', if_neg Bool.false_ne_true] at HCt
          clear c c' HI
          go_wp2_with fail
          refine Calls.mono (HH.out _) ?_
          rintro e w2 ⟨rfl, rfl⟩
          go_wp2_with fail
          refine Calls.mono (HCt.out _) ?_
          rintro e w2 ⟨rfl, rfl⟩
          go_wp2_with fail
          refine Calls.mono (HH.out _) ?_
          rintro e w2 ⟨rfl, rfl⟩
          go_wp2
          go_round
          case rel => exact ⟨j + 1, k, by omega, by omega, by go_num, HV⟩
          case measure => simp [intOf]; omega
end Go.Proofs.YtpkohocjgnodnaaGreatDoor
