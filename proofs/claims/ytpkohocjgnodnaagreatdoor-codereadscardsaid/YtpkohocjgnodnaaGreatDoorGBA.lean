/- The document's line: what is no line.; The document's line: an instruction with no procedure ahead. -/
import Derived.Test.YtpkohocjgnodnaaGreatDoorHZLin0
/- The document's line: what is no line. -/
namespace Go.Proofs.YtpkohocjgnodnaaGreatDoor
open Go.RowKit

set_option maxRecDepth 100000 in
set_option maxHeartbeats 8000000 in
theorem line_none (c : Cd) (s : List UInt8) (base : Nat) (v1 v2 v3 : Value) (vs : List Value) (w : World) (hl : s.length ≤ 140737488355328) (hO : OC w base v1 v2 v3 vs c) (hB : base ≤ w.heap.size)
    (_ : c.consts.length ≤ 1099511627776 ∧ c.globals.length ≤ 1099511627776 ∧ c.procs.length ≤ 1099511627776) (hpC : Lib.hasPrefix s constA = false) (hpG : Lib.hasPrefix s globA = false) (hpP : Lib.hasPrefix s procA = false) (hpI : Lib.hasPrefix s [32] = false) :
    Calls Tryz.prog 41 #[.agg #[v1, v2, v3], S s] w fun e w' => LineR (takeV c s) base e w' ∧ Below base w w' ∧ KC w w' := by
  obtain ⟨r1, d1, rfl⟩ := own_slice' hO.o1
  obtain ⟨r2, d2, rfl⟩ := own_slice' hO.o2
  obtain ⟨r3, d3, rfl⟩ := own_slice' hO.o3
  have HFC : Hid (∀ w1 : World, Calls Tryz.prog 90 #[S s, S [99, 111, 110, 115, 116, 32]] w1 fun e w' => e = .returned (.tuple #[S [], .bool false]) ∧ w' = w1) := fun w1 => by
    have := dCut_any s constA w1 (by omega)
    rw [hpC, if_neg Bool.false_ne_true] at this
    exact this
  have HFG : Hid (∀ w1 : World, Calls Tryz.prog 90 #[S s, S [103, 108, 111, 98, 97, 108, 32]] w1 fun e w' => e = .returned (.tuple #[S [], .bool false]) ∧ w' = w1) := fun w1 => by
    have := dCut_any s globA w1 (by omega)
    rw [hpG, if_neg Bool.false_ne_true] at this
    exact this
  have HFP : Hid (∀ w1 : World, Calls Tryz.prog 90 #[S s, S [112, 114, 111, 99, 32]] w1 fun e w' => e = .returned (.tuple #[S [], .bool false]) ∧ w' = w1) := fun w1 => by
    have := dCut_any s procA w1 (by omega)
    rw [hpP, if_neg Bool.false_ne_true] at this
    exact this
  have HFI : Hid (∀ w1 : World, Calls Tryz.prog 90 #[S s, S [32]] w1 fun e w' => e = .returned (.tuple #[S [], .bool false]) ∧ w' = w1) := fun w1 => by
    have := dCut_any s [32] w1 (by omega)
    rw [hpI, if_neg Bool.false_ne_true] at this
    exact this
  have HV : Hid (takeV c s = none) := by show _ = _; unfold takeV; rw [if_neg (by rw [hpC]; exact Bool.false_ne_true), if_neg (by rw [hpG]; exact Bool.false_ne_true), if_neg (by rw [hpP]; exact Bool.false_ne_true), if_neg (by rw [hpI]; exact Bool.false_ne_true)]
  generalize takeV c s = o at *
  have HL0 : Hid (LB w ((w.alloc (CO (.slice r1 c.consts.length d1) (.slice r2 c.procs.length d2) (.slice r3 c.globals.length d3))).alloc ZC) base w.heap.size (w.heap.size + 1) (.slice r1 c.consts.length d1) (.slice r2 c.procs.length d2) (.slice r3 c.globals.length d3)) := LB.new w base hB _ _ _
  have HO0 : Hid (OC ((w.alloc (CO (.slice r1 c.consts.length d1) (.slice r2 c.procs.length d2) (.slice r3 c.globals.length d3))).alloc ZC) base (.slice r1 c.consts.length d1) (.slice r2 c.procs.length d2) (.slice r3 c.globals.length d3) vs c) :=
    hO.below (((Below.refl _ w).alloc (Nat.le_refl _) _).alloc (by rw [World.size_alloc]; omega) _)
  have hsz : base ≤ ((w.alloc (CO (.slice r1 c.consts.length d1) (.slice r2 c.procs.length d2) (.slice r3 c.globals.length d3))).alloc ZC).heap.size := by rw [World.size_alloc, World.size_alloc]; omega
  clear hO hpC hpG hpP hpI
  go_enter Tryz.func41, Tryz.ntmps41
  go_wp2_with fail
  refine Calls.mono (HFC.out _) ?_
  rintro e w1 ⟨rfl, rfl⟩
  go_wp2_with fail
  refine Calls.mono (HFG.out _) ?_
  rintro e w1 ⟨rfl, rfl⟩
  go_wp2_with fail
  refine Calls.mono (HFP.out _) ?_
  rintro e w1 ⟨rfl, rfl⟩
  go_wp2_with fail
  refine Calls.mono (HFI.out _) ?_
  rintro e w1 ⟨rfl, hw1⟩
  have HL : Hid (LB w w1 base w.heap.size (w.heap.size + 1) (.slice r1 c.consts.length d1) (.slice r2 c.procs.length d2) (.slice r3 c.globals.length d3)) := by rw [hw1]; exact HL0
  have HO : Hid (OC w1 base (.slice r1 c.consts.length d1) (.slice r2 c.procs.length d2) (.slice r3 c.globals.length d3) vs c) := by rw [hw1]; exact HO0
  have hB1 : base ≤ w1.heap.size := by rw [hw1]; exact hsz
  clear hw1 hsz HL0 HO0 HFI HFC HFG HFP
  obtain ⟨⟨q0, q1, q2, f0, f1, f2⟩, z0, z1, z2, y0, y1, y2⟩ := HL.out.cells
  obtain ⟨hbl, hrl⟩ := HL.out.lt
  go_wp2
  refine bodyPost_ret (v := .tuple #[C3 r1 c.consts.length d1 r2 c.procs.length d2 r3 c.globals.length d3, .bool false]) (by simp [results, Tryz.results41, go_sem, z0, z1, z2]) rfl ⟨⟨_, _, _, _, _, _, _, _, _, _, rfl, .inr ⟨HV.out, rfl⟩⟩, HL.out.fin (by omega) (by omega) _ _ _⟩
end Go.Proofs.YtpkohocjgnodnaaGreatDoor

/- The document's line: an instruction with no procedure ahead. -/
namespace Go.Proofs.YtpkohocjgnodnaaGreatDoor
open Go.RowKit

set_option maxRecDepth 100000 in
set_option maxHeartbeats 8000000 in
theorem line_ins0 (c : Cd) (s : List UInt8) (base : Nat) (v1 v2 v3 : Value) (vs : List Value) (w : World) (hl : s.length ≤ 140737488355328) (hO : OC w base v1 v2 v3 vs c) (hB : base ≤ w.heap.size)
    (hn : c.procs.length = 0) (hpC : Lib.hasPrefix s constA = false) (hpG : Lib.hasPrefix s globA = false) (hpP : Lib.hasPrefix s procA = false) (hp : Lib.hasPrefix s [32] = true) :
    Calls Tryz.prog 41 #[.agg #[v1, v2, v3], S s] w fun e w' => LineR (takeV c s) base e w' ∧ Below base w w' ∧ KC w w' := by
  obtain ⟨r1, d1, rfl⟩ := own_slice' hO.o1
  obtain ⟨r2, d2, rfl⟩ := own_slice' hO.o2
  obtain ⟨r3, d3, rfl⟩ := own_slice' hO.o3
  have HN0 : Hid (c.procs.length = 0) := hn
  clear hn
  have HFC : Hid (∀ w1 : World, Calls Tryz.prog 90 #[S s, S [99, 111, 110, 115, 116, 32]] w1 fun e w' => e = .returned (.tuple #[S [], .bool false]) ∧ w' = w1) := fun w1 => by
    have := dCut_any s constA w1 (by omega)
    rw [hpC, if_neg Bool.false_ne_true] at this
    exact this
  have HFG : Hid (∀ w1 : World, Calls Tryz.prog 90 #[S s, S [103, 108, 111, 98, 97, 108, 32]] w1 fun e w' => e = .returned (.tuple #[S [], .bool false]) ∧ w' = w1) := fun w1 => by
    have := dCut_any s globA w1 (by omega)
    rw [hpG, if_neg Bool.false_ne_true] at this
    exact this
  have HFP : Hid (∀ w1 : World, Calls Tryz.prog 90 #[S s, S [112, 114, 111, 99, 32]] w1 fun e w' => e = .returned (.tuple #[S [], .bool false]) ∧ w' = w1) := fun w1 => by
    have := dCut_any s procA w1 (by omega)
    rw [hpP, if_neg Bool.false_ne_true] at this
    exact this
  have HK1 : Hid (∀ w1 : World, Calls Tryz.prog 90 #[S s, S [32]] w1 fun e w' => e = .returned (.tuple #[S (s.drop 1), .bool true]) ∧ w' = w1) := fun w1 => by
    have := dCut_any s [32] w1 (by omega)
    rw [hp, if_pos rfl] at this
    exact this
  have hdl : (s.drop 1).length ≤ 140737488355328 := by rw [List.length_drop]; omega
  have HT : Hid (takeV c s = takeI c (s.drop 1)) := by show _ = _; unfold takeV; rw [if_neg (by rw [hpC]; exact Bool.false_ne_true), if_neg (by rw [hpG]; exact Bool.false_ne_true), if_neg (by rw [hpP]; exact Bool.false_ne_true), if_pos hp]
  generalize s.drop 1 = t at *
  generalize takeV c s = o at *
  have HL0 : Hid (LB w ((w.alloc (CO (.slice r1 c.consts.length d1) (.slice r2 c.procs.length d2) (.slice r3 c.globals.length d3))).alloc ZC) base w.heap.size (w.heap.size + 1) (.slice r1 c.consts.length d1) (.slice r2 c.procs.length d2) (.slice r3 c.globals.length d3)) := LB.new w base hB _ _ _
  have HO0 : Hid (OC ((w.alloc (CO (.slice r1 c.consts.length d1) (.slice r2 c.procs.length d2) (.slice r3 c.globals.length d3))).alloc ZC) base (.slice r1 c.consts.length d1) (.slice r2 c.procs.length d2) (.slice r3 c.globals.length d3) vs c) :=
    hO.below (((Below.refl _ w).alloc (Nat.le_refl _) _).alloc (by rw [World.size_alloc]; omega) _)
  have hsz : base ≤ ((w.alloc (CO (.slice r1 c.consts.length d1) (.slice r2 c.procs.length d2) (.slice r3 c.globals.length d3))).alloc ZC).heap.size := by rw [World.size_alloc, World.size_alloc]; omega
  clear hO hpC hpG hpP hp
  go_enter Tryz.func41, Tryz.ntmps41
  go_wp2_with fail
  refine Calls.mono (HFC.out _) ?_
  rintro e w1 ⟨rfl, rfl⟩
  go_wp2_with fail
  refine Calls.mono (HFG.out _) ?_
  rintro e w1 ⟨rfl, rfl⟩
  go_wp2_with fail
  refine Calls.mono (HFP.out _) ?_
  rintro e w1 ⟨rfl, rfl⟩
  go_wp2_with fail
  refine Calls.mono (HK1.out _) ?_
  rintro e w1 ⟨rfl, hw1⟩
  have HL : Hid (LB w w1 base w.heap.size (w.heap.size + 1) (.slice r1 c.consts.length d1) (.slice r2 c.procs.length d2) (.slice r3 c.globals.length d3)) := by rw [hw1]; exact HL0
  have HO : Hid (OC w1 base (.slice r1 c.consts.length d1) (.slice r2 c.procs.length d2) (.slice r3 c.globals.length d3) vs c) := by rw [hw1]; exact HO0
  have hB1 : base ≤ w1.heap.size := by rw [hw1]; exact hsz
  clear hw1 hsz HL0 HO0 HK1 HFC HFG HFP
  have HV : Hid (o = none) := by
    show _ = _
    rw [HT.out]; unfold takeI
    cases instrV t with
    | none => rfl
    | some i => exact if_pos HN0.out
  rw [HN0.out] at HL
  obtain ⟨⟨q0, q1, q2, f0, f1, f2⟩, z0, z1, z2, y0, y1, y2⟩ := HL.out.cells
  obtain ⟨hbl, hrl⟩ := HL.out.lt
  clear HT
  go_wp2
  refine bodyPost_ret (v := .tuple #[C3 r1 c.consts.length d1 r2 0 d2 r3 c.globals.length d3, .bool false]) (by simp [results, Tryz.results41, go_sem, z0, z1, z2]) rfl ⟨⟨_, _, _, _, _, _, _, _, _, _, rfl, .inr ⟨HV.out, rfl⟩⟩, HL.out.fin (by omega) (by omega) _ _ _⟩
end Go.Proofs.YtpkohocjgnodnaaGreatDoor
