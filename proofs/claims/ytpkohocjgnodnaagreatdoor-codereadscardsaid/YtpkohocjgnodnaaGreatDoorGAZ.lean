/- The document's line: a constant.; The document's line: a global.; The document's line: a procedure. -/
import Derived.Test.YtpkohocjgnodnaaGreatDoorHZLin0
/- The document's line: a constant. -/
namespace Go.Proofs.YtpkohocjgnodnaaGreatDoor
open Go.RowKit

set_option maxRecDepth 100000 in
set_option maxHeartbeats 8000000 in
theorem line_const (c : Cd) (s : List UInt8) (base : Nat) (v1 v2 v3 : Value) (vs : List Value) (w : World) (hl : s.length ≤ 140737488355328) (hO : OC w base v1 v2 v3 vs c) (hB : base ≤ w.heap.size)
    (hn : c.consts.length ≤ 1099511627776 ∧ c.globals.length ≤ 1099511627776 ∧ c.procs.length ≤ 1099511627776) (hp : Lib.hasPrefix s constA = true) :
    Calls Tryz.prog 41 #[.agg #[v1, v2, v3], S s] w fun e w' => LineR (takeV c s) base e w' ∧ Below base w w' ∧ KC w w' := by
  obtain ⟨r1, d1, rfl⟩ := own_slice' hO.o1
  obtain ⟨r2, d2, rfl⟩ := own_slice' hO.o2
  obtain ⟨r3, d3, rfl⟩ := own_slice' hO.o3
  have HK1 : Hid (∀ w1 : World, Calls Tryz.prog 90 #[S s, S [99, 111, 110, 115, 116, 32]] w1 fun e w' => e = .returned (.tuple #[S (s.drop 6), .bool true]) ∧ w' = w1) := fun w1 => by
    have := dCut_any s constA w1 (by omega)
    rw [hp, if_pos rfl] at this
    exact this
  have hdl : (s.drop 6).length ≤ 140737488355328 := by rw [List.length_drop]; omega
  have HW : Hid (∀ w1 : World, Calls Tryz.prog 91 #[S (s.drop 6)] w1 fun e w' => ToldW (constV (s.drop 6)) e ∧ Below w1.heap.size w1 w') := fun w1 => dWord_any _ w1 hdl
  have HT : Hid (takeV c s = takeC c (s.drop 6)) := by show _ = _; unfold takeV; rw [if_pos hp]
  generalize s.drop 6 = t at *
  generalize takeV c s = o at *
  obtain ⟨n1, n2, n3⟩ := hn
  have HL0 : Hid (LB w ((w.alloc (CO (.slice r1 c.consts.length d1) (.slice r2 c.procs.length d2) (.slice r3 c.globals.length d3))).alloc ZC) base w.heap.size (w.heap.size + 1) (.slice r1 c.consts.length d1) (.slice r2 c.procs.length d2) (.slice r3 c.globals.length d3)) := LB.new w base hB _ _ _
  have HO0 : Hid (OC ((w.alloc (CO (.slice r1 c.consts.length d1) (.slice r2 c.procs.length d2) (.slice r3 c.globals.length d3))).alloc ZC) base (.slice r1 c.consts.length d1) (.slice r2 c.procs.length d2) (.slice r3 c.globals.length d3) vs c) :=
    hO.below (((Below.refl _ w).alloc (Nat.le_refl _) _).alloc (by rw [World.size_alloc]; omega) _)
  have vb0 : ∀ g, Value.ownBlock (.slice r1 c.consts.length d1) = some g → g < w.heap.size := fun g hg => (hO.o1.lt g hg).2
  have nbc : Hid (Value.ownBlock (.slice r1 c.consts.length d1) ≠ some w.heap.size ∧ Value.ownBlock (.slice r1 c.consts.length d1) ≠ some (w.heap.size + 1)) := ⟨fun e => by have := vb0 _ e; omega, fun e => by have := vb0 _ e; omega⟩
  clear vb0 hO hp
  go_enter Tryz.func41, Tryz.ntmps41
  go_wp2_with fail
  refine Calls.mono (HK1.out _) ?_
  rintro e w1 ⟨rfl, rfl⟩
  go_wp2_with fail
  refine Calls.mono (HW.out _) ?_
  rintro e w1 ⟨⟨x, b, rfl, ht⟩, hb⟩
  have hsz : base ≤ ((w.alloc (CO (.slice r1 c.consts.length d1) (.slice r2 c.procs.length d2) (.slice r3 c.globals.length d3))).alloc ZC).heap.size := by rw [World.size_alloc, World.size_alloc]; omega
  have HL : Hid (LB w w1 base w.heap.size (w.heap.size + 1) (.slice r1 c.consts.length d1) (.slice r2 c.procs.length d2) (.slice r3 c.globals.length d3)) := HL0.out.below hb hsz
  have HO : Hid (OC w1 base (.slice r1 c.consts.length d1) (.slice r2 c.procs.length d2) (.slice r3 c.globals.length d3) vs c) := HO0.out.below hb
  have hB1 : base ≤ w1.heap.size := Nat.le_trans hsz hb.size
  clear hb hsz HL0 HO0 HW HK1
  obtain ⟨⟨q0, q1, q2, f0, f1, f2⟩, _⟩ := HL.out.cells
  obtain ⟨hbl, hrl⟩ := HL.out.lt
  obtain ⟨i0, hi0, hz0, hz1, hz2⟩ := info_parts infoW
  go_wp2_with (at_builtin; refine stop_of ?_)
  unfold Hid
  have vb : ∀ g, Value.ownBlock (.slice r1 c.consts.length d1) = some g → base ≤ g ∧ g < w1.heap.size := fun g hg => HO.out.o1.lt g hg
  refine wpList_append_lies _ rfl _ _ 22 rfl base 70 i0 (.int .u64 0) 1 8 Tryz.underlying22 hi0 hz0 hz1 hz2 rfl (by decide) (.slice r1 c.consts.length d1) c.consts.length (wordCells c.consts) rfl (HO.out.o1.alloc _) ⟨_, 0, none⟩ 1 1 [.int .u64 x] rfl rfl (cell_one_new w1 _ _ _ rfl) (by intro u hu; simp at hu; subst hu; rfl) (by omega) (by unfold maxLen; omega) (by omega) (by show base ≤ (w1.alloc _).heap.size; rw [World.size_alloc]; omega) _ rfl ?_
  intro gg cap6 w6 hown hgr hat hlt6
  have hk6 : ∀ g, g < w1.heap.size → Value.ownBlock (.slice r1 c.consts.length d1) ≠ some g → w6.heap[g]? = w1.heap[g]? := fun g hg hv => (hgr.block g (show g < (w1.alloc _).heap.size by rw [World.size_alloc]; omega) (fun e => hv e.symm)).trans (Below.heap_alloc _ _ _ hg)
  have s6 : w1.heap.size ≤ w6.heap.size := Nat.le_trans (by show _ ≤ (w1.alloc _).heap.size; rw [World.size_alloc]; exact Nat.le_succ _) hgr.size
  have hb6 : Below base w1 w6 := ⟨hgr.os, hgr.tape, hgr.output, s6, fun g hg => hk6 g (by omega) (fun e => by have := (vb g e).1; omega)⟩
  have HL7 : Hid (LB w (w6.setCell ⟨w.heap.size, 0, none⟩ (.slice (some ⟨gg, 0, none⟩) (c.consts.length + 1) cap6)) base w.heap.size (w.heap.size + 1) (.slice (some ⟨gg, 0, none⟩) (c.consts.length + 1) cap6) (.slice r2 c.procs.length d2) (.slice r3 c.globals.length d3)) :=
    HL.out.grown hk6 s6 hb6 nbc.out.1 nbc.out.2 (by omega) hB (fun g hc => fun e => own_notC HO.out.o1 (by decide) e hc) (Nat.le_refl _) 0 _ _ _ rfl
  have HO7 : Hid (OC (w6.setCell ⟨w.heap.size, 0, none⟩ (.slice (some ⟨gg, 0, none⟩) (c.consts.length + 1) cap6)) base (.slice (some ⟨gg, 0, none⟩) (c.consts.length + 1) cap6) (.slice r2 c.procs.length d2) (.slice r3 c.globals.length d3) vs ⟨c.consts ++ [x], c.procs, c.globals⟩) := by
    show OC _ _ _ _ _ _ _
    refine (HO.out.put1 x (fun g _ hg hv => hk6 g hg hv) hown).setC ?_
    exact ⟨_, (hk6 _ hbl nbc.out.1).trans HL.out.box⟩
  have hw6 := (hk6 _ hbl nbc.out.1).trans HL.out.box
  have c6 : w6.cell? ⟨w.heap.size, 0, none⟩ = some (.slice r1 c.consts.length d1) := by simp [World.cell?, hw6]
  have f6 : w6.frozen? ⟨w.heap.size, 0, none⟩ = false := by simp [World.frozen?, hw6]
  clear hown hgr hat hk6 hw6 vb hb6 q0 q1 q2 f0 f1 f2 HL HO
  go_upto_region 5 with fail
  generalize w6.setCell ⟨w.heap.size, 0, none⟩ (.slice (some ⟨gg, 0, none⟩) (c.consts.length + 1) cap6) = w7 at *
  clear c6 f6
  obtain ⟨⟨q0, q1, q2, f0, f1, f2⟩, z0, z1, z2, y0, y1, y2⟩ := HL7.out.cells
  obtain ⟨hbl7, hrl7⟩ := HL7.out.lt
  rcases ht with ⟨h1, rfl⟩ | ⟨h1, rfl⟩
  · by_cases hg : c.globals.length = 0
    · by_cases hp0 : c.procs.length = 0
      · have HV : Hid (o = some ⟨c.consts ++ [x], c.procs, c.globals⟩) := by show _ = _; rw [HT.out]; unfold takeC; rw [h1]; exact if_pos ⟨hg, hp0⟩
        clear h1 HT
        rw [hg] at q2
        rw [hp0] at q1
        rw [hg, hp0] at HO7 HL7
        go_region
        go_wp2_with fail
        refine bodyPost_ret (v := .tuple #[C3 (some ⟨gg, 0, none⟩) (c.consts.length + 1) cap6 r2 0 d2 r3 0 d3, .bool true]) (by simp [results, Tryz.results41, go_sem, z0, z1, z2]) rfl ⟨⟨_, _, _, _, _, _, _, _, _, _, rfl, .inl ⟨_, _, HV.out, rfl, (HO7.out.set3 HL7.out.isc.2 _ _ _).same (fun _ _ _ => rfl)⟩⟩, HL7.out.finD (by omega) (by omega) _ _ _⟩
      · have HV : Hid (o = none) := by show _ = _; rw [HT.out]; unfold takeC; rw [h1]; exact if_neg (fun h => hp0 h.2)
        rw [hg] at q2
        obtain ⟨m, hm⟩ : ∃ m, c.procs.length = m + 1 := ⟨c.procs.length - 1, by omega⟩
        rw [hm] at q1
        have i1 : ((m : Int) + 1 == 0) = false := by simp; omega
        clear h1 HT
        go_region
        go_wp2_with fail
        refine bodyPost_ret (v := .tuple #[C3 (some ⟨gg, 0, none⟩) (c.consts.length + 1) cap6 r2 (m + 1) d2 r3 0 d3, .bool false]) (by simp [results, Tryz.results41, go_sem, z0, z1, z2]) rfl ⟨⟨_, _, _, _, _, _, _, _, _, _, rfl, .inr ⟨HV.out, rfl⟩⟩, HL7.out.finD (by omega) (by omega) _ _ _⟩
    · have HV : Hid (o = none) := by show _ = _; rw [HT.out]; unfold takeC; rw [h1]; exact if_neg (fun h => hg h.1)
      obtain ⟨m, hm⟩ : ∃ m, c.globals.length = m + 1 := ⟨c.globals.length - 1, by omega⟩
      rw [hm] at q2
      have i1 : ((m : Int) + 1 == 0) = false := by simp; omega
      clear h1 HT
      go_region
      go_wp2_with fail
      refine bodyPost_ret (v := .tuple #[C3 (some ⟨gg, 0, none⟩) (c.consts.length + 1) cap6 r2 c.procs.length d2 r3 (m + 1) d3, .bool false]) (by simp [results, Tryz.results41, go_sem, z0, z1, z2]) rfl ⟨⟨_, _, _, _, _, _, _, _, _, _, rfl, .inr ⟨HV.out, rfl⟩⟩, HL7.out.finD (by omega) (by omega) _ _ _⟩
  · have HV : Hid (o = none) := by show _ = _; rw [HT.out]; unfold takeC; rw [h1]
    clear h1 HT
    go_region
    go_wp2_with fail
    refine bodyPost_ret (v := .tuple #[C3 (some ⟨gg, 0, none⟩) (c.consts.length + 1) cap6 r2 c.procs.length d2 r3 c.globals.length d3, .bool false]) (by simp [results, Tryz.results41, go_sem, z0, z1, z2]) rfl ⟨⟨_, _, _, _, _, _, _, _, _, _, rfl, .inr ⟨HV.out, rfl⟩⟩, HL7.out.finD (by omega) (by omega) _ _ _⟩
end Go.Proofs.YtpkohocjgnodnaaGreatDoor

/- The document's line: a global. -/
namespace Go.Proofs.YtpkohocjgnodnaaGreatDoor
open Go.RowKit

set_option maxRecDepth 100000 in
set_option maxHeartbeats 8000000 in
theorem line_glob (c : Cd) (s : List UInt8) (base : Nat) (v1 v2 v3 : Value) (vs : List Value) (w : World) (hl : s.length ≤ 140737488355328) (hO : OC w base v1 v2 v3 vs c) (hB : base ≤ w.heap.size)
    (hn : c.consts.length ≤ 1099511627776 ∧ c.globals.length ≤ 1099511627776 ∧ c.procs.length ≤ 1099511627776) (hpC : Lib.hasPrefix s constA = false) (hp : Lib.hasPrefix s globA = true) :
    Calls Tryz.prog 41 #[.agg #[v1, v2, v3], S s] w fun e w' => LineR (takeV c s) base e w' ∧ Below base w w' ∧ KC w w' := by
  obtain ⟨r1, d1, rfl⟩ := own_slice' hO.o1
  obtain ⟨r2, d2, rfl⟩ := own_slice' hO.o2
  obtain ⟨r3, d3, rfl⟩ := own_slice' hO.o3
  have HFC : Hid (∀ w1 : World, Calls Tryz.prog 90 #[S s, S [99, 111, 110, 115, 116, 32]] w1 fun e w' => e = .returned (.tuple #[S [], .bool false]) ∧ w' = w1) := fun w1 => by
    have := dCut_any s constA w1 (by omega)
    rw [hpC, if_neg Bool.false_ne_true] at this
    exact this
  have HK1 : Hid (∀ w1 : World, Calls Tryz.prog 90 #[S s, S [103, 108, 111, 98, 97, 108, 32]] w1 fun e w' => e = .returned (.tuple #[S (s.drop 7), .bool true]) ∧ w' = w1) := fun w1 => by
    have := dCut_any s globA w1 (by omega)
    rw [hp, if_pos rfl] at this
    exact this
  have hdl : (s.drop 7).length ≤ 140737488355328 := by rw [List.length_drop]; omega
  have HT : Hid (takeV c s = takeG c (s.drop 7)) := by show _ = _; unfold takeV; rw [if_neg (by rw [hpC]; exact Bool.false_ne_true), if_pos hp]
  obtain ⟨n1, n2, n3⟩ := hn
  generalize s.drop 7 = t at *
  generalize takeV c s = o at *
  have HL0 : Hid (LB w ((w.alloc (CO (.slice r1 c.consts.length d1) (.slice r2 c.procs.length d2) (.slice r3 c.globals.length d3))).alloc ZC) base w.heap.size (w.heap.size + 1) (.slice r1 c.consts.length d1) (.slice r2 c.procs.length d2) (.slice r3 c.globals.length d3)) := LB.new w base hB _ _ _
  have HO0 : Hid (OC ((w.alloc (CO (.slice r1 c.consts.length d1) (.slice r2 c.procs.length d2) (.slice r3 c.globals.length d3))).alloc ZC) base (.slice r1 c.consts.length d1) (.slice r2 c.procs.length d2) (.slice r3 c.globals.length d3) vs c) :=
    hO.below (((Below.refl _ w).alloc (Nat.le_refl _) _).alloc (by rw [World.size_alloc]; omega) _)
  have vb0 : ∀ g, Value.ownBlock (.slice r3 c.globals.length d3) = some g → g < w.heap.size := fun g hg => (hO.o3.lt g hg).2
  have nbc : Hid (Value.ownBlock (.slice r3 c.globals.length d3) ≠ some w.heap.size ∧ Value.ownBlock (.slice r3 c.globals.length d3) ≠ some (w.heap.size + 1)) := ⟨fun e => by have := vb0 _ e; omega, fun e => by have := vb0 _ e; omega⟩
  clear vb0
  have hsz : base ≤ ((w.alloc (CO (.slice r1 c.consts.length d1) (.slice r2 c.procs.length d2) (.slice r3 c.globals.length d3))).alloc ZC).heap.size := by rw [World.size_alloc, World.size_alloc]; omega
  clear hO hpC hp
  go_enter Tryz.func41, Tryz.ntmps41
  go_wp2_with fail
  refine Calls.mono (HFC.out _) ?_
  rintro e w1 ⟨rfl, rfl⟩
  go_wp2_with fail
  refine Calls.mono (HK1.out _) ?_
  rintro e w1 ⟨rfl, hw1⟩
  have HL : Hid (LB w w1 base w.heap.size (w.heap.size + 1) (.slice r1 c.consts.length d1) (.slice r2 c.procs.length d2) (.slice r3 c.globals.length d3)) := by rw [hw1]; exact HL0
  have HO : Hid (OC w1 base (.slice r1 c.consts.length d1) (.slice r2 c.procs.length d2) (.slice r3 c.globals.length d3) vs c) := by rw [hw1]; exact HO0
  have hB1 : base ≤ w1.heap.size := by rw [hw1]; exact hsz
  clear hw1 hsz HL0 HO0 HK1 HFC
  obtain ⟨⟨q0, q1, q2, f0, f1, f2⟩, _⟩ := HL.out.cells
  obtain ⟨hbl, hrl⟩ := HL.out.lt
  obtain ⟨i0, hi0, hz0, hz1, hz2⟩ := info_parts infoSt
  go_wp2_with (at_builtin; refine stop_of ?_)
  unfold Hid
  have vb : ∀ g, Value.ownBlock (.slice r3 c.globals.length d3) = some g → base ≤ g ∧ g < w1.heap.size := fun g hg => HO.out.o3.lt g hg
  refine wpList_append_lies _ rfl _ _ 24 rfl base 9 i0 (.string ⟨#[]⟩) 1 16 Tryz.underlying24 hi0 hz0 hz1 hz2 rfl (by decide) (.slice r3 c.globals.length d3) c.globals.length (c.globals.map S) rfl (HO.out.o3.alloc _) ⟨_, 0, none⟩ 1 1 [S t] rfl rfl (cell_one_new w1 _ _ _ rfl) (by intro u hu; simp at hu; subst hu; rfl) (by omega) (by unfold maxLen; omega) (by omega) (by show base ≤ (w1.alloc _).heap.size; rw [World.size_alloc]; omega) _ rfl ?_
  intro gg cap6 w6 hown hgr hat hlt6
  have hk6 : ∀ g, g < w1.heap.size → Value.ownBlock (.slice r3 c.globals.length d3) ≠ some g → w6.heap[g]? = w1.heap[g]? := fun g hg hv => (hgr.block g (show g < (w1.alloc _).heap.size by rw [World.size_alloc]; omega) (fun e => hv e.symm)).trans (Below.heap_alloc _ _ _ hg)
  have s6 : w1.heap.size ≤ w6.heap.size := Nat.le_trans (by show _ ≤ (w1.alloc _).heap.size; rw [World.size_alloc]; exact Nat.le_succ _) hgr.size
  have hb6 : Below base w1 w6 := ⟨hgr.os, hgr.tape, hgr.output, s6, fun g hg => hk6 g (by omega) (fun e => by have := (vb g e).1; omega)⟩
  have HL7 : Hid (LB w (w6.setCell ⟨w.heap.size, 2, none⟩ (.slice (some ⟨gg, 0, none⟩) (c.globals.length + 1) cap6)) base w.heap.size (w.heap.size + 1) (.slice r1 c.consts.length d1) (.slice r2 c.procs.length d2) (.slice (some ⟨gg, 0, none⟩) (c.globals.length + 1) cap6)) :=
    HL.out.grown hk6 s6 hb6 nbc.out.1 nbc.out.2 (by omega) hB (fun g hc => fun e => own_notC HO.out.o3 (by decide) e hc) (Nat.le_refl _) 2 _ _ _ rfl
  have HO7 : Hid (OC (w6.setCell ⟨w.heap.size, 2, none⟩ (.slice (some ⟨gg, 0, none⟩) (c.globals.length + 1) cap6)) base (.slice r1 c.consts.length d1) (.slice r2 c.procs.length d2) (.slice (some ⟨gg, 0, none⟩) (c.globals.length + 1) cap6) vs ⟨c.consts, c.procs, c.globals ++ [t]⟩) := by
    show OC _ _ _ _ _ _ _
    refine (HO.out.put3 t (fun g _ hg hv => hk6 g hg hv) hown).setC ?_
    exact ⟨_, (hk6 _ hbl nbc.out.1).trans HL.out.box⟩
  have hw6 := (hk6 _ hbl nbc.out.1).trans HL.out.box
  have c6 : w6.cell? ⟨w.heap.size, 2, none⟩ = some (.slice r3 c.globals.length d3) := by simp [World.cell?, hw6]
  have f6 : w6.frozen? ⟨w.heap.size, 2, none⟩ = false := by simp [World.frozen?, hw6]
  clear hown hgr hat hk6 hw6 vb hb6 q0 q1 q2 f0 f1 f2 HL HO
  go_upto_region 9 with fail
  generalize w6.setCell ⟨w.heap.size, 2, none⟩ (.slice (some ⟨gg, 0, none⟩) (c.globals.length + 1) cap6) = w7 at *
  clear c6 f6
  obtain ⟨⟨q0, q1, q2, f0, f1, f2⟩, z0, z1, z2, y0, y1, y2⟩ := HL7.out.cells
  obtain ⟨hbl7, hrl7⟩ := HL7.out.lt
  by_cases hp0 : c.procs.length = 0
  · have HV : Hid (o = some ⟨c.consts, c.procs, c.globals ++ [t]⟩) := by show _ = _; rw [HT.out]; exact if_pos hp0
    rw [hp0] at q1 HO7 HL7
    clear HT
    go_region
    go_wp2_with fail
    refine bodyPost_ret (v := .tuple #[C3 r1 c.consts.length d1 r2 0 d2 (some ⟨gg, 0, none⟩) (c.globals.length + 1) cap6, .bool true]) (by simp [results, Tryz.results41, go_sem, z0, z1, z2]) rfl ⟨⟨_, _, _, _, _, _, _, _, _, _, rfl, .inl ⟨_, _, HV.out, rfl, (HO7.out.set3 HL7.out.isc.2 _ _ _).same (fun _ _ _ => rfl)⟩⟩, HL7.out.finD (by omega) (by omega) _ _ _⟩
  · have HV : Hid (o = none) := by show _ = _; rw [HT.out]; exact if_neg hp0
    obtain ⟨m, hm⟩ : ∃ m, c.procs.length = m + 1 := ⟨c.procs.length - 1, by omega⟩
    rw [hm] at q1
    have i1 : ((m : Int) + 1 == 0) = false := by simp; omega
    clear HT
    go_region
    go_wp2_with fail
    refine bodyPost_ret (v := .tuple #[C3 r1 c.consts.length d1 r2 (m + 1) d2 (some ⟨gg, 0, none⟩) (c.globals.length + 1) cap6, .bool false]) (by simp [results, Tryz.results41, go_sem, z0, z1, z2]) rfl ⟨⟨_, _, _, _, _, _, _, _, _, _, rfl, .inr ⟨HV.out, rfl⟩⟩, HL7.out.finD (by omega) (by omega) _ _ _⟩
end Go.Proofs.YtpkohocjgnodnaaGreatDoor

/- The document's line: a procedure. -/
namespace Go.Proofs.YtpkohocjgnodnaaGreatDoor
open Go.RowKit

set_option maxRecDepth 100000 in
set_option maxHeartbeats 8000000 in
theorem line_proc (c : Cd) (s : List UInt8) (base : Nat) (v1 v2 v3 : Value) (vs : List Value) (w : World) (hl : s.length ≤ 140737488355328) (hO : OC w base v1 v2 v3 vs c) (hB : base ≤ w.heap.size)
    (hn : c.consts.length ≤ 1099511627776 ∧ c.globals.length ≤ 1099511627776 ∧ c.procs.length ≤ 1099511627776) (hpC : Lib.hasPrefix s constA = false) (hpG : Lib.hasPrefix s globA = false) (hp : Lib.hasPrefix s procA = true) :
    Calls Tryz.prog 41 #[.agg #[v1, v2, v3], S s] w fun e w' => LineR (takeV c s) base e w' ∧ Below base w w' ∧ KC w w' := by
  obtain ⟨r1, d1, rfl⟩ := own_slice' hO.o1
  obtain ⟨r2, d2, rfl⟩ := own_slice' hO.o2
  obtain ⟨r3, d3, rfl⟩ := own_slice' hO.o3
  have HFC : Hid (∀ w1 : World, Calls Tryz.prog 90 #[S s, S [99, 111, 110, 115, 116, 32]] w1 fun e w' => e = .returned (.tuple #[S [], .bool false]) ∧ w' = w1) := fun w1 => by
    have := dCut_any s constA w1 (by omega)
    rw [hpC, if_neg Bool.false_ne_true] at this
    exact this
  have HFG : Hid (∀ w1 : World, Calls Tryz.prog 90 #[S s, S [103, 108, 111, 98, 97, 108, 32]] w1 fun e w' => e = .returned (.tuple #[S [], .bool false]) ∧ w' = w1) := fun w1 => by
    have := dCut_any s globA w1 (by omega)
    rw [hpG, if_neg Bool.false_ne_true] at this
    exact this
  have HK1 : Hid (∀ w1 : World, Calls Tryz.prog 90 #[S s, S [112, 114, 111, 99, 32]] w1 fun e w' => e = .returned (.tuple #[S (s.drop 5), .bool true]) ∧ w' = w1) := fun w1 => by
    have := dCut_any s procA w1 (by omega)
    rw [hp, if_pos rfl] at this
    exact this
  have hdl : (s.drop 5).length ≤ 140737488355328 := by rw [List.length_drop]; omega
  have HT : Hid (takeV c s = takeP c (s.drop 5)) := by show _ = _; unfold takeV; rw [if_neg (by rw [hpC]; exact Bool.false_ne_true), if_neg (by rw [hpG]; exact Bool.false_ne_true), if_pos hp]
  have HS : Hid (∀ w1 : World, Calls Tryz.prog 92 #[S (s.drop 5)] w1 fun e w' => e = .returned (smallR (numD (s.drop 5))) ∧ w' = w1) := fun w1 => dSmall_any (ByteArray.mk (s.drop 5).toArray) w1 (by show (s.drop 5).length ≤ _; omega)
  have hle := @numD_le (s.drop 5)
  obtain ⟨n1, n2, n3⟩ := hn
  generalize s.drop 5 = t at *
  generalize takeV c s = o at *
  have HL0 : Hid (LB w ((w.alloc (CO (.slice r1 c.consts.length d1) (.slice r2 c.procs.length d2) (.slice r3 c.globals.length d3))).alloc ZC) base w.heap.size (w.heap.size + 1) (.slice r1 c.consts.length d1) (.slice r2 c.procs.length d2) (.slice r3 c.globals.length d3)) := LB.new w base hB _ _ _
  have HO0 : Hid (OC ((w.alloc (CO (.slice r1 c.consts.length d1) (.slice r2 c.procs.length d2) (.slice r3 c.globals.length d3))).alloc ZC) base (.slice r1 c.consts.length d1) (.slice r2 c.procs.length d2) (.slice r3 c.globals.length d3) vs c) :=
    hO.below (((Below.refl _ w).alloc (Nat.le_refl _) _).alloc (by rw [World.size_alloc]; omega) _)
  have vb0 : ∀ g, Value.ownBlock (.slice r2 c.procs.length d2) = some g → g < w.heap.size := fun g hg => (hO.o2.lt g hg).2
  have nbc : Hid (Value.ownBlock (.slice r2 c.procs.length d2) ≠ some w.heap.size ∧ Value.ownBlock (.slice r2 c.procs.length d2) ≠ some (w.heap.size + 1)) := ⟨fun e => by have := vb0 _ e; omega, fun e => by have := vb0 _ e; omega⟩
  clear vb0
  have hsz : base ≤ ((w.alloc (CO (.slice r1 c.consts.length d1) (.slice r2 c.procs.length d2) (.slice r3 c.globals.length d3))).alloc ZC).heap.size := by rw [World.size_alloc, World.size_alloc]; omega
  clear hO hpC hpG hp
  go_enter Tryz.func41, Tryz.ntmps41
  go_wp2_with fail
  refine Calls.mono (HFC.out _) ?_
  rintro e w1 ⟨rfl, rfl⟩
  go_wp2_with fail
  refine Calls.mono (HFG.out _) ?_
  rintro e w1 ⟨rfl, rfl⟩
  go_wp2_with fail
  refine Calls.mono (HK1.out _) ?_
  rintro e w1 ⟨rfl, hw1⟩
  have HL : Hid (LB w w1 base w.heap.size (w.heap.size + 1) (.slice r1 c.consts.length d1) (.slice r2 c.procs.length d2) (.slice r3 c.globals.length d3)) := by rw [hw1]; exact HL0
  have HO : Hid (OC w1 base (.slice r1 c.consts.length d1) (.slice r2 c.procs.length d2) (.slice r3 c.globals.length d3) vs c) := by rw [hw1]; exact HO0
  have hB1 : base ≤ w1.heap.size := by rw [hw1]; exact hsz
  clear hw1 hsz HL0 HO0 HK1 HFC HFG
  obtain ⟨x, b, hx, ht⟩ : ∃ (x : Int) (b : Bool), Hid (smallR (numD t) = .tuple #[.int .i64 x, .bool b]) ∧ Hid ((countV t = some x ∧ b = true) ∨ (countV t = none ∧ b = false)) := by
    rw [count_is]
    cases numD t with
    | none => exact ⟨0, false, rfl, .inr ⟨rfl, rfl⟩⟩
    | some n =>
      refine ⟨n, decide (n ≤ 2147483647), rfl, ?_⟩
      by_cases q : n ≤ 2147483647
      · exact .inl ⟨if_pos q, decide_eq_true q⟩
      · exact .inr ⟨if_neg q, decide_eq_false q⟩
  clear hle
  go_wp2_with fail
  refine Calls.mono (HS.out _) ?_
  rintro e w2 ⟨rfl, rfl⟩
  rw [hx.out]
  clear hx HS
  obtain ⟨⟨q0, q1, q2, f0, f1, f2⟩, _⟩ := HL.out.cells
  obtain ⟨hbl, hrl⟩ := HL.out.lt
  obtain ⟨i0, hi0, hz0, hz1, hz2⟩ := info_parts infoPr
  go_wp2_with (at_builtin; refine stop_of ?_)
  unfold Hid
  have vb : ∀ g, Value.ownBlock (.slice r2 c.procs.length d2) = some g → base ≤ g ∧ g < w2.heap.size := fun g hg => HO.out.o2.lt g hg
  refine wpList_append_lies _ rfl _ _ 23 rfl base 64 i0 (.agg #[.int .i64 0, .slice none 0 0]) 2 32 Tryz.underlying23 hi0 hz0 hz1 hz2 rfl (by decide) (.slice r2 c.procs.length d2) c.procs.length (prcCells c.procs vs) rfl (HO.out.o2.alloc _) ⟨_, 0, none⟩ 1 1 [.int .i64 x, .slice none 0 0] rfl rfl (cell_two_new _ _ _ _ _ rfl) (by intro u hu; simp at hu; rcases hu with rfl | rfl <;> rfl) (by omega) (by unfold maxLen; omega) (by omega) (by show base ≤ (w2.alloc _).heap.size; rw [World.size_alloc]; omega) _ rfl ?_
  intro gg cap6 w6 hown hgr hat hlt6
  have hk6 : ∀ g, g < w2.heap.size → Value.ownBlock (.slice r2 c.procs.length d2) ≠ some g → w6.heap[g]? = w2.heap[g]? := fun g hg hv => (hgr.block g (show g < (w2.alloc _).heap.size by rw [World.size_alloc]; omega) (fun e => hv e.symm)).trans (Below.heap_alloc _ _ _ hg)
  have s6 : w2.heap.size ≤ w6.heap.size := Nat.le_trans (by show _ ≤ (w2.alloc _).heap.size; rw [World.size_alloc]; exact Nat.le_succ _) hgr.size
  have hb6 : Below base w2 w6 := ⟨hgr.os, hgr.tape, hgr.output, s6, fun g hg => hk6 g (by omega) (fun e => by have := (vb g e).1; omega)⟩
  have HL7 : Hid (LB w (w6.setCell ⟨w.heap.size, 1, none⟩ (.slice (some ⟨gg, 0, none⟩) (c.procs.length + 1) cap6)) base w.heap.size (w.heap.size + 1) (.slice r1 c.consts.length d1) (.slice (some ⟨gg, 0, none⟩) (c.procs.length + 1) cap6) (.slice r3 c.globals.length d3)) :=
    HL.out.grown hk6 s6 hb6 nbc.out.1 nbc.out.2 (by omega) hB (fun g hc => fun e => own_notC HO.out.o2 (by decide) e hc) (Nat.le_refl _) 1 _ _ _ rfl
  have HO7 : Hid (OC (w6.setCell ⟨w.heap.size, 1, none⟩ (.slice (some ⟨gg, 0, none⟩) (c.procs.length + 1) cap6)) base (.slice r1 c.consts.length d1) (.slice (some ⟨gg, 0, none⟩) (c.procs.length + 1) cap6) (.slice r3 c.globals.length d3) (vs ++ [.slice none 0 0]) ⟨c.consts, c.procs ++ [⟨x, []⟩], c.globals⟩) := by
    show OC _ _ _ _ _ _ _
    refine (HO.out.put2 x (fun g _ hg hv => hk6 g hg hv) hown).setC ?_
    exact ⟨_, (hk6 _ hbl nbc.out.1).trans HL.out.box⟩
  have hw6 := (hk6 _ hbl nbc.out.1).trans HL.out.box
  have c6 : w6.cell? ⟨w.heap.size, 1, none⟩ = some (.slice r2 c.procs.length d2) := by simp [World.cell?, hw6]
  have f6 : w6.frozen? ⟨w.heap.size, 1, none⟩ = false := by simp [World.frozen?, hw6]
  clear hown hgr hat hk6 hw6 vb hb6 q0 q1 q2 f0 f1 f2 HL HO
  go_upto_region 14 with fail
  generalize w6.setCell ⟨w.heap.size, 1, none⟩ (.slice (some ⟨gg, 0, none⟩) (c.procs.length + 1) cap6) = w7 at *
  clear c6 f6
  obtain ⟨⟨q0, q1, q2, f0, f1, f2⟩, z0, z1, z2, y0, y1, y2⟩ := HL7.out.cells
  obtain ⟨hbl7, hrl7⟩ := HL7.out.lt
  rcases ht.out with ⟨h1, rfl⟩ | ⟨h1, rfl⟩
  · have HV : Hid (o = some ⟨c.consts, c.procs ++ [⟨x, []⟩], c.globals⟩) := by show _ = _; rw [HT.out]; unfold takeP; rw [h1]
    clear HT h1 ht
    go_wp2
    refine bodyPost_ret (v := .tuple #[C3 r1 c.consts.length d1 (some ⟨gg, 0, none⟩) (c.procs.length + 1) cap6 r3 c.globals.length d3, .bool true]) (by simp [results, Tryz.results41, go_sem, z0, z1, z2]) rfl ⟨⟨_, _, _, _, _, _, _, _, _, _, rfl, .inl ⟨_, _, HV.out, rfl, (HO7.out.set3 HL7.out.isc.2 _ _ _)⟩⟩, HL7.out.fin (by omega) (by omega) _ _ _⟩
  · have HV : Hid (o = none) := by show _ = _; rw [HT.out]; unfold takeP; rw [h1]
    clear HT h1 ht
    go_wp2
    refine bodyPost_ret (v := .tuple #[C3 r1 c.consts.length d1 (some ⟨gg, 0, none⟩) (c.procs.length + 1) cap6 r3 c.globals.length d3, .bool false]) (by simp [results, Tryz.results41, go_sem, z0, z1, z2]) rfl ⟨⟨_, _, _, _, _, _, _, _, _, _, rfl, .inr ⟨HV.out, rfl⟩⟩, HL7.out.fin (by omega) (by omega) _ _ _⟩
end Go.Proofs.YtpkohocjgnodnaaGreatDoor
