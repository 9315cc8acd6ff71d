/- The document's line: an instruction. -/
import Derived.Test.YtpkohocjgnodnaaGreatDoorHZLin0
namespace Go.Proofs.YtpkohocjgnodnaaGreatDoor
open Go.RowKit

set_option maxRecDepth 100000 in
set_option maxHeartbeats 8000000 in
theorem line_ins (cs : List Int) (ps : List Prc) (p : Prc) (gs : List (List UInt8)) (s : List UInt8) (base : Nat) (v1 v2 v3 : Value) (us : List Value) (u : Value) (w : World) (hl : s.length ≤ 140737488355328) (hO : OC w base v1 v2 v3 (us ++ [u]) ⟨cs, ps ++ [p], gs⟩) (hB : base ≤ w.heap.size)
    (hn1 : ps.length ≤ 1099511627776) (hn2 : p.code.length ≤ 1099511627776) (hpC : Lib.hasPrefix s constA = false) (hpG : Lib.hasPrefix s globA = false) (hpP : Lib.hasPrefix s procA = false) (hp : Lib.hasPrefix s [32] = true) :
    Calls Tryz.prog 41 #[.agg #[v1, v2, v3], S s] w fun e w' => LineR (takeV ⟨cs, ps ++ [p], gs⟩ s) base e w' ∧ Below base w w' ∧ KC w w' := by
  obtain ⟨r1, n1, d1, rfl⟩ : ∃ r n d, v1 = .slice r n d := by obtain ⟨r, d, h⟩ := own_slice' hO.o1; exact ⟨r, _, d, h⟩
  obtain ⟨r3, n3, d3, rfl⟩ : ∃ r n d, v3 = .slice r n d := by obtain ⟨r, d, h⟩ := own_slice' hO.o3; exact ⟨r, _, d, h⟩
  have ho2 := hO.o2
  rw [show (⟨cs, ps ++ [p], gs⟩ : Cd).procs.length = ps.length + 1 by simp] at ho2
  obtain ⟨g2, cap2, rfl, hg2b, hg2l⟩ := ho2.form (by omega)
  have HFC : Hid (∀ w1 : World, Calls Tryz.prog 90 #[S s, S [99, 111, 110, 115, 116, 32]] w1 fun e w' => e = .returned (.tuple #[S [], .bool false]) ∧ w' = w1) := fun w1 => by
    have := dCut_any s constA w1 (by omega)
    rw [hpC, if_neg Bool.false_ne_true] at this
    exact this
  have HFG : Hid (∀ w1 : World, Calls Tryz.prog 90 #[S s, S [103, 108, 111, 98, 97, 108, 32]] w1 fun e w' => e = .returned (.tuple #[S [], .bool false]) ∧ w' = w1) := fun w1 => by
    have := dCut_any s globA w1 (by omega)
    rw [hpG, if_neg Bool.false_ne_true] at this
    exact this
  have HFP : Hid (∀ w1 : World, Calls Tryz.prog 90 #[S s, S [112, 114, 111, 99, 32]] w1 fun e w' => e = .returned (.tuple #[S [], .bool false]) ∧ w' = w1) := fun w1 => by
    have := dCut_any s procA w1 (by omega)
    rw [hpP, if_neg Bool.false_ne_true] at this
    exact this
  have HK1 : Hid (∀ w1 : World, Calls Tryz.prog 90 #[S s, S [32]] w1 fun e w' => e = .returned (.tuple #[S (s.drop 1), .bool true]) ∧ w' = w1) := fun w1 => by
    have := dCut_any s [32] w1 (by omega)
    rw [hp, if_pos rfl] at this
    exact this
  have hdl : (s.drop 1).length ≤ 140737488355328 := by rw [List.length_drop]; omega
  have HT : Hid (takeV ⟨cs, ps ++ [p], gs⟩ s = takeI ⟨cs, ps ++ [p], gs⟩ (s.drop 1)) := by show _ = _; unfold takeV; rw [if_neg (by rw [hpC]; exact Bool.false_ne_true), if_neg (by rw [hpG]; exact Bool.false_ne_true), if_neg (by rw [hpP]; exact Bool.false_ne_true), if_pos hp]
  generalize s.drop 1 = t at *
  generalize takeV ⟨cs, ps ++ [p], gs⟩ s = o at *
  have HL0 : Hid (LB w ((w.alloc (CO (.slice r1 n1 d1) (.slice (some ⟨g2, 0, none⟩) (ps.length + 1) cap2) (.slice r3 n3 d3))).alloc ZC) base w.heap.size (w.heap.size + 1) (.slice r1 n1 d1) (.slice (some ⟨g2, 0, none⟩) (ps.length + 1) cap2) (.slice r3 n3 d3)) := LB.new w base hB _ _ _
  have HO0 : Hid (OC ((w.alloc (CO (.slice r1 n1 d1) (.slice (some ⟨g2, 0, none⟩) (ps.length + 1) cap2) (.slice r3 n3 d3))).alloc ZC) base (.slice r1 n1 d1) (.slice (some ⟨g2, 0, none⟩) (ps.length + 1) cap2) (.slice r3 n3 d3) (us ++ [u]) ⟨cs, ps ++ [p], gs⟩) :=
    hO.below (((Below.refl _ w).alloc (Nat.le_refl _) _).alloc (by rw [World.size_alloc]; omega) _)
  have hsz : base ≤ ((w.alloc (CO (.slice r1 n1 d1) (.slice (some ⟨g2, 0, none⟩) (ps.length + 1) cap2) (.slice r3 n3 d3))).alloc ZC).heap.size := by rw [World.size_alloc, World.size_alloc]; omega
  have hvl := hO.hv
  have hul : us.length = ps.length := by simpa using hvl
  have hu0 := hO.code ps.length p u (by simp) (by simp [← hul])
  have ub0 : ∀ g, u.ownBlock = some g → g < w.heap.size := fun g hg => (hu0.lt g hg).2
  have nbu : Hid (u.ownBlock ≠ some w.heap.size ∧ u.ownBlock ≠ some (w.heap.size + 1)) := ⟨fun e => by have := ub0 _ e; omega, fun e => by have := ub0 _ e; omega⟩
  have ng2 : Hid (g2 < w.heap.size) := hg2l
  have hg2C : ¬ isC w g2 := own_notC ho2 (by decide) rfl
  have HI : Hid (∀ w1 : World, Calls Tryz.prog 93 #[S t] w1 fun e w' => ToldN (instrV t) e ∧ Below w1.heap.size w1 w') := fun w1 => dInstr_any t w1 hdl
  clear ub0 hu0 hvl ho2 hg2l
  clear hO hpC hpG hpP hp
  go_enter Tryz.func41, Tryz.ntmps41
  go_wp2_with fail
  refine Calls.mono (HFC.out _) ?_
  rintro e w1 ⟨rfl, rfl⟩
  go_wp2_with fail
  refine Calls.mono (HFG.out _) ?_
  rintro e w1 ⟨rfl, rfl⟩
  go_wp2_with fail
  refine Calls.mono (HFP.out _) ?_
  rintro e w1 ⟨rfl, rfl⟩
  go_wp2_with fail
  refine Calls.mono (HK1.out _) ?_
  rintro e w1 ⟨rfl, hw1⟩
  have HL : Hid (LB w w1 base w.heap.size (w.heap.size + 1) (.slice r1 n1 d1) (.slice (some ⟨g2, 0, none⟩) (ps.length + 1) cap2) (.slice r3 n3 d3)) := by rw [hw1]; exact HL0
  have HO : Hid (OC w1 base (.slice r1 n1 d1) (.slice (some ⟨g2, 0, none⟩) (ps.length + 1) cap2) (.slice r3 n3 d3) (us ++ [u]) ⟨cs, ps ++ [p], gs⟩) := by rw [hw1]; exact HO0
  have hB1 : base ≤ w1.heap.size := by rw [hw1]; exact hsz
  clear hw1 hsz HL0 HO0 HK1 HFC HFG HFP
  obtain ⟨⟨q0, q1, q2, f0, f1, f2⟩, _⟩ := HL.out.cells
  obtain ⟨hbl, hrl⟩ := HL.out.lt
  have i3 : ((ps.length : Int) + 1 == 0) = false := by simp; omega
  go_wp2_with fail
  refine Calls.mono (HI.out _) ?_
  rintro e w0 ⟨⟨op, a, b, rfl, ht⟩, hb0⟩
  have HTt : Hid ((instrV t = some ⟨op, a⟩ ∧ b = true) ∨ (instrV t = none ∧ b = false)) := ht
  have HL2 : Hid (LB w w0 base w.heap.size (w.heap.size + 1) (.slice r1 n1 d1) (.slice (some ⟨g2, 0, none⟩) (ps.length + 1) cap2) (.slice r3 n3 d3)) := HL.out.below hb0 hB1
  have HO : Hid (OC w0 base (.slice r1 n1 d1) (.slice (some ⟨g2, 0, none⟩) (ps.length + 1) cap2) (.slice r3 n3 d3) (us ++ [u]) ⟨cs, ps ++ [p], gs⟩) := HO.out.below hb0
  have hB0 : base ≤ w0.heap.size := Nat.le_trans hB1 hb0.size
  clear hb0 ht HL HI q0 q1 q2 f0 f1 f2 hbl hrl
  obtain ⟨⟨q0, q1, q2, f0, f1, f2⟩, _⟩ := HL2.out.cells
  obtain ⟨hbl, hrl⟩ := HL2.out.lt
  have ho2 := HO.out.o2
  rw [show (⟨cs, ps ++ [p], gs⟩ : Cd).procs.length = ps.length + 1 by simp] at ho2
  have hg2l : g2 < w0.heap.size := (ho2.lt g2 rfl).2
  have m0 : w0.cell? ⟨g2, ps.length * 2 + 1, none⟩ = some u := by
    rw [ho2.cellAt (ps.length * 2 + 1) (by omega), show prcCells (⟨cs, ps ++ [p], gs⟩ : Cd).procs (us ++ [u]) = prcCells ps us ++ [.int .i64 p.params, u] from prcCells_snoc _ _ _ _ hul, List.getElem?_append_right (by rw [prcCells_len _ _ hul]; omega), prcCells_len _ _ hul]
    simp [show ps.length * 2 + 1 - ps.length * 2 = 1 by omega]
  have mf : w0.frozen? ⟨g2, ps.length * 2 + 1, none⟩ = false := ho2.frozenAt _
  have hu := HO.out.code ps.length p u (by simp) (by simp [← hul])
  have vb : ∀ g, u.ownBlock = some g → base ≤ g ∧ g < w0.heap.size := fun g hg => hu.lt g hg
  have hug : u.ownBlock ≠ some g2 := own_apart ho2 hu (by decide) rfl
  have HnC : Hid ((∀ g, isC w0 g → u.ownBlock ≠ some g) ∧ ¬ isC w g2) := ⟨fun g hc e => own_notC hu (by decide) e hc, hg2C⟩
  clear hg2C
  have HOu : Hid (∀ w3 : World, Below w0.heap.size w0 w3 → w3.ownsRow base 79 2 u p.code.length (insCells p.code) ∧ base ≤ w3.heap.size) := fun w3 h3 => ⟨own_same hu (fun g hg => h3.block g (vb g hg).2), Nat.le_trans hB0 h3.size⟩
  have HKp : Hid (∀ w3 : World, Below w0.heap.size w0 w3 → w3.cell? ⟨g2, ps.length * 2 + 1, none⟩ = some u ∧ w3.frozen? ⟨g2, ps.length * 2 + 1, none⟩ = false ∧ g2 < w3.heap.size) := fun w3 h3 => keepPp h3 ⟨m0, mf, hg2l⟩
  have HKb : Hid (∀ w3 : World, Below w0.heap.size w0 w3 → w3.cell? ⟨w.heap.size, 1, none⟩ = some (.slice (some ⟨g2, 0, none⟩) (ps.length + 1) cap2) ∧ w3.frozen? ⟨w.heap.size, 1, none⟩ = false ∧ w.heap.size < w3.heap.size) := fun w3 h3 => keepPp h3 ⟨q1, f1, hbl⟩
  have HSz : Hid (∀ (o o' : Obj), ((w0.alloc o).alloc o').drew.heap.size = w0.heap.size + 2) := fun o o' => by show ((w0.alloc o).alloc o').heap.size = _; rw [World.size_alloc, World.size_alloc]
  have HB3 : Hid (∀ (o o' : Obj), Below w0.heap.size w0 ((w0.alloc o).alloc o').drew) := fun o o' => (((Below.refl _ w0).alloc (Nat.le_refl _) o).alloc (by rw [World.size_alloc]; omega) o').drew
  have HC2 : Hid (∀ (o : Obj) (j : Nat) (y : Value), [.int .u8 op, .int .i64 a][j]? = some y → ((w0.alloc o).alloc (.cells #[.int .u8 op, .int .i64 a] 79)).drew.cell? ((⟨w0.heap.size + 1, 0, none⟩ : Addr).add j) = some y) := fun o j y h => cell_two_new (w0.alloc o) _ _ _ (w0.heap.size + 1) (World.size_alloc ..) j y h
  obtain ⟨i0, hi0, hz0, hz1, hz2⟩ := info_parts infoIn
  have i1 : (ps.length : Int) < (ps.length : Int) + 1 := by omega
  have i2 : (0 : Int) ≤ (ps.length : Int) := by omega
  have nbr : ¬ w.heap.size = g2 := fun e => by have := ng2.out; omega
  have nbr2 : ¬ w.heap.size + 1 = g2 := fun e => by have := ng2.out; omega
  clear ho2 hu hul
  go_upto_region 20 with fail
  go_region_law (refine step_append_lies _ rfl _ _ 62 rfl base 79 i0 (.agg #[.int .u8 0, .int .i64 0]) 2 16 Tryz.underlying62 hi0 hz0 hz1 hz2 rfl (by decide) u p.code.length (insCells p.code) rfl (HOu.out _ (HB3.out _ _)).1 ⟨_, 0, none⟩ 1 1 [.int .u8 op, .int .i64 a] rfl rfl (HC2.out _) (by intro x hx; simp at hx; rcases hx with rfl | rfl <;> rfl) (by omega) (by unfold maxLen; omega) (by omega) (HOu.out _ (HB3.out _ _)).2 _ rfl ?_; intro gg cap6 w6 hown hgr hat hlt6; obtain ⟨c6, f6, l6⟩ := keepGg hgr hug (HKp.out _ (HB3.out _ _)); obtain ⟨c7, f7, l7⟩ := keepGg hgr nbu.out.1 (HKb.out _ (HB3.out _ _)))
  all_goals
    have hk6 : ∀ g, g < w0.heap.size → u.ownBlock ≠ some g → w6.heap[g]? = w0.heap[g]? := fun g hg hv => (hgr.block g (by rw [HSz.out]; omega) (fun e => hv e.symm)).trans ((HB3.out _ _).block g hg)
    have s6 : w0.heap.size ≤ w6.heap.size := Nat.le_trans (by rw [HSz.out]; omega) hgr.size
    have hat' : Value.ownBlock (.slice (some ⟨gg, 0, none⟩) (p.code.length + 1) cap6) = u.ownBlock ∨ ∃ g, Value.ownBlock (.slice (some ⟨gg, 0, none⟩) (p.code.length + 1) cap6) = some g ∧ w0.heap.size ≤ g := by
      rcases hat with e | e
      · exact .inl (by rw [e]; rfl)
      · exact .inr ⟨gg, rfl, by rw [e, HSz.out]; omega⟩
    have HO7 : Hid (OC (w6.setCell ⟨g2, ps.length * 2 + 1, none⟩ (.slice (some ⟨gg, 0, none⟩) (p.code.length + 1) cap6)) base (.slice r1 n1 d1) (.slice (some ⟨g2, 0, none⟩) (ps.length + 1) cap2) (.slice r3 n3 d3) (us ++ [.slice (some ⟨gg, 0, none⟩) (p.code.length + 1) cap6]) ⟨cs, addLast ⟨op, a⟩ (ps ++ [p]), gs⟩) :=
      HO.out.put4 ⟨op, a⟩ (fun g _ hg hv => hk6 g hg hv) hown hat' rfl
    have hb6 : Below base w0 w6 := ⟨hgr.os, hgr.tape, hgr.output, s6, fun g hg => hk6 g (by omega) (fun e => by have := (vb g e).1; omega)⟩
    have HL7 : Hid (LB w (w6.setCell ⟨g2, ps.length * 2 + 1, none⟩ (.slice (some ⟨gg, 0, none⟩) (p.code.length + 1) cap6)) base w.heap.size (w.heap.size + 1) (.slice r1 n1 d1) (.slice (some ⟨g2, 0, none⟩) (ps.length + 1) cap2) (.slice r3 n3 d3)) :=
      ⟨(Below.heap_setCell _ _ _ _ nbr).trans ((hk6 _ hbl nbu.out.1).trans HL2.out.box), (Below.heap_setCell _ _ _ _ nbr2).trans ((hk6 _ hrl nbu.out.2).trans HL2.out.res), (HL2.out.b.trans hb6).setCell (p := ⟨g2, ps.length * 2 + 1, none⟩) hg2b _, fun g hg hc => (Below.heap_setCell _ _ _ _ (show g ≠ g2 from fun e => HnC.out.2 (by rw [← e]; exact hc))).trans ((hk6 g (Nat.lt_of_lt_of_le hg HL2.out.b.size) (HnC.out.1 g (by obtain ⟨cur, e⟩ := hc; exact ⟨cur, (HL2.out.kc g hg ⟨cur, e⟩).trans e⟩))).trans (HL2.out.kc g hg hc))⟩
    clear hown hgr hat hk6 vb hat' hb6 q0 q1 q2 f0 f1 f2 HL2 HO
    go_upto_region 21 with fail
    generalize w6.setCell ⟨g2, ps.length * 2 + 1, none⟩ (.slice (some ⟨gg, 0, none⟩) (p.code.length + 1) cap6) = w7 at *
    clear c6 f6 c7 f7 l7
    obtain ⟨⟨q0, q1, q2, f0, f1, f2⟩, z0, z1, z2, y0, y1, y2⟩ := HL7.out.cells
    obtain ⟨hbl7, hrl7⟩ := HL7.out.lt
    rcases HTt.out with ⟨h1, rfl⟩ | ⟨h1, rfl⟩
    · have HV : Hid (o = some ⟨cs, addLast ⟨op, a⟩ (ps ++ [p]), gs⟩) := by show _ = _; rw [HT.out]; unfold takeI; rw [h1]; exact if_neg (by simp)
      clear HT h1 HTt
      go_wp2
      refine bodyPost_ret (v := .tuple #[C3 r1 n1 d1 (some ⟨g2, 0, none⟩) (ps.length + 1) cap2 r3 n3 d3, .bool true]) (by simp [results, Tryz.results41, go_sem, z0, z1, z2]) rfl ⟨⟨_, _, _, _, _, _, _, _, _, _, rfl, .inl ⟨_, _, HV.out, rfl, (HO7.out.set3 HL7.out.isc.2 _ _ _)⟩⟩, HL7.out.fin (by omega) (by omega) _ _ _⟩
    · have HV : Hid (o = none) := by show _ = _; rw [HT.out]; unfold takeI; rw [h1]
      clear HT h1 HTt
      go_wp2
      refine bodyPost_ret (v := .tuple #[C3 r1 n1 d1 (some ⟨g2, 0, none⟩) (ps.length + 1) cap2 r3 n3 d3, .bool false]) (by simp [results, Tryz.results41, go_sem, z0, z1, z2]) rfl ⟨⟨_, _, _, _, _, _, _, _, _, _, rfl, .inr ⟨HV.out, rfl⟩⟩, HL7.out.fin (by omega) (by omega) _ _ _⟩
end Go.Proofs.YtpkohocjgnodnaaGreatDoor
