/- The walk of CodeByte: one byte turned. -/
import Derived.Test.YtnblieohdngmiaaGreatDoorHYMath
namespace Go.Proofs.YtnblieohdngmiaaGreatDoor
open Go.RowKit

theorem sameC_no {c d : Cd} (h : writtenT c ≠ writtenT d) : sameC c d = false := by
  cases hs : sameC c d
  · rfl
  · exact absurd (congrArg writtenT ((sameC_iff _ _).1 hs)) h
set_option maxRecDepth 100000 in
set_option maxHeartbeats 16000000 in
theorem codeByte_walk (c : Cd) (v : Value) (a : Int) (n : Nat) (w : World) (hE : Env w) (hv : CV w v c) (hx : ∀ t ∈ c.globals, t.length ≤ 281474976710656) (hz : c.consts.length ≤ 281474976710656 ∧ c.procs.length ≤ 281474976710656 ∧ c.globals.length ≤ 281474976710656) (hk : ∀ p ∈ c.procs, p.code.length ≤ 281474976710656)
    (hf : ∀ p ∈ c.procs, Fit64 p.params ∧ ∀ x ∈ p.code, Fit64 x.a) (hr : ∀ x ∈ c.consts, Rng x) (ha : -9223372036854775808 ≤ a ∧ a ≤ 9223372036854775807) (hn : n < 256) :
    Calls Tryz.prog 8 #[v, .int .i64 a, .int .u8 n] w fun e w' => e = .returned (.bool true) ∧ Below w.heap.size w w' := by
  have hv' := hv
  obtain ⟨⟨r1, c1, r2, c2, r3, c3, rfl, -, -, -, -⟩, -⟩ := hv'
  have HE : Hid (Env w) := hE
  have hal0 : Below w.heap.size w (w.alloc (CO (.slice r1 c.consts.length c1) (.slice r2 c.procs.length c2) (.slice r3 c.globals.length c3))) := (Below.refl _ w).alloc (Nat.le_refl _) _
  have HX0 : Hid (Bx w (w.alloc (CO (.slice r1 c.consts.length c1) (.slice r2 c.procs.length c2) (.slice r3 c.globals.length c3))) (CO (.slice r1 c.consts.length c1) (.slice r2 c.procs.length c2) (.slice r3 c.globals.length c3))) := ⟨hal0, heap_alloc_new _ _⟩
  have HV : Hid (∀ w5 : World, Below w.heap.size w w5 → CV w5 (.agg #[.slice r1 c.consts.length c1, .slice r2 c.procs.length c2, .slice r3 c.globals.length c3]) c) := fun w5 h5 => hv.below h5
  have HWk : Hid (Calls Tryz.prog 9 #[] (w.alloc (CO (.slice r1 c.consts.length c1) (.slice r2 c.procs.length c2) (.slice r3 c.globals.length c3))) fun e w' => e = .returned (.bool true) ∧ Below (w.alloc (CO (.slice r1 c.consts.length c1) (.slice r2 c.procs.length c2) (.slice r3 c.globals.length c3))).heap.size (w.alloc (CO (.slice r1 c.consts.length c1) (.slice r2 c.procs.length c2) (.slice r3 c.globals.length c3))) w') := works_any _ (hE.below hal0)
  have HOf : Hid (∀ w5 : World, Below w.heap.size w w5 → Calls Tryz.prog 10 #[(.agg #[.slice r1 c.consts.length c1, .slice r2 c.procs.length c2, .slice r3 c.globals.length c3])] w5 fun e w' => OfR 2251799813685248 (wtC c) e ∧ Below w5.heap.size w5 w') := fun w5 h5 => ofCode_any c _ w5 (hv.below h5) hx hz hk
  have HTx : Hid (wtC c ≤ 8388608 → ∀ w5 : World, Below w.heap.size w w5 → Calls Tryz.prog 15 #[(.agg #[.slice r1 c.consts.length c1, .slice r2 c.procs.length c2, .slice r3 c.globals.length c3])] w5 fun e w' => e = .returned (textV c) ∧ Below w5.heap.size w5 w') := fun hw w5 h5 => by
    have hen := HE.out.below h5
    have := written_len hf
    exact text_any c _ w5 (hv.below h5) hx hen.T hen.E hen.P hen.N hen.O hen.B (by omega)
  have HPo : Hid ((chkC c).1 = 0 → wtC c ≤ 8388608 → ∀ w5 : World, Below w.heap.size w w5 → Calls Tryz.prog 19 #[S (writtenT c)] w5 fun e w' => (∃ r1 n1 d1 r2 n2 d2 r3 n3 d3, e = .returned (.tuple #[.agg #[.slice r1 n1 d1, .slice r2 n2 d2, .slice r3 n3 d3], .int .i64 0, .int .i64 0]) ∧ CV w' (.agg #[.slice r1 n1 d1, .slice r2 n2 d2, .slice r3 n3 d3]) c) ∧ Below w5.heap.size w5 w') := fun hc hw w5 h5 => by
    have := written_len hf
    exact parse_own hc hr w5 (by omega) (HE.out.below h5)
  have HLn : Hid (wtC c ≤ 8388608 → (writtenT c).length ≤ 1099511627000) := fun hw => by have := written_len hf; omega
  have HSm : Hid (∀ (d : Cd) (vd : Value) (w5 : World), Below w.heap.size w w5 → CV w5 vd d → Calls Tryz.prog 20 #[(.agg #[.slice r1 c.consts.length c1, .slice r2 c.procs.length c2, .slice r3 c.globals.length c3]), vd] w5 fun e w' => e = .returned (.bool (sameC c d)) ∧ Below w5.heap.size w5 w') := fun d vd w5 h5 h6 => sameCode_any c d _ _ w5 (hv.below h5) h6
  clear hE hv hx hz hk hf hr hal0
  go_enter Tryz.func8, Tryz.ntmps8
  go_wp2_with fail
  refine Calls.mono HWk.out ?_
  rintro e w1 ⟨rfl, hb1⟩
  have HX1 : Hid (Bx w w1 (CO (.slice r1 c.consts.length c1) (.slice r2 c.procs.length c2) (.slice r3 c.globals.length c3))) := HX0.out.next hb1
  have y0 : w1.cell? ⟨w.heap.size, 0, none⟩ = some (.slice r1 c.consts.length c1) := heap_cell HX1.out.blk rfl
  have y1 : w1.cell? ⟨w.heap.size, 1, none⟩ = some (.slice r2 c.procs.length c2) := heap_cell HX1.out.blk rfl
  have y2 : w1.cell? ⟨w.heap.size, 2, none⟩ = some (.slice r3 c.globals.length c3) := heap_cell HX1.out.blk rfl
  clear HWk hb1 HX0
  go_wp2_with fail
  refine Calls.mono (HOf.out w1 HX1.out.bel) ?_
  rintro e w2 ⟨⟨m, rfl, hn1, hn2⟩, hb2⟩
  have HX2 : Hid (Bx w w2 (CO (.slice r1 c.consts.length c1) (.slice r2 c.procs.length c2) (.slice r3 c.globals.length c3))) := HX1.out.next hb2
  clear HX1 hb2 y0 y1 y2 HOf
  by_cases hbig : 8388608 < m
  · have i1 : (8388608 : Int) < (m : Int) := by omega
    go_wp2
    go_ret
    exact ⟨rfl, HX2.out.bel⟩
  have i1 : ¬ (8388608 : Int) < (m : Int) := by omega
  have hwt : wtC c ≤ 8388608 := by have := hn2 (by omega); omega
  have HWt : Hid (wtC c ≤ 8388608) := hwt
  have y0 : w2.cell? ⟨w.heap.size, 0, none⟩ = some (.slice r1 c.consts.length c1) := heap_cell HX2.out.blk rfl
  have y1 : w2.cell? ⟨w.heap.size, 1, none⟩ = some (.slice r2 c.procs.length c2) := heap_cell HX2.out.blk rfl
  have y2 : w2.cell? ⟨w.heap.size, 2, none⟩ = some (.slice r3 c.globals.length c3) := heap_cell HX2.out.blk rfl
  clear hbig hn1 hn2 hwt
  go_wp2_with fail
  refine Calls.mono (HTx.out HWt.out w2 HX2.out.bel) ?_
  rintro e w3 ⟨rfl, hb3⟩
  have HX3 : Hid (Bx w w3 (CO (.slice r1 c.consts.length c1) (.slice r2 c.procs.length c2) (.slice r3 c.globals.length c3))) := HX2.out.next hb3
  clear hb3 HX2 y0 y1 y2 HTx i1
  by_cases hck : ¬ (chkC c).1 = 0
  · rw [textV_no hck]
    generalize hec : (chkC c).1 = e0 at *
    have hne : (e0 != 0) = true := by simpa using hck
    clear hck HPo hec
    go_wp2
    go_ret
    exact ⟨rfl, HX3.out.bel⟩
  replace hck := Decidable.not_not.1 hck
  rw [textV_ok hck]
  have HCk : Hid ((chkC c).1 = 0) := hck
  clear hck
  have hlen := HLn.out HWt.out
  generalize hT : writtenT c = T at *
  have HT : Hid (writtenT c = T) := hT
  clear hT
  have hsz : (ByteArray.mk T.toArray).size = T.length := rfl
  by_cases hl0 : T.length = 0
  · have i0 : (T.length : Int) = 0 := by omega
    go_wp2
    go_ret
    exact ⟨rfl, HX3.out.bel⟩
  have i0 : ¬ (T.length : Int) = 0 := by omega
  have i0' : ((T.length : Int) == 0) = false := by simpa using i0
  obtain ⟨W4, cap, kcv, hby⟩ := bytes_of T w3
  have HBy : Hid (ByR w3 W4 T) := hby
  have HPk : Hid (Calls Tryz.prog 24 #[.int .i64 a, .int .i64 T.length] W4 fun e w' => PickR T.length e ∧ w' = W4) := pick_any a T.length W4 ha (by omega) (by omega)
  clear hby
  go_wp2_with fail
  refine Calls.mono HPk.out ?_
  rintro e w5 ⟨⟨k, hk, rfl⟩, rfl⟩
  have HX4 : Hid (Bx w w5 (CO (.slice r1 c.consts.length c1) (.slice r2 c.procs.length c2) (.slice r3 c.globals.length c3))) := HX3.out.next HBy.out.bel
  have hlt : w.heap.size < w3.heap.size := heap_lt HX3.out.blk
  have g1 := HBy.out.cell k hk
  have g2 := HBy.out.fz k hk
  have g3 := back_of HBy.out (n := n) hk hn cap
  have g4 : bits .xor .u8 ((T[k].toNat : Nat) : Int) (n : Int) = ((T[k].toNat ^^^ n : Nat) : Int) := u8_xor_nat _ _ T[k].toNat_lt hn
  have g5 : w3.heap.size < w5.heap.size := by rw [HBy.out.size]; omega
  have HTn : Hid (n ≠ 0 → turnT T k n ≠ T) := fun h => turnT_ne hk hn h
  have HTz : Hid (n = 0 → turnT T k n = T) := fun h => by rw [h]; exact turnT_zero T k
  have HTl : Hid ((turnT T k n).length = T.length) := turnT_len T k n
  generalize T[k].toNat = t0 at *
  generalize t0 ^^^ n = x0 at *
  generalize turnT T k n = U at *
  have i2 : (k : Int) < (T.length : Int) := by omega
  have HX5 : Hid (Bx w (w5.setCell ⟨w3.heap.size, k, none⟩ (.int .u8 (x0 : Int))) (CO (.slice r1 c.consts.length c1) (.slice r2 c.procs.length c2) (.slice r3 c.globals.length c3))) := ⟨HX4.out.bel.setCell (p := ⟨w3.heap.size, k, none⟩) (by show w.heap.size ≤ w3.heap.size; omega) _, (Below.heap_setCell _ _ _ _ (by show w.heap.size ≠ w3.heap.size; omega)).trans HX4.out.blk⟩
  clear HPk hk kcv HX4 HX3 HBy
  by_cases hn0 : n = 0
  · have hU : U = T := HTz.out hn0
    subst hU
    have HP5 : Hid (Calls Tryz.prog 19 #[S U] (w5.setCell ⟨w3.heap.size, k, none⟩ (.int .u8 (x0 : Int))) fun e w' => (∃ r1 n1 d1 r2 n2 d2 r3 n3 d3, e = .returned (.tuple #[.agg #[.slice r1 n1 d1, .slice r2 n2 d2, .slice r3 n3 d3], .int .i64 0, .int .i64 0]) ∧ CV w' (.agg #[.slice r1 n1 d1, .slice r2 n2 d2, .slice r3 n3 d3]) c) ∧ Below (w5.setCell ⟨w3.heap.size, k, none⟩ (.int .u8 (x0 : Int))).heap.size (w5.setCell ⟨w3.heap.size, k, none⟩ (.int .u8 (x0 : Int))) w') := HPo.out HCk.out HWt.out _ HX5.out.bel
    subst hn0
    have g4' : bits .xor .u8 (t0 : Int) 0 = (x0 : Int) := by simpa using g4
    clear HPo HTz HTn HTl g4
    go_wp2_with fail
    refine Calls.mono HP5.out ?_
    rintro e w6 ⟨⟨q1, k1, j1, q2, k2, j2, q3, k3, j3, rfl, hcv⟩, hb6⟩
    clear HP5 g1 g2 g3 g4' g5 i2
    have hal : Below w6.heap.size w6 (w6.alloc (CO (.slice q1 k1 j1) (.slice q2 k2 j2) (.slice q3 k3 j3))) := (Below.refl _ w6).alloc (Nat.le_refl _) _
    have hx6 := HX5.out.next hb6
    have HX6 : Hid (Bx w (w6.alloc (CO (.slice q1 k1 j1) (.slice q2 k2 j2) (.slice q3 k3 j3))) (CO (.slice r1 c.consts.length c1) (.slice r2 c.procs.length c2) (.slice r3 c.globals.length c3))) := hx6.next hal
    have y0 : w6.cell? ⟨w.heap.size, 0, none⟩ = some (.slice r1 c.consts.length c1) := heap_cell hx6.blk rfl
    have y1 : w6.cell? ⟨w.heap.size, 1, none⟩ = some (.slice r2 c.procs.length c2) := heap_cell hx6.blk rfl
    have y2 : w6.cell? ⟨w.heap.size, 2, none⟩ = some (.slice r3 c.globals.length c3) := heap_cell hx6.blk rfl
    have hl6 : w.heap.size < w6.heap.size := heap_lt hx6.blk
    have HK : Hid (Calls Tryz.prog 20 #[(.agg #[.slice r1 c.consts.length c1, .slice r2 c.procs.length c2, .slice r3 c.globals.length c3]), (.agg #[.slice q1 k1 j1, .slice q2 k2 j2, .slice q3 k3 j3])] (w6.alloc (CO (.slice q1 k1 j1) (.slice q2 k2 j2) (.slice q3 k3 j3))) fun e w' => e = .returned (.bool true) ∧ Below (w6.alloc (CO (.slice q1 k1 j1) (.slice q2 k2 j2) (.slice q3 k3 j3))).heap.size (w6.alloc (CO (.slice q1 k1 j1) (.slice q2 k2 j2) (.slice q3 k3 j3))) w') := by
      have := HSm.out c _ _ HX6.out.bel (hcv.below hal)
      rw [(sameC_iff _ _).2 rfl] at this
      exact this
    clear hb6 hal hx6 HX5
    go_wp2_with fail
    refine Calls.mono HK.out ?_
    rintro e w7 ⟨rfl, hb7⟩
    have HB7 : Hid (Below w.heap.size w w7) := HX6.out.bel.trans (hb7.mono HX6.out.bel.size)
    clear hb7 HK HX6 y0 y1 y2
    go_wp2
    go_ret
    exact ⟨rfl, HB7.out⟩
  · have hU : U ≠ T := HTn.out hn0
    have HP5 : Hid (Calls Tryz.prog 19 #[S U] (w5.setCell ⟨w3.heap.size, k, none⟩ (.int .u8 (x0 : Int))) fun e w' => BackR U e w' ∧ Below (w5.setCell ⟨w3.heap.size, k, none⟩ (.int .u8 (x0 : Int))).heap.size (w5.setCell ⟨w3.heap.size, k, none⟩ (.int .u8 (x0 : Int))) w') := parse_back U _ (by rw [HTl.out]; exact hlen) (HE.out.below HX5.out.bel)
    have HU : Hid (U ≠ T) := hU
    have hz0 : ((n : Int) == 0) = false := by simpa using hn0
    clear HPo HTz HTn HTl hn0 hU
    go_wp2_with fail
    refine Calls.mono HP5.out ?_
    rintro e w6 ⟨hbr, hb6⟩
    clear HP5 g1 g2 g3 g4 g5 i2
    rcases hbr with ⟨n0, hn0, rfl⟩ | rfl | rfl | ⟨q1, k1, j1, q2, k2, j2, q3, k3, j3, d, rfl, hcv, hwr, hck, hgl⟩
    · have hal : Below w6.heap.size w6 (w6.alloc ZC) := (Below.refl _ w6).alloc (Nat.le_refl _) _
      have hx6 := HX5.out.next hb6
      have HX6 : Hid (Bx w (w6.alloc ZC) (CO (.slice r1 c.consts.length c1) (.slice r2 c.procs.length c2) (.slice r3 c.globals.length c3))) := hx6.next hal
      have y0 : w6.cell? ⟨w.heap.size, 0, none⟩ = some (.slice r1 c.consts.length c1) := heap_cell hx6.blk rfl
      have y1 : w6.cell? ⟨w.heap.size, 1, none⟩ = some (.slice r2 c.procs.length c2) := heap_cell hx6.blk rfl
      have y2 : w6.cell? ⟨w.heap.size, 2, none⟩ = some (.slice r3 c.globals.length c3) := heap_cell hx6.blk rfl
      have hl6 : w.heap.size < w6.heap.size := heap_lt hx6.blk
      unfold nilC
      have HK : Hid (Calls Tryz.prog 20 #[(.agg #[.slice r1 c.consts.length c1, .slice r2 c.procs.length c2, .slice r3 c.globals.length c3]), (.agg #[.slice none 0 0, .slice none 0 0, .slice none 0 0])] (w6.alloc ZC) fun e w' => e = .returned (.bool (sameC c noCd)) ∧ Below (w6.alloc ZC).heap.size (w6.alloc ZC) w') := by
        have := HSm.out noCd nilC _ HX6.out.bel (nil_cv _)
        unfold nilC at this
        exact this
      generalize sameC c noCd = bb at *
      clear hb6 hal hx6 HX5
      go_wp2_with fail
      refine Calls.mono HK.out ?_
      rintro e w7 ⟨rfl, hb7⟩
      have HB7 : Hid (Below w.heap.size w w7) := HX6.out.bel.trans (hb7.mono HX6.out.bel.size)
      clear hb7 HK HX6 y0 y1 y2
      go_wp2
      go_ret
      exact ⟨rfl, HB7.out⟩
    · have hal : Below w6.heap.size w6 (w6.alloc ZC) := (Below.refl _ w6).alloc (Nat.le_refl _) _
      have hx6 := HX5.out.next hb6
      have HX6 : Hid (Bx w (w6.alloc ZC) (CO (.slice r1 c.consts.length c1) (.slice r2 c.procs.length c2) (.slice r3 c.globals.length c3))) := hx6.next hal
      have y0 : w6.cell? ⟨w.heap.size, 0, none⟩ = some (.slice r1 c.consts.length c1) := heap_cell hx6.blk rfl
      have y1 : w6.cell? ⟨w.heap.size, 1, none⟩ = some (.slice r2 c.procs.length c2) := heap_cell hx6.blk rfl
      have y2 : w6.cell? ⟨w.heap.size, 2, none⟩ = some (.slice r3 c.globals.length c3) := heap_cell hx6.blk rfl
      have hl6 : w.heap.size < w6.heap.size := heap_lt hx6.blk
      unfold nilC
      have HK : Hid (Calls Tryz.prog 20 #[(.agg #[.slice r1 c.consts.length c1, .slice r2 c.procs.length c2, .slice r3 c.globals.length c3]), (.agg #[.slice none 0 0, .slice none 0 0, .slice none 0 0])] (w6.alloc ZC) fun e w' => e = .returned (.bool (sameC c noCd)) ∧ Below (w6.alloc ZC).heap.size (w6.alloc ZC) w') := by
        have := HSm.out noCd nilC _ HX6.out.bel (nil_cv _)
        unfold nilC at this
        exact this
      generalize sameC c noCd = bb at *
      clear hb6 hal hx6 HX5
      go_wp2_with fail
      refine Calls.mono HK.out ?_
      rintro e w7 ⟨rfl, hb7⟩
      have HB7 : Hid (Below w.heap.size w w7) := HX6.out.bel.trans (hb7.mono HX6.out.bel.size)
      clear hb7 HK HX6 y0 y1 y2
      go_wp2
      go_ret
      exact ⟨rfl, HB7.out⟩
    · have hal : Below w6.heap.size w6 (w6.alloc ZC) := (Below.refl _ w6).alloc (Nat.le_refl _) _
      have hx6 := HX5.out.next hb6
      have HX6 : Hid (Bx w (w6.alloc ZC) (CO (.slice r1 c.consts.length c1) (.slice r2 c.procs.length c2) (.slice r3 c.globals.length c3))) := hx6.next hal
      have y0 : w6.cell? ⟨w.heap.size, 0, none⟩ = some (.slice r1 c.consts.length c1) := heap_cell hx6.blk rfl
      have y1 : w6.cell? ⟨w.heap.size, 1, none⟩ = some (.slice r2 c.procs.length c2) := heap_cell hx6.blk rfl
      have y2 : w6.cell? ⟨w.heap.size, 2, none⟩ = some (.slice r3 c.globals.length c3) := heap_cell hx6.blk rfl
      have hl6 : w.heap.size < w6.heap.size := heap_lt hx6.blk
      unfold nilC
      have HK : Hid (Calls Tryz.prog 20 #[(.agg #[.slice r1 c.consts.length c1, .slice r2 c.procs.length c2, .slice r3 c.globals.length c3]), (.agg #[.slice none 0 0, .slice none 0 0, .slice none 0 0])] (w6.alloc ZC) fun e w' => e = .returned (.bool (sameC c noCd)) ∧ Below (w6.alloc ZC).heap.size (w6.alloc ZC) w') := by
        have := HSm.out noCd nilC _ HX6.out.bel (nil_cv _)
        unfold nilC at this
        exact this
      generalize sameC c noCd = bb at *
      clear hb6 hal hx6 HX5
      go_wp2_with fail
      refine Calls.mono HK.out ?_
      rintro e w7 ⟨rfl, hb7⟩
      have HB7 : Hid (Below w.heap.size w w7) := HX6.out.bel.trans (hb7.mono HX6.out.bel.size)
      clear hb7 HK HX6 y0 y1 y2
      go_wp2
      go_ret
      exact ⟨rfl, HB7.out⟩
    · have hal : Below w6.heap.size w6 (w6.alloc (CO (.slice q1 k1 j1) (.slice q2 k2 j2) (.slice q3 k3 j3))) := (Below.refl _ w6).alloc (Nat.le_refl _) _
      have hx6 := HX5.out.next hb6
      have HX6 : Hid (Bx w (w6.alloc (CO (.slice q1 k1 j1) (.slice q2 k2 j2) (.slice q3 k3 j3))) (CO (.slice r1 c.consts.length c1) (.slice r2 c.procs.length c2) (.slice r3 c.globals.length c3))) := hx6.next hal
      have y0 : w6.cell? ⟨w.heap.size, 0, none⟩ = some (.slice r1 c.consts.length c1) := heap_cell hx6.blk rfl
      have y1 : w6.cell? ⟨w.heap.size, 1, none⟩ = some (.slice r2 c.procs.length c2) := heap_cell hx6.blk rfl
      have y2 : w6.cell? ⟨w.heap.size, 2, none⟩ = some (.slice r3 c.globals.length c3) := heap_cell hx6.blk rfl
      have hl6 : w.heap.size < w6.heap.size := heap_lt hx6.blk
      have HK : Hid (Calls Tryz.prog 20 #[(.agg #[.slice r1 c.consts.length c1, .slice r2 c.procs.length c2, .slice r3 c.globals.length c3]), (.agg #[.slice q1 k1 j1, .slice q2 k2 j2, .slice q3 k3 j3])] (w6.alloc (CO (.slice q1 k1 j1) (.slice q2 k2 j2) (.slice q3 k3 j3))) fun e w' => e = .returned (.bool false) ∧ Below (w6.alloc (CO (.slice q1 k1 j1) (.slice q2 k2 j2) (.slice q3 k3 j3))).heap.size (w6.alloc (CO (.slice q1 k1 j1) (.slice q2 k2 j2) (.slice q3 k3 j3))) w') := by
        have := HSm.out d _ _ HX6.out.bel (hcv.below hal)
        rw [sameC_no (by rw [HT.out, hwr]; exact fun h => HU.out h.symm)] at this
        exact this
      clear hcv hwr hck hgl
      clear hb6 hal hx6 HX5
      go_wp2_with fail
      refine Calls.mono HK.out ?_
      rintro e w7 ⟨rfl, hb7⟩
      have HB7 : Hid (Below w.heap.size w w7) := HX6.out.bel.trans (hb7.mono HX6.out.bel.size)
      clear hb7 HK HX6 y0 y1 y2
      go_wp2
      go_ret
      exact ⟨rfl, HB7.out⟩
end Go.Proofs.YtnblieohdngmiaaGreatDoor
