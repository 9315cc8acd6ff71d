/- The walk of CodeBack: there and back. -/
import Derived.Test.YtnblieohdngmiaaGreatDoorHBMath
import Derived.Test.YtnblieohdngmiaaGreatDoorGN
namespace Go.Proofs.YtnblieohdngmiaaGreatDoor
open Go.RowKit

/-- The block of the variable that holds the code that came in. -/
structure Bx (w W : World) (o : Obj) : Prop where
  bel : Below w.heap.size w W
  blk : W.heap[w.heap.size]? = some o
theorem Bx.next {w W W' : World} {o : Obj} (h : Bx w W o) (hb : Below W.heap.size W W') : Bx w W' o :=
  ⟨h.bel.trans (hb.mono h.bel.size), (hb.block _ (heap_lt h.blk)).trans h.blk⟩
theorem nil_cv (w : World) : CV w nilC noCd :=
  ⟨⟨none, 0, none, 0, none, 0, rfl, ⟨0, 0, .inl rfl, fun j x h => (by simp [noCd] at h)⟩, ⟨0, 0, .inl rfl, fun j x h => (by simp [noCd] at h)⟩, ⟨0, 0, .inl rfl, fun j x h => (by simp [noCd] at h)⟩, Nat.le_refl _⟩, ⟨by decide, by decide, by decide⟩⟩
theorem textV_ok {c : Cd} (h : (chkC c).1 = 0) : textV c = .tuple #[S (writtenT c), .int .i64 0] := if_pos h
theorem textV_no {c : Cd} (h : (chkC c).1 ≠ 0) : textV c = .tuple #[S [], .int .i64 (chkC c).1] := if_neg h
theorem good_len {L : Nat} {c : Cd} (h : GoodC L c) : ∀ p ∈ c.procs, Fit64 p.params ∧ ∀ x ∈ p.code, Fit64 x.a := fun p hp =>
  ⟨⟨by have := (h.ps p hp).1; omega, by have := (h.ps p hp).1; omega⟩, fun x hx => ((h.ps p hp).2 x hx).2⟩
/-- What Parse and Text say of a text. -/
def BackR (s : List UInt8) (e : Ending) (w' : World) : Prop :=
  (∃ n : Int, 1 ≤ n ∧ e = .returned (.tuple #[nilC, .int .i64 81, .int .i64 n])) ∨ (e = .returned (.tuple #[nilC, .int .i64 2, .int .i64 0])) ∨ (e = .returned (.tuple #[nilC, .int .i64 80, .int .i64 0]))
  ∨ ∃ r1 n1 d1 r2 n2 d2 r3 n3 d3 c, e = .returned (.tuple #[.agg #[.slice r1 n1 d1, .slice r2 n2 d2, .slice r3 n3 d3], .int .i64 0, .int .i64 0]) ∧ CV w' (.agg #[.slice r1 n1 d1, .slice r2 n2 d2, .slice r3 n3 d3]) c ∧ writtenT c = s ∧ (chkC c).1 = 0 ∧ (∀ t ∈ c.globals, t.length ≤ s.length)
theorem parse_back (s : List UInt8) (w : World) (hl : s.length ≤ 1099511627000) (hE : Env w) :
    Calls Tryz.prog 19 #[S s] w fun e w' => BackR s e w' ∧ Below w.heap.size w w' := by
  refine (parse_any s w hl hE).mono ?_
  rintro e w' ⟨hr, hb⟩
  refine ⟨?_, hb⟩
  rcases hr with ⟨h0, rfl⟩ | ⟨_, h0, rfl⟩ | ⟨h0, hc, v1, v2, v3, vs, rfl, ho, hg⟩
  · refine .inl ⟨_, ?_, rfl⟩
    rcases parsedV_pos s with h | h
    · exact absurd h h0
    · exact h
  · rcases chkC_err (parsedV s noCd 1).1 with h | h | h
    · exact absurd h h0
    · exact .inr (.inl (by rw [h]))
    · exact .inr (.inr (.inl (by rw [h])))
  · obtain ⟨r1, d1, e1⟩ := own_slice' ho.o1
    obtain ⟨r2, d2, e2⟩ := own_slice' ho.o2
    obtain ⟨r3, d3, e3⟩ := own_slice' ho.o3
    have hcv := ho.cv hg (by unfold maxLen; omega)
    rw [e1, e2, e3] at hcv ⊢
    exact .inr (.inr (.inr ⟨_, _, _, _, _, _, _, _, _, _, rfl, hcv, parsedV_is h0, hc, hg.gs⟩))
theorem parse_own {c : Cd} (h : (chkC c).1 = 0) (hr : ∀ x ∈ c.consts, Rng x) (w : World) (hl : (writtenT c).length ≤ 1099511627000) (hE : Env w) :
    Calls Tryz.prog 19 #[S (writtenT c)] w fun e w' => (∃ r1 n1 d1 r2 n2 d2 r3 n3 d3, e = .returned (.tuple #[.agg #[.slice r1 n1 d1, .slice r2 n2 d2, .slice r3 n3 d3], .int .i64 0, .int .i64 0]) ∧ CV w' (.agg #[.slice r1 n1 d1, .slice r2 n2 d2, .slice r3 n3 d3]) c) ∧ Below w.heap.size w w' := by
  refine (parse_any (writtenT c) w hl hE).mono ?_
  rintro e w' ⟨hr', hb⟩
  refine ⟨?_, hb⟩
  unfold ParseR at hr'
  rw [parse_text h hr] at hr'
  rcases hr' with ⟨h0, _⟩ | ⟨_, h0, _⟩ | ⟨_, _, v1, v2, v3, vs, rfl, ho, hg⟩
  · exact absurd rfl h0
  · exact absurd h h0
  · obtain ⟨r1, d1, e1⟩ := own_slice' ho.o1
    obtain ⟨r2, d2, e2⟩ := own_slice' ho.o2
    obtain ⟨r3, d3, e3⟩ := own_slice' ho.o3
    have hcv := ho.cv hg (by unfold maxLen; omega)
    rw [e1, e2, e3] at hcv ⊢
    exact ⟨_, _, _, _, _, _, _, _, _, rfl, hcv⟩
set_option maxRecDepth 100000 in
set_option maxHeartbeats 16000000 in
theorem codeBack_walk (c : Cd) (v : Value) (s : List UInt8) (w : World) (hE : Env w) (hv : CV w v c) (hx : ∀ t ∈ c.globals, t.length ≤ 281474976710656) (hz : c.consts.length ≤ 281474976710656 ∧ c.procs.length ≤ 281474976710656 ∧ c.globals.length ≤ 281474976710656) (hk : ∀ p ∈ c.procs, p.code.length ≤ 281474976710656)
    (hf : ∀ p ∈ c.procs, Fit64 p.params ∧ ∀ x ∈ p.code, Fit64 x.a) (hr : ∀ x ∈ c.consts, Rng x) (hs : s.length ≤ 281474976710656) :
    Calls Tryz.prog 7 #[v, S s] w fun e w' => e = .returned (.bool true) ∧ Below w.heap.size w w' := by
  have hv' := hv
  obtain ⟨⟨r1, c1, r2, c2, r3, c3, rfl, -, -, -, -⟩, -⟩ := hv'
  have HE : Hid (Env w) := hE
  have hal0 : Below w.heap.size w (w.alloc (CO (.slice r1 c.consts.length c1) (.slice r2 c.procs.length c2) (.slice r3 c.globals.length c3))) := (Below.refl _ w).alloc (Nat.le_refl _) _
  have HX0 : Hid (Bx w (w.alloc (CO (.slice r1 c.consts.length c1) (.slice r2 c.procs.length c2) (.slice r3 c.globals.length c3))) (CO (.slice r1 c.consts.length c1) (.slice r2 c.procs.length c2) (.slice r3 c.globals.length c3))) := ⟨hal0, heap_alloc_new _ _⟩
  have HV : Hid (∀ w5 : World, Below w.heap.size w w5 → CV w5 (.agg #[.slice r1 c.consts.length c1, .slice r2 c.procs.length c2, .slice r3 c.globals.length c3]) c) := fun w5 h5 => hv.below h5
  have HWk : Hid (Calls Tryz.prog 9 #[] (w.alloc (CO (.slice r1 c.consts.length c1) (.slice r2 c.procs.length c2) (.slice r3 c.globals.length c3))) fun e w' => e = .returned (.bool true) ∧ Below (w.alloc (CO (.slice r1 c.consts.length c1) (.slice r2 c.procs.length c2) (.slice r3 c.globals.length c3))).heap.size (w.alloc (CO (.slice r1 c.consts.length c1) (.slice r2 c.procs.length c2) (.slice r3 c.globals.length c3))) w') := works_any _ (hE.below hal0)
  have HOf : Hid (∀ w5 : World, Below w.heap.size w w5 → Calls Tryz.prog 10 #[(.agg #[.slice r1 c.consts.length c1, .slice r2 c.procs.length c2, .slice r3 c.globals.length c3])] w5 fun e w' => OfR 2251799813685248 (wtC c) e ∧ Below w5.heap.size w5 w') := fun w5 h5 => ofCode_any c _ w5 (hv.below h5) hx hz hk
  have HNil : Hid (∀ w5 : World, Calls Tryz.prog 20 #[nilC, nilC] w5 fun e w' => e = .returned (.bool true) ∧ Below w5.heap.size w5 w') := fun w5 => by
    have := sameCode_any noCd noCd _ _ w5 (nil_cv w5) (nil_cv w5)
    rw [(sameC_iff _ _).2 rfl] at this
    exact this
  have HTx : Hid (wtC c ≤ 8388608 → ∀ w5 : World, Below w.heap.size w w5 → Calls Tryz.prog 15 #[(.agg #[.slice r1 c.consts.length c1, .slice r2 c.procs.length c2, .slice r3 c.globals.length c3])] w5 fun e w' => e = .returned (textV c) ∧ Below w5.heap.size w5 w') := fun hw w5 h5 => by
    have hen := HE.out.below h5
    have := written_len hf
    exact text_any c _ w5 (hv.below h5) hx hen.T hen.E hen.P hen.N hen.O hen.B (by omega)
  have HPo : Hid ((chkC c).1 = 0 → wtC c ≤ 8388608 → ∀ w5 : World, Below w.heap.size w w5 → Calls Tryz.prog 19 #[S (writtenT c)] w5 fun e w' => (∃ r1 n1 d1 r2 n2 d2 r3 n3 d3, e = .returned (.tuple #[.agg #[.slice r1 n1 d1, .slice r2 n2 d2, .slice r3 n3 d3], .int .i64 0, .int .i64 0]) ∧ CV w' (.agg #[.slice r1 n1 d1, .slice r2 n2 d2, .slice r3 n3 d3]) c) ∧ Below w5.heap.size w5 w') := fun hc hw w5 h5 => by
    have := written_len hf
    exact parse_own hc hr w5 (by omega) (HE.out.below h5)
  have hsz : (ByteArray.mk s.toArray).size = s.length := rfl
  clear hE hv hx hz hk hf hr hal0
  go_enter Tryz.func7, Tryz.ntmps7
  go_wp2_with fail
  refine Calls.mono HWk.out ?_
  rintro e w1 ⟨rfl, hb1⟩
  have HX1 : Hid (Bx w w1 (CO (.slice r1 c.consts.length c1) (.slice r2 c.procs.length c2) (.slice r3 c.globals.length c3))) := HX0.out.next hb1
  have y0 : w1.cell? ⟨w.heap.size, 0, none⟩ = some (.slice r1 c.consts.length c1) := heap_cell HX1.out.blk rfl
  have y1 : w1.cell? ⟨w.heap.size, 1, none⟩ = some (.slice r2 c.procs.length c2) := heap_cell HX1.out.blk rfl
  have y2 : w1.cell? ⟨w.heap.size, 2, none⟩ = some (.slice r3 c.globals.length c3) := heap_cell HX1.out.blk rfl
  clear HWk hb1 HX0
  go_wp2_with fail
  refine Calls.mono (HOf.out w1 HX1.out.bel) ?_
  rintro e w2 ⟨⟨n, rfl, hn1, hn2⟩, hb2⟩
  have HX2 : Hid (Bx w w2 (CO (.slice r1 c.consts.length c1) (.slice r2 c.procs.length c2) (.slice r3 c.globals.length c3))) := HX1.out.next hb2
  have i0 : (n : Int) + (s.length : Int) ≤ 9223372036854775807 := by omega
  clear HX1 hb2 y0 y1 y2 HOf
  by_cases hbig : 8388608 < n + s.length
  · have i1 : (8388608 : Int) < (n : Int) + (s.length : Int) := by omega
    go_wp2
    go_ret
    exact ⟨rfl, HX2.out.bel⟩
  have i1 : ¬ (8388608 : Int) < (n : Int) + (s.length : Int) := by omega
  have hwt : wtC c ≤ 8388608 := by have := hn2 (by omega); omega
  have hsl : s.length ≤ 8388608 := by omega
  have HPs : Hid (∀ w5 : World, Below w.heap.size w w5 → Calls Tryz.prog 19 #[S s] w5 fun e w' => BackR s e w' ∧ Below w5.heap.size w5 w') := fun w5 h5 => parse_back s w5 (by omega) (HE.out.below h5)
  have HWt : Hid (wtC c ≤ 8388608) := hwt
  have y0 : w2.cell? ⟨w.heap.size, 0, none⟩ = some (.slice r1 c.consts.length c1) := heap_cell HX2.out.blk rfl
  have y1 : w2.cell? ⟨w.heap.size, 1, none⟩ = some (.slice r2 c.procs.length c2) := heap_cell HX2.out.blk rfl
  have y2 : w2.cell? ⟨w.heap.size, 2, none⟩ = some (.slice r3 c.globals.length c3) := heap_cell HX2.out.blk rfl
  clear hbig hn1 hn2 hwt
  go_wp2_with fail
  refine Calls.mono (HTx.out HWt.out w2 HX2.out.bel) ?_
  rintro e w3 ⟨rfl, hb3⟩
  have HX3 : Hid (Bx w w3 (CO (.slice r1 c.consts.length c1) (.slice r2 c.procs.length c2) (.slice r3 c.globals.length c3))) := HX2.out.next hb3
  clear hb3 HX2 y0 y1 y2 HTx i0 i1
  by_cases hck : (chkC c).1 = 0
  · rw [textV_ok hck]
    have HK3 : Hid (Calls Tryz.prog 19 #[S (writtenT c)] w3 fun e w' => (∃ r1 n1 d1 r2 n2 d2 r3 n3 d3, e = .returned (.tuple #[.agg #[.slice r1 n1 d1, .slice r2 n2 d2, .slice r3 n3 d3], .int .i64 0, .int .i64 0]) ∧ CV w' (.agg #[.slice r1 n1 d1, .slice r2 n2 d2, .slice r3 n3 d3]) c) ∧ Below w3.heap.size w3 w') := HPo.out hck HWt.out w3 HX3.out.bel
    clear hck HPo
    generalize writtenT c = T at *
    go_wp2_with fail
    refine Calls.mono HK3.out ?_
    rintro e w4 ⟨⟨q1, k1, j1, q2, k2, j2, q3, k3, j3, rfl, hcv⟩, hb4⟩
    have hal : Below w4.heap.size w4 (w4.alloc (CO (.slice q1 k1 j1) (.slice q2 k2 j2) (.slice q3 k3 j3))) := (Below.refl _ w4).alloc (Nat.le_refl _) _
    have hx4 := HX3.out.next hb4
    have HX4 : Hid (Bx w (w4.alloc (CO (.slice q1 k1 j1) (.slice q2 k2 j2) (.slice q3 k3 j3))) (CO (.slice r1 c.consts.length c1) (.slice r2 c.procs.length c2) (.slice r3 c.globals.length c3))) := hx4.next hal
    have y0 : w4.cell? ⟨w.heap.size, 0, none⟩ = some (.slice r1 c.consts.length c1) := heap_cell hx4.blk rfl
    have y1 : w4.cell? ⟨w.heap.size, 1, none⟩ = some (.slice r2 c.procs.length c2) := heap_cell hx4.blk rfl
    have y2 : w4.cell? ⟨w.heap.size, 2, none⟩ = some (.slice r3 c.globals.length c3) := heap_cell hx4.blk rfl
    have hl4 : w.heap.size < w4.heap.size := heap_lt hx4.blk
    have HK4 : Hid (Calls Tryz.prog 20 #[(.agg #[.slice r1 c.consts.length c1, .slice r2 c.procs.length c2, .slice r3 c.globals.length c3]), .agg #[.slice q1 k1 j1, .slice q2 k2 j2, .slice q3 k3 j3]] (w4.alloc (CO (.slice q1 k1 j1) (.slice q2 k2 j2) (.slice q3 k3 j3))) fun e w' => e = .returned (.bool true) ∧ Below (w4.alloc (CO (.slice q1 k1 j1) (.slice q2 k2 j2) (.slice q3 k3 j3))).heap.size (w4.alloc (CO (.slice q1 k1 j1) (.slice q2 k2 j2) (.slice q3 k3 j3))) w') := by
      have := sameCode_any c c _ _ _ (HV.out _ HX4.out.bel) (hcv.below hal)
      rw [(sameC_iff _ _).2 rfl] at this
      exact this
    clear HK3 hb4 hcv hal hx4 HX3
    go_wp2_with fail
    refine Calls.mono HK4.out ?_
    rintro e w5 ⟨rfl, hb5⟩
    have HT : Hid (Bx w w5 (CO (.slice r1 c.consts.length c1) (.slice r2 c.procs.length c2) (.slice r3 c.globals.length c3))) := HX4.out.next hb5
    clear HK4 hb5 HX4 y0 y1 y2 hl4
    go_wp2_with fail
    refine Calls.mono (HPs.out w5 (HT.out.bel)) ?_
    rintro e w6 ⟨hbr, hb6⟩
    have HX6 : Hid (Bx w w6 (CO (.slice r1 c.consts.length c1) (.slice r2 c.procs.length c2) (.slice r3 c.globals.length c3))) := HT.out.next hb6
    rcases hbr with ⟨n, hn, rfl⟩ | rfl | rfl | ⟨q1, k1, j1, q2, k2, j2, q3, k3, j3, d, rfl, hcv, hwr, hck, hgl⟩
    · have f1 : (0 : Int) ≤ n := by omega
      have f2 : (0 : Int) < n := by omega
      have HK : Hid (Calls Tryz.prog 20 #[nilC, nilC] (w6.alloc ZC) fun e w' => e = .returned (.bool true) ∧ Below (w6.alloc ZC).heap.size (w6.alloc ZC) w') := HNil.out _
      have HB7 : Hid (Below w.heap.size w (w6.alloc ZC)) := HX6.out.bel.trans (((Below.refl _ w6).alloc (Nat.le_refl _) _).mono HX6.out.bel.size)
      clear hb6 hn
      unfold nilC at HK ⊢
      go_wp2_with fail
      refine Calls.mono HK.out ?_
      rintro e w7 ⟨rfl, hb7⟩
      have HB8 : Hid (Below w.heap.size w w7) := HB7.out.trans (hb7.mono HB7.out.size)
      clear hb7 HK
      go_wp2
      go_ret
      exact ⟨rfl, HB8.out⟩
    · have HK : Hid (Calls Tryz.prog 20 #[nilC, nilC] (w6.alloc ZC) fun e w' => e = .returned (.bool true) ∧ Below (w6.alloc ZC).heap.size (w6.alloc ZC) w') := HNil.out _
      have HB7 : Hid (Below w.heap.size w (w6.alloc ZC)) := HX6.out.bel.trans (((Below.refl _ w6).alloc (Nat.le_refl _) _).mono HX6.out.bel.size)
      clear hb6
      unfold nilC at HK ⊢
      go_wp2_with fail
      refine Calls.mono HK.out ?_
      rintro e w7 ⟨rfl, hb7⟩
      have HB8 : Hid (Below w.heap.size w w7) := HB7.out.trans (hb7.mono HB7.out.size)
      clear hb7 HK
      go_wp2
      go_ret
      exact ⟨rfl, HB8.out⟩
    · have HK : Hid (Calls Tryz.prog 20 #[nilC, nilC] (w6.alloc ZC) fun e w' => e = .returned (.bool true) ∧ Below (w6.alloc ZC).heap.size (w6.alloc ZC) w') := HNil.out _
      have HB7 : Hid (Below w.heap.size w (w6.alloc ZC)) := HX6.out.bel.trans (((Below.refl _ w6).alloc (Nat.le_refl _) _).mono HX6.out.bel.size)
      clear hb6
      unfold nilC at HK ⊢
      go_wp2_with fail
      refine Calls.mono HK.out ?_
      rintro e w7 ⟨rfl, hb7⟩
      have HB8 : Hid (Below w.heap.size w w7) := HB7.out.trans (hb7.mono HB7.out.size)
      clear hb7 HK
      go_wp2
      go_ret
      exact ⟨rfl, HB8.out⟩
    · have hal : Below w6.heap.size w6 (w6.alloc (CO (.slice q1 k1 j1) (.slice q2 k2 j2) (.slice q3 k3 j3))) := (Below.refl _ w6).alloc (Nat.le_refl _) _
      have HB7 : Hid (Below w.heap.size w (w6.alloc (CO (.slice q1 k1 j1) (.slice q2 k2 j2) (.slice q3 k3 j3)))) := HX6.out.bel.trans (hal.mono HX6.out.bel.size)
      have HK : Hid (Calls Tryz.prog 15 #[.agg #[.slice q1 k1 j1, .slice q2 k2 j2, .slice q3 k3 j3]] (w6.alloc (CO (.slice q1 k1 j1) (.slice q2 k2 j2) (.slice q3 k3 j3))) fun e w' => e = .returned (.tuple #[S s, .int .i64 0]) ∧ Below (w6.alloc (CO (.slice q1 k1 j1) (.slice q2 k2 j2) (.slice q3 k3 j3))).heap.size (w6.alloc (CO (.slice q1 k1 j1) (.slice q2 k2 j2) (.slice q3 k3 j3))) w') := by
        have hen := HE.out.below HB7.out
        have := text_any d _ _ (hcv.below hal) (fun t ht => Nat.le_trans (hgl t ht) (by omega)) hen.T hen.E hen.P hen.N hen.O hen.B (by rw [hwr]; omega)
        rw [textV_ok hck, hwr] at this
        exact this
      clear hb6 hcv hwr hck hgl hal
      go_wp2_with fail
      refine Calls.mono HK.out ?_
      rintro e w7 ⟨rfl, hb7⟩
      have HB8 : Hid (Below w.heap.size w w7) := HB7.out.trans (hb7.mono HB7.out.size)
      clear hb7 HK
      go_wp2
      go_ret
      exact ⟨rfl, HB8.out⟩
  · rw [textV_no hck]
    have HT : Hid (Bx w w3 (CO (.slice r1 c.consts.length c1) (.slice r2 c.procs.length c2) (.slice r3 c.globals.length c3))) := HX3.out
    generalize hec : (chkC c).1 = e0 at *
    have hne : (e0 == 0) = false := by simpa using hck
    clear hck HX3 HPo hec
    go_wp2_with fail
    refine Calls.mono (HPs.out w3 (HT.out.bel)) ?_
    rintro e w6 ⟨hbr, hb6⟩
    have HX6 : Hid (Bx w w6 (CO (.slice r1 c.consts.length c1) (.slice r2 c.procs.length c2) (.slice r3 c.globals.length c3))) := HT.out.next hb6
    rcases hbr with ⟨n, hn, rfl⟩ | rfl | rfl | ⟨q1, k1, j1, q2, k2, j2, q3, k3, j3, d, rfl, hcv, hwr, hck, hgl⟩
    · have f1 : (0 : Int) ≤ n := by omega
      have f2 : (0 : Int) < n := by omega
      have HK : Hid (Calls Tryz.prog 20 #[nilC, nilC] (w6.alloc ZC) fun e w' => e = .returned (.bool true) ∧ Below (w6.alloc ZC).heap.size (w6.alloc ZC) w') := HNil.out _
      have HB7 : Hid (Below w.heap.size w (w6.alloc ZC)) := HX6.out.bel.trans (((Below.refl _ w6).alloc (Nat.le_refl _) _).mono HX6.out.bel.size)
      clear hb6 hn
      unfold nilC at HK ⊢
      go_wp2_with fail
      refine Calls.mono HK.out ?_
      rintro e w7 ⟨rfl, hb7⟩
      have HB8 : Hid (Below w.heap.size w w7) := HB7.out.trans (hb7.mono HB7.out.size)
      clear hb7 HK
      go_wp2
      go_ret
      exact ⟨rfl, HB8.out⟩
    · have HK : Hid (Calls Tryz.prog 20 #[nilC, nilC] (w6.alloc ZC) fun e w' => e = .returned (.bool true) ∧ Below (w6.alloc ZC).heap.size (w6.alloc ZC) w') := HNil.out _
      have HB7 : Hid (Below w.heap.size w (w6.alloc ZC)) := HX6.out.bel.trans (((Below.refl _ w6).alloc (Nat.le_refl _) _).mono HX6.out.bel.size)
      clear hb6
      unfold nilC at HK ⊢
      go_wp2_with fail
      refine Calls.mono HK.out ?_
      rintro e w7 ⟨rfl, hb7⟩
      have HB8 : Hid (Below w.heap.size w w7) := HB7.out.trans (hb7.mono HB7.out.size)
      clear hb7 HK
      go_wp2
      go_ret
      exact ⟨rfl, HB8.out⟩
    · have HK : Hid (Calls Tryz.prog 20 #[nilC, nilC] (w6.alloc ZC) fun e w' => e = .returned (.bool true) ∧ Below (w6.alloc ZC).heap.size (w6.alloc ZC) w') := HNil.out _
      have HB7 : Hid (Below w.heap.size w (w6.alloc ZC)) := HX6.out.bel.trans (((Below.refl _ w6).alloc (Nat.le_refl _) _).mono HX6.out.bel.size)
      clear hb6
      unfold nilC at HK ⊢
      go_wp2_with fail
      refine Calls.mono HK.out ?_
      rintro e w7 ⟨rfl, hb7⟩
      have HB8 : Hid (Below w.heap.size w w7) := HB7.out.trans (hb7.mono HB7.out.size)
      clear hb7 HK
      go_wp2
      go_ret
      exact ⟨rfl, HB8.out⟩
    · have hal : Below w6.heap.size w6 (w6.alloc (CO (.slice q1 k1 j1) (.slice q2 k2 j2) (.slice q3 k3 j3))) := (Below.refl _ w6).alloc (Nat.le_refl _) _
      have HB7 : Hid (Below w.heap.size w (w6.alloc (CO (.slice q1 k1 j1) (.slice q2 k2 j2) (.slice q3 k3 j3)))) := HX6.out.bel.trans (hal.mono HX6.out.bel.size)
      have HK : Hid (Calls Tryz.prog 15 #[.agg #[.slice q1 k1 j1, .slice q2 k2 j2, .slice q3 k3 j3]] (w6.alloc (CO (.slice q1 k1 j1) (.slice q2 k2 j2) (.slice q3 k3 j3))) fun e w' => e = .returned (.tuple #[S s, .int .i64 0]) ∧ Below (w6.alloc (CO (.slice q1 k1 j1) (.slice q2 k2 j2) (.slice q3 k3 j3))).heap.size (w6.alloc (CO (.slice q1 k1 j1) (.slice q2 k2 j2) (.slice q3 k3 j3))) w') := by
        have hen := HE.out.below HB7.out
        have := text_any d _ _ (hcv.below hal) (fun t ht => Nat.le_trans (hgl t ht) (by omega)) hen.T hen.E hen.P hen.N hen.O hen.B (by rw [hwr]; omega)
        rw [textV_ok hck, hwr] at this
        exact this
      clear hb6 hcv hwr hck hgl hal
      go_wp2_with fail
      refine Calls.mono HK.out ?_
      rintro e w7 ⟨rfl, hb7⟩
      have HB8 : Hid (Below w.heap.size w w7) := HB7.out.trans (hb7.mono HB7.out.size)
      clear hb7 HK
      go_wp2
      go_ret
      exact ⟨rfl, HB8.out⟩
end Go.Proofs.YtnblieohdngmiaaGreatDoor
