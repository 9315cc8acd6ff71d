/- The walk of CodeSame. -/
import Derived.Test.YtnblieohdngmiaaGreatDoorHCBack
import Derived.Test.YtnblieohdngmiaaGreatDoorHLCodeW
import Derived.Deep.DeepCutAuto
namespace Go.Proofs.YtnblieohdngmiaaGreatDoor
open Go.RowKit

/-- The blocks of two variables. -/
structure Bx2 (w W : World) (o1 o2 : Obj) : Prop where
  bel : Below w.heap.size w W
  b1 : W.heap[w.heap.size]? = some o1
  b2 : W.heap[w.heap.size + 1]? = some o2
theorem Bx2.next {w W W' : World} {o1 o2 : Obj} (h : Bx2 w W o1 o2) (hb : Below W.heap.size W W') : Bx2 w W' o1 o2 :=
  ⟨h.bel.trans (hb.mono h.bel.size), (hb.block _ (heap_lt h.b1)).trans h.b1, (hb.block _ (heap_lt h.b2)).trans h.b2⟩
theorem sameC_comm (a b : Cd) : sameC a b = sameC b a := by
  cases h : sameC b a
  · cases h' : sameC a b
    · rfl
    · rw [(sameC_iff _ _).1 h', (sameC_iff _ _).2 rfl] at h; cases h
  · rw [(sameC_iff _ _).1 h]; exact (sameC_iff _ _).2 rfl
theorem wtT_len : ∀ l : List (List UInt8), l.length ≤ wtT l
  | [] => Nat.zero_le _
  | x :: l => by have := wtT_len l; simp only [wtT, List.length_cons]; omega
theorem wtP_len : ∀ l : List Prc, l.length ≤ wtP l ∧ ∀ p ∈ l, p.code.length ≤ wtP l
  | [] => ⟨Nat.zero_le _, fun p hp => by cases hp⟩
  | x :: l => by
    obtain ⟨h1, h2⟩ := wtP_len l
    refine ⟨by simp only [wtP, List.length_cons]; omega, fun p hp => ?_⟩
    simp only [wtP]
    rcases List.mem_cons.1 hp with rfl | h
    · omega
    · have := h2 p h; omega
theorem wtC_lens {c : Cd} {N : Nat} (h : wtC c ≤ N) : (c.consts.length ≤ N ∧ c.procs.length ≤ N ∧ c.globals.length ≤ N) ∧ ∀ p ∈ c.procs, p.code.length ≤ N := by
  unfold wtC at h
  have h1 := wtT_len c.globals
  obtain ⟨h2, h3⟩ := wtP_len c.procs
  exact ⟨⟨by omega, by omega, by omega⟩, fun p hp => by have := h3 p hp; omega⟩
theorem sum_le {na nb : Nat} (h : decide ((8388608 : Int) < IntKind.i64.wrap ((na : Int) + (nb : Int))) = false) (hb : (na : Int) + (nb : Int) ≤ 9223372036854775807) : na + nb ≤ 8388608 := by
  rw [decide_eq_false_iff_not, IntKind.wrap_i64] at h; omega
theorem keepS6 {W W' : World} {g h : Nat} {v0 v1 v2 u0 u1 u2 : Value} (hb : Below W.heap.size W W') (hg : g < W.heap.size) (hh : h < W.heap.size)
    (s : W.cell? ⟨g, 0, none⟩ = some v0 ∧ W.cell? ⟨g, 1, none⟩ = some v1 ∧ W.cell? ⟨g, 2, none⟩ = some v2 ∧ W.cell? ⟨h, 0, none⟩ = some u0 ∧ W.cell? ⟨h, 1, none⟩ = some u1 ∧ W.cell? ⟨h, 2, none⟩ = some u2) :
    W'.cell? ⟨g, 0, none⟩ = some v0 ∧ W'.cell? ⟨g, 1, none⟩ = some v1 ∧ W'.cell? ⟨g, 2, none⟩ = some v2 ∧ W'.cell? ⟨h, 0, none⟩ = some u0 ∧ W'.cell? ⟨h, 1, none⟩ = some u1 ∧ W'.cell? ⟨h, 2, none⟩ = some u2 := by
  obtain ⟨a0, a1, a2, a3, a4, a5⟩ := s
  have e := fun o => hb.cell (p := ⟨g, o, none⟩) hg
  have e' := fun o => hb.cell (p := ⟨h, o, none⟩) hh
  exact ⟨(e _).trans a0, (e _).trans a1, (e _).trans a2, (e' _).trans a3, (e' _).trans a4, (e' _).trans a5⟩
theorem keep3 {W W' : World} {h : Nat} {u0 u1 u2 : Value} (hb : Below W.heap.size W W') (hh : h < W.heap.size)
    (s : W.cell? ⟨h, 0, none⟩ = some u0 ∧ W.cell? ⟨h, 1, none⟩ = some u1 ∧ W.cell? ⟨h, 2, none⟩ = some u2) :
    W'.cell? ⟨h, 0, none⟩ = some u0 ∧ W'.cell? ⟨h, 1, none⟩ = some u1 ∧ W'.cell? ⟨h, 2, none⟩ = some u2 := by
  obtain ⟨a3, a4, a5⟩ := s
  have e' := fun o => hb.cell (p := ⟨h, o, none⟩) hh
  exact ⟨(e' _).trans a3, (e' _).trans a4, (e' _).trans a5⟩
set_option maxRecDepth 100000 in
set_option maxHeartbeats 16000000 in
theorem codeSame_walk (c d : Cd) (v u : Value) (w : World) (hE : Env w) (hv : CV w v c) (hu : CV w u d)
    (hx : ∀ t ∈ c.globals, t.length ≤ 281474976710656) (hz : c.consts.length ≤ 281474976710656 ∧ c.procs.length ≤ 281474976710656 ∧ c.globals.length ≤ 281474976710656) (hk : ∀ p ∈ c.procs, p.code.length ≤ 281474976710656)
    (hx' : ∀ t ∈ d.globals, t.length ≤ 281474976710656) (hz' : d.consts.length ≤ 281474976710656 ∧ d.procs.length ≤ 281474976710656 ∧ d.globals.length ≤ 281474976710656) (hk' : ∀ p ∈ d.procs, p.code.length ≤ 281474976710656) :
    Calls Tryz.prog 6 #[v, u] w fun e w' => e = .returned (.bool true) ∧ Below w.heap.size w w' := by
  have hv' := hv
  have hu' := hu
  obtain ⟨⟨r1, c1, r2, c2, r3, c3, rfl, -, -, -, -⟩, -⟩ := hv'
  obtain ⟨⟨s1, e1, s2, e2, s3, e3, rfl, -, -, -, -⟩, -⟩ := hu'
  have hal0 : Below w.heap.size w ((w.alloc (CO (.slice r1 c.consts.length c1) (.slice r2 c.procs.length c2) (.slice r3 c.globals.length c3))).alloc (CO (.slice s1 d.consts.length e1) (.slice s2 d.procs.length e2) (.slice s3 d.globals.length e3))) := ((Below.refl _ w).alloc (Nat.le_refl _) _).alloc (by simp) _
  have HX0 : Hid (Bx2 w ((w.alloc (CO (.slice r1 c.consts.length c1) (.slice r2 c.procs.length c2) (.slice r3 c.globals.length c3))).alloc (CO (.slice s1 d.consts.length e1) (.slice s2 d.procs.length e2) (.slice s3 d.globals.length e3))) (CO (.slice r1 c.consts.length c1) (.slice r2 c.procs.length c2) (.slice r3 c.globals.length c3)) (CO (.slice s1 d.consts.length e1) (.slice s2 d.procs.length e2) (.slice s3 d.globals.length e3))) := ⟨hal0, (Below.heap_alloc _ _ _ (by simp)).trans (heap_alloc_new _ _), by
    have := heap_alloc_new (w.alloc (CO (.slice r1 c.consts.length c1) (.slice r2 c.procs.length c2) (.slice r3 c.globals.length c3))) (CO (.slice s1 d.consts.length e1) (.slice s2 d.procs.length e2) (.slice s3 d.globals.length e3))
    rwa [World.size_alloc] at this⟩
  have HWk : Hid (Calls Tryz.prog 9 #[] ((w.alloc (CO (.slice r1 c.consts.length c1) (.slice r2 c.procs.length c2) (.slice r3 c.globals.length c3))).alloc (CO (.slice s1 d.consts.length e1) (.slice s2 d.procs.length e2) (.slice s3 d.globals.length e3))) fun e w' => e = .returned (.bool true) ∧ Below ((w.alloc (CO (.slice r1 c.consts.length c1) (.slice r2 c.procs.length c2) (.slice r3 c.globals.length c3))).alloc (CO (.slice s1 d.consts.length e1) (.slice s2 d.procs.length e2) (.slice s3 d.globals.length e3))).heap.size ((w.alloc (CO (.slice r1 c.consts.length c1) (.slice r2 c.procs.length c2) (.slice r3 c.globals.length c3))).alloc (CO (.slice s1 d.consts.length e1) (.slice s2 d.procs.length e2) (.slice s3 d.globals.length e3))) w') := works_any _ (hE.below hal0)
  have HOc : Hid (∀ w5 : World, Below w.heap.size w w5 → Calls Tryz.prog 10 #[(.agg #[.slice r1 c.consts.length c1, .slice r2 c.procs.length c2, .slice r3 c.globals.length c3])] w5 fun e w' => OfR 2251799813685248 (wtC c) e ∧ Below w5.heap.size w5 w') := fun w5 h5 => ofCode_any c _ w5 (hv.below h5) hx hz hk
  have HOd : Hid (∀ w5 : World, Below w.heap.size w w5 → Calls Tryz.prog 10 #[(.agg #[.slice s1 d.consts.length e1, .slice s2 d.procs.length e2, .slice s3 d.globals.length e3])] w5 fun e w' => OfR 2251799813685248 (wtC d) e ∧ Below w5.heap.size w5 w') := fun w5 h5 => ofCode_any d _ w5 (hu.below h5) hx' hz' hk'
  have HS0 : Hid (∀ w5 : World, Below w.heap.size w w5 → Calls Tryz.prog 20 #[(.agg #[.slice r1 c.consts.length c1, .slice r2 c.procs.length c2, .slice r3 c.globals.length c3]), (.agg #[.slice s1 d.consts.length e1, .slice s2 d.procs.length e2, .slice s3 d.globals.length e3])] w5 fun e w' => e = .returned (.bool (sameC c d)) ∧ Below w5.heap.size w5 w') := fun w5 h5 => sameCode_any c d _ _ w5 (hv.below h5) (hu.below h5)
  have HS1 : Hid (∀ w5 : World, Below w.heap.size w w5 → Calls Tryz.prog 23 #[(.agg #[.slice r1 c.consts.length c1, .slice r2 c.procs.length c2, .slice r3 c.globals.length c3]), (.agg #[.slice s1 d.consts.length e1, .slice s2 d.procs.length e2, .slice s3 d.globals.length e3])] w5 fun e w' => e = .returned (.bool (sameC c d)) ∧ Below w5.heap.size w5 w') := fun w5 h5 => same_any c d _ _ w5 (hv.below h5) (hu.below h5)
  have HS2 : Hid (∀ w5 : World, Below w.heap.size w w5 → Calls Tryz.prog 23 #[(.agg #[.slice s1 d.consts.length e1, .slice s2 d.procs.length e2, .slice s3 d.globals.length e3]), (.agg #[.slice r1 c.consts.length c1, .slice r2 c.procs.length c2, .slice r3 c.globals.length c3])] w5 fun e w' => e = .returned (.bool (sameC c d)) ∧ Below w5.heap.size w5 w') := fun w5 h5 => by
    have := same_any d c _ _ w5 (hu.below h5) (hv.below h5)
    rwa [sameC_comm] at this
  have HS3 : Hid (∀ w5 : World, Below w.heap.size w w5 → Calls Tryz.prog 23 #[(.agg #[.slice r1 c.consts.length c1, .slice r2 c.procs.length c2, .slice r3 c.globals.length c3]), (.agg #[.slice r1 c.consts.length c1, .slice r2 c.procs.length c2, .slice r3 c.globals.length c3])] w5 fun e w' => e = .returned (.bool true) ∧ Below w5.heap.size w5 w') := fun w5 h5 => by
    have := same_any c c _ _ w5 (hv.below h5) (hv.below h5)
    rwa [(sameC_iff _ _).2 rfl] at this
  have HS4 : Hid (∀ (vl : Value) (w5 : World), Below w.heap.size w w5 → CV w5 vl d → Calls Tryz.prog 23 #[vl, (.agg #[.slice s1 d.consts.length e1, .slice s2 d.procs.length e2, .slice s3 d.globals.length e3])] w5 fun e w' => e = .returned (.bool true) ∧ Below w5.heap.size w5 w') := fun vl w5 h5 h6 => by
    have := same_any d d _ _ w5 h6 (hu.below h5)
    rwa [(sameC_iff _ _).2 rfl] at this
  have HLn : Hid (wtC d ≤ 8388608 → ∀ w5 : World, Below w.heap.size w w5 → Calls Tryz.prog 13 #[(.agg #[.slice s1 d.consts.length e1, .slice s2 d.procs.length e2, .slice s3 d.globals.length e3])] w5 fun e w' => (∃ g1 n1 m1 g2 n2 m2 g3 n3 m3, e = .returned (.agg #[.slice g1 n1 m1, .slice g2 n2 m2, .slice g3 n3 m3]) ∧ CV w' (.agg #[.slice g1 n1 m1, .slice g2 n2 m2, .slice g3 n3 m3]) d) ∧ Below w5.heap.size w5 w') := fun hw w5 h5 => by
    obtain ⟨⟨l1, l2, l3⟩, l4⟩ := wtC_lens hw
    refine (lentCode_any d _ w5 (hu.below h5) ⟨by omega, by omega, by omega⟩ (fun p hp => by have := l4 p hp; omega)).mono ?_
    rintro e w' ⟨v', rfl, hL, hb⟩
    have hc := hL.cv hu
    obtain ⟨g1, g2, g3, vs, rfl, -⟩ := hL
    exact ⟨⟨_, _, _, _, _, _, _, _, _, rfl, hc⟩, hb⟩
  have hmx : Tryz.prog.follows .mixedOrders = true := by kernel_rfl
  clear hE hv hu hx hz hk hx' hz' hk' hal0
  go_enter Tryz.func6, Tryz.ntmps6
  go_wp2_with fail
  refine Calls.mono HWk.out ?_
  rintro e w1 ⟨rfl, hb1⟩
  have HX1 : Hid (Bx2 w w1 (CO (.slice r1 c.consts.length c1) (.slice r2 c.procs.length c2) (.slice r3 c.globals.length c3)) (CO (.slice s1 d.consts.length e1) (.slice s2 d.procs.length e2) (.slice s3 d.globals.length e3))) := HX0.out.next hb1
  have y0 : w1.cell? ⟨w.heap.size, 0, none⟩ = some (.slice r1 c.consts.length c1) := heap_cell HX1.out.b1 rfl
  have y1 : w1.cell? ⟨w.heap.size, 1, none⟩ = some (.slice r2 c.procs.length c2) := heap_cell HX1.out.b1 rfl
  have y2 : w1.cell? ⟨w.heap.size, 2, none⟩ = some (.slice r3 c.globals.length c3) := heap_cell HX1.out.b1 rfl
  have t0 : w1.cell? ⟨w.heap.size + 1, 0, none⟩ = some (.slice s1 d.consts.length e1) := heap_cell HX1.out.b2 rfl
  have t1 : w1.cell? ⟨w.heap.size + 1, 1, none⟩ = some (.slice s2 d.procs.length e2) := heap_cell HX1.out.b2 rfl
  have t2 : w1.cell? ⟨w.heap.size + 1, 2, none⟩ = some (.slice s3 d.globals.length e3) := heap_cell HX1.out.b2 rfl
  have l1 : w.heap.size < w1.heap.size := heap_lt HX1.out.b1
  have l2 : w.heap.size + 1 < w1.heap.size := heap_lt HX1.out.b2
  clear HWk hb1 HX0
  go_upto_region 2 with fail
  go_cut [17] (fun v wx => ∃ bb : Bool, v = .bool bb ∧ Hid (bb = false → wtC d ≤ 8388608) ∧ Hid (Bx2 w wx (CO (.slice r1 c.consts.length c1) (.slice r2 c.procs.length c2) (.slice r3 c.globals.length c3)) (CO (.slice s1 d.consts.length e1) (.slice s2 d.procs.length e2) (.slice s3 d.globals.length e3))))
  case first =>
    go_region_held3 (fun wx => wx.cell? ⟨w.heap.size, 0, none⟩ = some (.slice r1 c.consts.length c1) ∧ wx.cell? ⟨w.heap.size, 1, none⟩ = some (.slice r2 c.procs.length c2) ∧ wx.cell? ⟨w.heap.size, 2, none⟩ = some (.slice r3 c.globals.length c3) ∧ wx.cell? ⟨w.heap.size + 1, 0, none⟩ = some (.slice s1 d.consts.length e1) ∧ wx.cell? ⟨w.heap.size + 1, 1, none⟩ = some (.slice s2 d.procs.length e2) ∧ wx.cell? ⟨w.heap.size + 1, 2, none⟩ = some (.slice s3 d.globals.length e3)) (first | go_keep | exact hSa | exact hSb)
      (first | (go_at_call_of 10 (Value.slice r1 c.consts.length c1); (first | (refine (HOc.out _ (HX1.out.bel.trans (hbb'.mono HX1.out.bel.size))).mono ?_; rintro e wa ⟨⟨na, rfl, ha1, ha2⟩, hba⟩; have hba' : Below w1.heap.size w1 wa := hbb'.trans (hba.mono hbb'.size)) | (refine (HOc.out _ HX1.out.bel.drew).mono ?_; rintro e wa ⟨⟨na, rfl, ha1, ha2⟩, hba⟩; have hba' : Below w1.heap.size w1 wa := (Below.refl _ w1).drew.trans hba)); have hSa := keepS6 hba' l1 l2 ⟨y0, y1, y2, t0, t1, t2⟩)
             | (go_at_call_of 10 (Value.slice s1 d.consts.length e1); (first | (refine (HOd.out _ (HX1.out.bel.trans (hba'.mono HX1.out.bel.size))).mono ?_; rintro e wb ⟨⟨nb, rfl, hb1, hb2⟩, hbb⟩; have hbb' : Below w1.heap.size w1 wb := hba'.trans (hbb.mono hba'.size)) | (refine (HOd.out _ HX1.out.bel.drew).mono ?_; rintro e wb ⟨⟨nb, rfl, hb1, hb2⟩, hbb⟩; have hbb' : Below w1.heap.size w1 wb := (Below.refl _ w1).drew.trans hbb)); have hSb := keepS6 hbb' l1 l2 ⟨y0, y1, y2, t0, t1, t2⟩))
    all_goals first
      | (have HZ : Hid (Bx2 w wb (CO (.slice r1 c.consts.length c1) (.slice r2 c.procs.length c2) (.slice r3 c.globals.length c3)) (CO (.slice s1 d.consts.length e1) (.slice s2 d.procs.length e2) (.slice s3 d.globals.length e3))) := HX1.out.next hbb'
         have HN : Hid (na + nb ≤ 8388608 → wtC d ≤ 8388608) := fun h => by have := hb2 (by omega); omega
         have i0 : (na : Int) + (nb : Int) ≤ 9223372036854775807 := by omega
         clear hSa hSb hba hbb hba' hbb' ha2 hb2
         go_wp2_with fail
         go_meet
         exact ⟨_, rfl, fun h => HN.out (sum_le h (by omega)), HZ⟩)
      | (have HZ : Hid (Bx2 w wa (CO (.slice r1 c.consts.length c1) (.slice r2 c.procs.length c2) (.slice r3 c.globals.length c3)) (CO (.slice s1 d.consts.length e1) (.slice s2 d.procs.length e2) (.slice s3 d.globals.length e3))) := HX1.out.next hba'
         have HN : Hid (na + nb ≤ 8388608 → wtC d ≤ 8388608) := fun h => by have := hb2 (by omega); omega
         have i0 : (na : Int) + (nb : Int) ≤ 9223372036854775807 := by omega
         clear hSa hSb hba hbb hba' hbb' ha2 hb2
         go_wp2_with fail
         go_meet
         exact ⟨_, rfl, fun h => HN.out (sum_le h (by omega)), HZ⟩)
  case rest =>
    obtain ⟨bb, rfl, HW, HX2⟩ := hcut
    clear y0 y1 y2 t0 t1 t2 l1 l2 HX1
    cases bb with
    | true =>
      go_wp2
      go_ret
      exact ⟨rfl, HX2.out.bel⟩
    | false =>
      have HW' : Hid (wtC d ≤ 8388608) := HW.out rfl
      clear HW
      have y0 : wc.cell? ⟨w.heap.size, 0, none⟩ = some (.slice r1 c.consts.length c1) := heap_cell HX2.out.b1 rfl
      have y1 : wc.cell? ⟨w.heap.size, 1, none⟩ = some (.slice r2 c.procs.length c2) := heap_cell HX2.out.b1 rfl
      have y2 : wc.cell? ⟨w.heap.size, 2, none⟩ = some (.slice r3 c.globals.length c3) := heap_cell HX2.out.b1 rfl
      have t0 : wc.cell? ⟨w.heap.size + 1, 0, none⟩ = some (.slice s1 d.consts.length e1) := heap_cell HX2.out.b2 rfl
      have t1 : wc.cell? ⟨w.heap.size + 1, 1, none⟩ = some (.slice s2 d.procs.length e2) := heap_cell HX2.out.b2 rfl
      have t2 : wc.cell? ⟨w.heap.size + 1, 2, none⟩ = some (.slice s3 d.globals.length e3) := heap_cell HX2.out.b2 rfl
      go_wp2_with fail
      refine Calls.mono (HS0.out _ HX2.out.bel) ?_
      rintro e w3 ⟨rfl, hb3⟩
      have HX3 : Hid (Bx2 w w3 (CO (.slice r1 c.consts.length c1) (.slice r2 c.procs.length c2) (.slice r3 c.globals.length c3)) (CO (.slice s1 d.consts.length e1) (.slice s2 d.procs.length e2) (.slice s3 d.globals.length e3))) := HX2.out.next hb3
      clear y0 y1 y2 t0 t1 t2
      have y0 : w3.cell? ⟨w.heap.size, 0, none⟩ = some (.slice r1 c.consts.length c1) := heap_cell HX3.out.b1 rfl
      have y1 : w3.cell? ⟨w.heap.size, 1, none⟩ = some (.slice r2 c.procs.length c2) := heap_cell HX3.out.b1 rfl
      have y2 : w3.cell? ⟨w.heap.size, 2, none⟩ = some (.slice r3 c.globals.length c3) := heap_cell HX3.out.b1 rfl
      have t0 : w3.cell? ⟨w.heap.size + 1, 0, none⟩ = some (.slice s1 d.consts.length e1) := heap_cell HX3.out.b2 rfl
      have t1 : w3.cell? ⟨w.heap.size + 1, 1, none⟩ = some (.slice s2 d.procs.length e2) := heap_cell HX3.out.b2 rfl
      have t2 : w3.cell? ⟨w.heap.size + 1, 2, none⟩ = some (.slice s3 d.globals.length e3) := heap_cell HX3.out.b2 rfl
      clear hb3 HX2 HS0
      go_wp2_with fail
      refine Calls.mono (HS1.out _ HX3.out.bel) ?_
      rintro e w4 ⟨rfl, hb4⟩
      have HX4 : Hid (Bx2 w w4 (CO (.slice r1 c.consts.length c1) (.slice r2 c.procs.length c2) (.slice r3 c.globals.length c3)) (CO (.slice s1 d.consts.length e1) (.slice s2 d.procs.length e2) (.slice s3 d.globals.length e3))) := HX3.out.next hb4
      clear y0 y1 y2 t0 t1 t2
      have y0 : w4.cell? ⟨w.heap.size, 0, none⟩ = some (.slice r1 c.consts.length c1) := heap_cell HX4.out.b1 rfl
      have y1 : w4.cell? ⟨w.heap.size, 1, none⟩ = some (.slice r2 c.procs.length c2) := heap_cell HX4.out.b1 rfl
      have y2 : w4.cell? ⟨w.heap.size, 2, none⟩ = some (.slice r3 c.globals.length c3) := heap_cell HX4.out.b1 rfl
      have t0 : w4.cell? ⟨w.heap.size + 1, 0, none⟩ = some (.slice s1 d.consts.length e1) := heap_cell HX4.out.b2 rfl
      have t1 : w4.cell? ⟨w.heap.size + 1, 1, none⟩ = some (.slice s2 d.procs.length e2) := heap_cell HX4.out.b2 rfl
      have t2 : w4.cell? ⟨w.heap.size + 1, 2, none⟩ = some (.slice s3 d.globals.length e3) := heap_cell HX4.out.b2 rfl
      clear hb4 HX3 HS1
      go_wp2_with fail
      refine Calls.mono (HS2.out _ HX4.out.bel) ?_
      rintro e w5 ⟨rfl, hb5⟩
      have HX5 : Hid (Bx2 w w5 (CO (.slice r1 c.consts.length c1) (.slice r2 c.procs.length c2) (.slice r3 c.globals.length c3)) (CO (.slice s1 d.consts.length e1) (.slice s2 d.procs.length e2) (.slice s3 d.globals.length e3))) := HX4.out.next hb5
      clear y0 y1 y2 t0 t1 t2
      have y0 : w5.cell? ⟨w.heap.size, 0, none⟩ = some (.slice r1 c.consts.length c1) := heap_cell HX5.out.b1 rfl
      have y1 : w5.cell? ⟨w.heap.size, 1, none⟩ = some (.slice r2 c.procs.length c2) := heap_cell HX5.out.b1 rfl
      have y2 : w5.cell? ⟨w.heap.size, 2, none⟩ = some (.slice r3 c.globals.length c3) := heap_cell HX5.out.b1 rfl
      have t0 : w5.cell? ⟨w.heap.size + 1, 0, none⟩ = some (.slice s1 d.consts.length e1) := heap_cell HX5.out.b2 rfl
      have t1 : w5.cell? ⟨w.heap.size + 1, 1, none⟩ = some (.slice s2 d.procs.length e2) := heap_cell HX5.out.b2 rfl
      have t2 : w5.cell? ⟨w.heap.size + 1, 2, none⟩ = some (.slice s3 d.globals.length e3) := heap_cell HX5.out.b2 rfl
      clear hb5 HX4 HS2
      go_wp2_with fail
      refine Calls.mono (HS3.out _ HX5.out.bel) ?_
      rintro e w6 ⟨rfl, hb6⟩
      have HX6 : Hid (Bx2 w w6 (CO (.slice r1 c.consts.length c1) (.slice r2 c.procs.length c2) (.slice r3 c.globals.length c3)) (CO (.slice s1 d.consts.length e1) (.slice s2 d.procs.length e2) (.slice s3 d.globals.length e3))) := HX5.out.next hb6
      clear y0 y1 y2 t0 t1 t2
      have y0 : w6.cell? ⟨w.heap.size, 0, none⟩ = some (.slice r1 c.consts.length c1) := heap_cell HX6.out.b1 rfl
      have y1 : w6.cell? ⟨w.heap.size, 1, none⟩ = some (.slice r2 c.procs.length c2) := heap_cell HX6.out.b1 rfl
      have y2 : w6.cell? ⟨w.heap.size, 2, none⟩ = some (.slice r3 c.globals.length c3) := heap_cell HX6.out.b1 rfl
      have t0 : w6.cell? ⟨w.heap.size + 1, 0, none⟩ = some (.slice s1 d.consts.length e1) := heap_cell HX6.out.b2 rfl
      have t1 : w6.cell? ⟨w.heap.size + 1, 1, none⟩ = some (.slice s2 d.procs.length e2) := heap_cell HX6.out.b2 rfl
      have t2 : w6.cell? ⟨w.heap.size + 1, 2, none⟩ = some (.slice s3 d.globals.length e3) := heap_cell HX6.out.b2 rfl
      have l1 : w.heap.size < w6.heap.size := heap_lt HX6.out.b1
      have l2 : w.heap.size + 1 < w6.heap.size := heap_lt HX6.out.b2
      clear hb6 HX5 HS3 y0 y1 y2
      generalize sameC c d = sm at *
      go_wp2_with fail
      go_region_held3 (fun wx => wx.cell? ⟨w.heap.size + 1, 0, none⟩ = some (.slice s1 d.consts.length e1) ∧ wx.cell? ⟨w.heap.size + 1, 1, none⟩ = some (.slice s2 d.procs.length e2) ∧ wx.cell? ⟨w.heap.size + 1, 2, none⟩ = some (.slice s3 d.globals.length e3)) (first | go_keep | exact hSa | exact hSb)
        (first | (go_at_call 13; refine (HLn.out HW'.out _ HX6.out.bel.drew).mono ?_; rintro e wa ⟨⟨g1, n1, m1, g2, n2, m2, g3, n3, m3, rfl, hcv⟩, hba⟩; have hba' : Below w6.heap.size w6 wa := (Below.refl _ w6).drew.trans hba; have hSa := keep3 hba' l2 ⟨t0, t1, t2⟩)
               | (go_at_call 23; refine (HS4.out _ _ (HX6.out.bel.trans (hba'.mono HX6.out.bel.size)) hcv).mono ?_; rintro e wb ⟨rfl, hbb⟩; have hbb' : Below w6.heap.size w6 wb := hba'.trans (hbb.mono hba'.size); have hSb := keep3 hbb' l2 ⟨t0, t1, t2⟩))
      all_goals
        have HB : Hid (Below w.heap.size w wb) := HX6.out.bel.trans (hbb'.mono HX6.out.bel.size)
        clear hSa hSb hba hbb hba' hbb' hcv
        go_wp2
        go_ret
        refine ⟨?_, HB.out⟩
        cases sm <;> rfl
end Go.Proofs.YtnblieohdngmiaaGreatDoor
