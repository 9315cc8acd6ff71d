/- The walk of CodeMore. -/
import Derived.Test.YtnblieohdngmiabGreatDoorHMApp
import Derived.Test.YtnblieohdngmiabGreatDoorGN
import Derived.Test.YtnblieohdngmiabGreatDoorHBMath
import Derived.Deep.DeepCutAuto
import Derived.Deep.RegionHeld3
namespace Go.Proofs.YtnblieohdngmiabGreatDoor
open Go.RowKit

abbrev PO (p : Prc) (rc : Option Addr) (cc : Nat) : Obj := .cells #[.int .i64 p.params, .slice rc p.code.length cc] 29
/-- The blocks of two variables. -/
structure Bx2 (w W : World) (o1 o2 : Obj) : Prop where
  bel : Below w.heap.size w W
  b1 : W.heap[w.heap.size]? = some o1
  b2 : W.heap[w.heap.size + 1]? = some o2
theorem Bx2.next {w W W' : World} {o1 o2 : Obj} (h : Bx2 w W o1 o2) (hb : Below W.heap.size W W') : Bx2 w W' o1 o2 :=
  ⟨h.bel.trans (hb.mono h.bel.size), (hb.block _ (heap_lt h.b1)).trans h.b1, (hb.block _ (heap_lt h.b2)).trans h.b2⟩
theorem Bx2.kept {w W W' : World} {o1 o2 : Obj} {B : Nat} (h : Bx2 w W o1 o2) (hb : Below B W W') (hB : w.heap.size + 2 ≤ B) : Bx2 w W' o1 o2 :=
  ⟨h.bel.trans (hb.mono (by omega)), (hb.block _ (by omega)).trans h.b1, (hb.block _ (by omega)).trans h.b2⟩
theorem wtT_len : ∀ l : List (List UInt8), l.length ≤ wtT l
  | [] => Nat.zero_le _
  | x :: l => by have := wtT_len l; simp only [wtT, List.length_cons]; omega
theorem wtP_len : ∀ l : List Prc, l.length ≤ wtP l
  | [] => Nat.zero_le _
  | x :: l => by have := wtP_len l; simp only [wtP, List.length_cons]; omega
theorem wtC_lens {c : Cd} {N : Nat} (h : wtC c ≤ N) : c.consts.length ≤ N ∧ c.procs.length ≤ N ∧ c.globals.length ≤ N := by
  unfold wtC at h
  have h1 := wtT_len c.globals
  have h2 := wtP_len c.procs
  exact ⟨by omega, by omega, by omega⟩
theorem sum_le {na nb : Nat} (h : decide ((8388608 : Int) < IntKind.i64.wrap ((na : Int) + (nb : Int))) = false) (hb : (na : Int) + (nb : Int) ≤ 9223372036854775807) : na + nb ≤ 8388608 := by
  rw [decide_eq_false_iff_not, IntKind.wrap_i64] at h; omega
theorem keepM4 {W W' : World} {g h : Nat} {v0 v1 v2 u1 : Value} (hb : Below W.heap.size W W') (hg : g < W.heap.size) (hh : h < W.heap.size)
    (s : W.cell? ⟨g, 0, none⟩ = some v0 ∧ W.cell? ⟨g, 1, none⟩ = some v1 ∧ W.cell? ⟨g, 2, none⟩ = some v2 ∧ W.cell? ⟨h, 1, none⟩ = some u1) :
    W'.cell? ⟨g, 0, none⟩ = some v0 ∧ W'.cell? ⟨g, 1, none⟩ = some v1 ∧ W'.cell? ⟨g, 2, none⟩ = some v2 ∧ W'.cell? ⟨h, 1, none⟩ = some u1 := by
  obtain ⟨a0, a1, a2, a4⟩ := s
  have e := fun o => hb.cell (p := ⟨g, o, none⟩) hg
  have e' := fun o => hb.cell (p := ⟨h, o, none⟩) hh
  exact ⟨(e _).trans a0, (e _).trans a1, (e _).trans a2, (e' _).trans a4⟩
theorem cells_three {w0 : World} {b : Nat} {v0 v1 v2 : Value} (h : w0.heap[b]? = some (CO v0 v1 v2)) : (w0.cell? ⟨b, 0, none⟩ = some v0 ∧ w0.cell? ⟨b, 1, none⟩ = some v1 ∧ w0.cell? ⟨b, 2, none⟩ = some v2) ∧ (w0.frozen? ⟨b, 0, none⟩ = false ∧ w0.frozen? ⟨b, 1, none⟩ = false ∧ w0.frozen? ⟨b, 2, none⟩ = false) ∧ b < w0.heap.size :=
  ⟨⟨heap_cell h rfl, heap_cell h rfl, heap_cell h rfl⟩, ⟨by simp [World.frozen?, h], by simp [World.frozen?, h], by simp [World.frozen?, h]⟩, heap_lt h⟩
theorem grown_at {w w' : World} {row : Option Nat} {b : Nat} {o : Obj} (hg : w.grownBy w' row) (h : w.heap[b]? = some o) (hr : row ≠ some b) : w'.heap[b]? = some o :=
  (hg.block b (heap_lt h) (fun e => hr e.symm)).trans h
theorem own_low {w : World} {base base' e size n : Nat} {v : Value} {xs : List Value} (h : w.ownsRow base e size v n xs) (hb : base' ≤ base) : w.ownsRow base' e size v n xs := by
  refine ⟨h.1, ?_⟩
  rcases h.2 with h' | ⟨g, cap, cur, hv, hg, hh, r⟩
  · exact .inl h'
  · exact .inr ⟨g, cap, cur, hv, Nat.le_trans hb hg, hh, r⟩
theorem grown_low {w w' : World} {row : Option Nat} {B : Nat} (hg : w.grownBy w' row) (hB : ∀ g, row = some g → B ≤ g) (hs : B ≤ w.heap.size) : Below B w w' := (Below.refl B w).grown hg hs hB
set_option maxRecDepth 100000 in
set_option maxHeartbeats 32000000 in
theorem codeMore_walk (c : Cd) (v : Value) (P : Prc) (rp : Option Addr) (cp : Nat) (x : Int) (w : World) (hE : Env w) (hv : CV w v c) (hx : ∀ t ∈ c.globals, t.length ≤ 281474976710656) (hz : c.consts.length ≤ 281474976710656 ∧ c.procs.length ≤ 281474976710656 ∧ c.globals.length ≤ 281474976710656) (hk : ∀ p ∈ c.procs, p.code.length ≤ 281474976710656) (hr : ∀ x ∈ c.consts, Rng x)
    (hP : NR w rp P.code) (hpl : P.code.length ≤ 281474976710656) (hxr : Rng x) :
    Calls Tryz.prog 3 #[v, (.agg #[.int .i64 P.params, .slice rp P.code.length cp]), .int .u64 x] w fun e w' => e = .returned (.bool true) ∧ Below w.heap.size w w' := by
  have hv' := hv
  obtain ⟨⟨r1, c1, r2, c2, r3, c3, rfl, hw1, hp1, hx1, -⟩, -⟩ := hv'
  have HE : Hid (Env w) := hE
  have hal0 : Below w.heap.size w ((w.alloc (CO (.slice r1 c.consts.length c1) (.slice r2 c.procs.length c2) (.slice r3 c.globals.length c3))).alloc (PO P rp cp)) := ((Below.refl _ w).alloc (Nat.le_refl _) _).alloc (by simp) _
  have HX0 : Hid (Bx2 w ((w.alloc (CO (.slice r1 c.consts.length c1) (.slice r2 c.procs.length c2) (.slice r3 c.globals.length c3))).alloc (PO P rp cp)) (CO (.slice r1 c.consts.length c1) (.slice r2 c.procs.length c2) (.slice r3 c.globals.length c3)) (PO P rp cp)) := ⟨hal0, (Below.heap_alloc _ _ _ (by simp)).trans (heap_alloc_new _ _), by
    have := heap_alloc_new (w.alloc (CO (.slice r1 c.consts.length c1) (.slice r2 c.procs.length c2) (.slice r3 c.globals.length c3))) (PO P rp cp)
    rwa [World.size_alloc] at this⟩
  have HWk : Hid (Calls Tryz.prog 5 #[] ((w.alloc (CO (.slice r1 c.consts.length c1) (.slice r2 c.procs.length c2) (.slice r3 c.globals.length c3))).alloc (PO P rp cp)) fun e w' => e = .returned (.bool true) ∧ Below ((w.alloc (CO (.slice r1 c.consts.length c1) (.slice r2 c.procs.length c2) (.slice r3 c.globals.length c3))).alloc (PO P rp cp)).heap.size ((w.alloc (CO (.slice r1 c.consts.length c1) (.slice r2 c.procs.length c2) (.slice r3 c.globals.length c3))).alloc (PO P rp cp)) w') := works_any _ (hE.below hal0)
  have HOf : Hid (∀ w5 : World, Below w.heap.size w w5 → Calls Tryz.prog 6 #[(.agg #[.slice r1 c.consts.length c1, .slice r2 c.procs.length c2, .slice r3 c.globals.length c3])] w5 fun e w' => OfR 2251799813685248 (wtC c) e ∧ Below w5.heap.size w5 w') := fun w5 h5 => ofCode_any c _ w5 (hv.below h5) hx hz hk
  have HCh : Hid (∀ (d : Cd) (vd : Value) (w5 : World), Below w.heap.size w w5 → CV w5 vd d → d.globals = c.globals → Calls Tryz.prog 7 #[vd] w5 fun e w' => e = .returned (eppV (chkC d)) ∧ Below w5.heap.size w5 w') := fun d vd w5 h5 h6 h7 => by
    have hen := HE.out.below h5
    exact check_any d _ w5 h6 (by rw [h7]; exact hx) hen.T hen.E hen.P
  have HCV : Hid (∀ w5 : World, Below w.heap.size w w5 → CV w5 (.agg #[.slice r1 c.consts.length c1, .slice r2 c.procs.length c2, .slice r3 c.globals.length c3]) c) := fun w5 h5 => hv.below h5
  have HWx : Hid (∀ w5 : World, Below w.heap.size w w5 → Calls Tryz.prog 8 #[.int .u64 x] w5 fun e w' => e = .returned (.tuple #[.int .u8 (ofT x), .int .i64 (ofN x), .bool (wd x)]) ∧ w' = w5) := fun w5 h5 => of_any x w5 hxr (HE.out.below h5).T
  have HRc : Hid (∀ x ∈ c.consts, Rng x) := hr
  have HGl : Hid (∀ t ∈ c.globals, t.length ≤ maxLen) := fun t ht => Nat.le_trans (hx t ht) (by unfold maxLen; omega)
  have HP : Hid (NR w rp P.code) := hP
  have HXr : Hid (Rng x) := hxr
  obtain ⟨i1, hi1, hz1, hs1, hb1⟩ := info_parts infoW
  obtain ⟨i2, hi2, hz2, hs2, hb2⟩ := info_parts infoPr
  obtain ⟨i3, hi3, hz3, hs3, hb3⟩ := info_parts infoSt
  have hmx : Tryz.prog.follows .mixedOrders = true := by kernel_rfl
  obtain ⟨vs, q1, q2, q3, q4⟩ := procs_cells hp1
  have HVs : Hid (vs.length = c.procs.length ∧ (∀ (j : Nat) (p : Prc) (v : Value), c.procs[j]? = some p → vs[j]? = some v → ∃ rc cc, v = .slice rc p.code.length cc ∧ NR w rc p.code ∧ p.code.length ≤ maxLen) ∧ (∀ u ∈ prcCells c.procs vs, u.oneCell' = true)) := ⟨q1, q2, q3⟩
  have HC2 : Hid (∀ w5 : World, Below w.heap.size w w5 → ∀ ad, r2 = some ad → ∀ j u, (prcCells c.procs vs)[j]? = some u → w5.cell? (ad.add j) = some u) := fun w5 h5 ad had j u hu => by
    obtain ⟨g1, g2⟩ := q4 ad had j u hu
    have : (ad.add j).block = ad.block := by unfold Addr.add; split <;> rfl
    exact (h5.cell (p := ad.add j) (by rw [this]; exact g2)).trans g1
  have HN2 : Hid (r2 = none → c.procs.length = 0) := fun h => by
    obtain ⟨b, o, h1, _⟩ := PR.at hp1
    rcases Nat.eq_zero_or_pos c.procs.length with h0 | h0
    · exact h0
    · rw [h1 (by omega)] at h; cases h
  obtain ⟨d1, f1, g1, k1⟩ := hw1.at
  have HN1 : Hid (r1 = none → c.consts.length = 0) := fun h => by
    rcases Nat.eq_zero_or_pos c.consts.length with h0 | h0
    · exact h0
    · rw [g1 (by omega)] at h; cases h
  have HC1 : Hid (∀ w5 : World, Below w.heap.size w w5 → ∀ ad, r1 = some ad → ∀ j u, (wordCells c.consts)[j]? = some u → w5.cell? (ad.add j) = some u) := fun w5 h5 ad had j u hu => by
    obtain ⟨y, hy, rfl⟩ := row_get _ _ _ hu
    obtain ⟨e1, e2, _⟩ := k1 j y hy
    rw [g1 (by have := (List.getElem?_eq_some_iff.1 hy).1; omega)] at had
    cases had
    rw [ad_add]
    exact (h5.cell (p := ⟨d1, f1 + j, none⟩) e1).trans e2
  obtain ⟨d3, f3, g3, k3⟩ := hx1.at
  have HN3 : Hid (r3 = none → c.globals.length = 0) := fun h => by
    rcases Nat.eq_zero_or_pos c.globals.length with h0 | h0
    · exact h0
    · rw [g3 (by omega)] at h; cases h
  have HC3 : Hid (∀ w5 : World, Below w.heap.size w w5 → ∀ ad, r3 = some ad → ∀ j u, (c.globals.map S)[j]? = some u → w5.cell? (ad.add j) = some u) := fun w5 h5 ad had j u hu => by
    rw [List.getElem?_map] at hu
    obtain ⟨y, hy, rfl⟩ := Option.map_eq_some_iff.1 hu
    obtain ⟨e1, e2, _⟩ := k3 j y hy
    rw [g3 (by have := (List.getElem?_eq_some_iff.1 hy).1; omega)] at had
    cases had
    rw [ad_add]
    exact (h5.cell (p := ⟨d3, f3 + j, none⟩) e1).trans e2
  have HU1 : Hid (∀ u ∈ wordCells c.consts, u.oneCell' = true) := fun u hu => by
    obtain ⟨j, hj⟩ := List.getElem?_of_mem hu
    obtain ⟨y, _, rfl⟩ := row_get _ _ _ hj; rfl
  have HU3 : Hid (∀ u ∈ c.globals.map S, u.oneCell' = true) := fun u hu => by
    obtain ⟨y, _, rfl⟩ := List.mem_map.1 hu; rfl
  clear hE hv hx hz hk hr hal0 hw1 hp1 hx1 hP hxr q1 q2 q3 q4 g1 k1 g3 k3
  go_enter Tryz.func3, Tryz.ntmps3
  go_wp2_with fail
  refine Calls.mono HWk.out ?_
  rintro e w1 ⟨rfl, hb1⟩
  have HX1 : Hid (Bx2 w w1 (CO (.slice r1 c.consts.length c1) (.slice r2 c.procs.length c2) (.slice r3 c.globals.length c3)) (PO P rp cp)) := HX0.out.next hb1
  have y0 : w1.cell? ⟨w.heap.size, 0, none⟩ = some (.slice r1 c.consts.length c1) := heap_cell HX1.out.b1 rfl
  have y1 : w1.cell? ⟨w.heap.size, 1, none⟩ = some (.slice r2 c.procs.length c2) := heap_cell HX1.out.b1 rfl
  have y2 : w1.cell? ⟨w.heap.size, 2, none⟩ = some (.slice r3 c.globals.length c3) := heap_cell HX1.out.b1 rfl
  have t0 : w1.cell? ⟨w.heap.size + 1, 0, none⟩ = some (.int .i64 P.params) := heap_cell HX1.out.b2 rfl
  have t1 : w1.cell? ⟨w.heap.size + 1, 1, none⟩ = some (.slice rp P.code.length cp) := heap_cell HX1.out.b2 rfl
  have l1 : w.heap.size < w1.heap.size := heap_lt HX1.out.b1
  have l2 : w.heap.size + 1 < w1.heap.size := heap_lt HX1.out.b2
  clear HWk hb1 HX0
  go_upto_region 2 with fail
  go_cut [33] (fun v wx => ∃ bb : Bool, v = .bool bb ∧ Hid (bb = false → wtC c ≤ 8388608 ∧ P.code.length ≤ 8388608) ∧ Hid (Bx2 w wx (CO (.slice r1 c.consts.length c1) (.slice r2 c.procs.length c2) (.slice r3 c.globals.length c3)) (PO P rp cp)))
  case first =>
    go_region_held3 (fun wx => wx.cell? ⟨w.heap.size, 0, none⟩ = some (.slice r1 c.consts.length c1) ∧ wx.cell? ⟨w.heap.size, 1, none⟩ = some (.slice r2 c.procs.length c2) ∧ wx.cell? ⟨w.heap.size, 2, none⟩ = some (.slice r3 c.globals.length c3) ∧ wx.cell? ⟨w.heap.size + 1, 1, none⟩ = some (.slice rp P.code.length cp)) (first | go_keep | exact hSa)
      (first | (go_at_call 6; refine (HOf.out _ HX1.out.bel.drew).mono ?_; rintro e wa ⟨⟨na, rfl, ha1, ha2⟩, hba⟩; have hba' : Below w1.heap.size w1 wa := (Below.refl _ w1).drew.trans hba; have hSa := keepM4 hba' l1 l2 ⟨y0, y1, y2, t1⟩))
    all_goals
      have HZ : Hid (Bx2 w wa (CO (.slice r1 c.consts.length c1) (.slice r2 c.procs.length c2) (.slice r3 c.globals.length c3)) (PO P rp cp)) := HX1.out.next hba'
      have HN : Hid (na + P.code.length ≤ 8388608 → wtC c ≤ 8388608 ∧ P.code.length ≤ 8388608) := fun h => by have := ha2 (by omega); omega
      have HI0 : Hid ((na : Int) + (P.code.length : Int) ≤ 9223372036854775807) := by show _ ≤ _; omega
      clear hSa hba hba' ha2
      go_wp2_with fail
      go_meet
      exact ⟨_, rfl, fun h => HN.out (sum_le h HI0.out), HZ⟩
  case rest =>
    obtain ⟨bb, rfl, HW, HX2⟩ := hcut
    obtain ⟨w2, rfl⟩ : ∃ w2, w2 = wc := ⟨_, rfl⟩
    clear y0 y1 y2 t0 t1 l1 l2 HX1 HOf
    cases bb with
    | true =>
      go_wp2
      go_ret
      exact ⟨rfl, HX2.out.bel⟩
    | false =>
      obtain ⟨hwt, hpc⟩ := HW.out rfl
      obtain ⟨n1, n2, n3⟩ := wtC_lens hwt
      clear HW hwt
      have y0 : w2.cell? ⟨w.heap.size, 0, none⟩ = some (.slice r1 c.consts.length c1) := heap_cell HX2.out.b1 rfl
      have y1 : w2.cell? ⟨w.heap.size, 1, none⟩ = some (.slice r2 c.procs.length c2) := heap_cell HX2.out.b1 rfl
      have y2 : w2.cell? ⟨w.heap.size, 2, none⟩ = some (.slice r3 c.globals.length c3) := heap_cell HX2.out.b1 rfl
      go_wp2_with fail
      refine Calls.mono (HCh.out c _ w2 HX2.out.bel (HCV.out w2 HX2.out.bel) rfl) ?_
      rintro e w3 ⟨rfl, hb3⟩
      have HX3 : Hid (Bx2 w w3 (CO (.slice r1 c.consts.length c1) (.slice r2 c.procs.length c2) (.slice r3 c.globals.length c3)) (PO P rp cp)) := HX2.out.next hb3
      clear hb3 HX2 y0 y1 y2 HCV
      unfold eppV
      generalize hck : chkC c = ck at *
      obtain ⟨e0, p0, q0⟩ := ck
      by_cases he0 : e0 = 0
      case neg =>
        have hne : (e0 != 0) = true := by simpa using he0
        clear hck he0
        go_wp2
        go_ret
        exact ⟨rfl, HX3.out.bel⟩
      subst he0
      have HCk : Hid ((chkC c).1 = 0) := by show _ = _; rw [hck]
      clear hck
      have hls : w3.heap.size < (w3.alloc ZC).heap.size := by simp
      have h2s : w.heap.size + 1 < w3.heap.size := heap_lt HX3.out.b2
      have HX : Hid (Bx2 w (w3.alloc ZC) (CO (.slice r1 c.consts.length c1) (.slice r2 c.procs.length c2) (.slice r3 c.globals.length c3)) (PO P rp cp)) := HX3.out.next ((Below.refl _ w3).alloc (Nat.le_refl _) _)
      have HO : Hid ((w3.alloc ZC).heap[w3.heap.size]? = some (CO (.slice none 0 0) (.slice none 0 0) (.slice none 0 0))) := heap_alloc_new w3 ZC
      go_upto_region 8 with fail
      generalize w3.alloc ZC = W0 at *
      obtain ⟨⟨z0, z1, z2⟩, ⟨f0, f1, f2⟩, lb⟩ := cells_three HO.out
      have y0 : W0.cell? ⟨w.heap.size, 0, none⟩ = some (.slice r1 c.consts.length c1) := heap_cell HX.out.b1 rfl
      have ly : w.heap.size < W0.heap.size := heap_lt HX.out.b1
      go_wp2_with (at_builtin; refine stop_of ?_)
      unfold Hid
      refine wpList_append_all _ rfl _ _ 22 rfl (w3.heap.size + 1) 31 i1 (.int .u64 0) 1 8 Tryz.underlying22 hi1 hz1 hs1 hb1 rfl (by decide) (.slice none 0 0) 0 [] rfl ⟨by simp, .inl ⟨rfl, rfl⟩⟩ r1 c.consts.length c1 (wordCells c.consts) rfl (by simp [wordCells]) HN1.out (HC1.out W0 HX.out.bel) HU1.out (by unfold maxLen; omega) (by omega) (by omega) ?_
      intro ra1 ca1 u1 hown hgr _
      rw [Nat.zero_add, List.nil_append] at hown
      rw [Nat.zero_add]
      have hO5 := grown_at hgr HO.out (by simp [Value.ownBlock])
      have hX5 := HX.out.next (grown_low hgr (fun g hg => by simp [Value.ownBlock] at hg) (Nat.le_refl _))
      have hs5 : W0.heap.size ≤ u1.heap.size := hgr.size
      have hX6 : Bx2 w (u1.setCell ⟨w3.heap.size, 0, none⟩ (.slice ra1 c.consts.length ca1)) (CO (.slice r1 c.consts.length c1) (.slice r2 c.procs.length c2) (.slice r3 c.globals.length c3)) (PO P rp cp) := hX5.kept (B := w3.heap.size) ((Below.refl _ u1).setCell (p := ⟨w3.heap.size, 0, none⟩) (Nat.le_refl _) _) (by omega)
      have hO6 : (u1.setCell ⟨w3.heap.size, 0, none⟩ (.slice ra1 c.consts.length ca1)).heap[w3.heap.size]? = some (CO (.slice ra1 c.consts.length ca1) (.slice none 0 0) (.slice none 0 0)) := set_atC hO5 _
      have hset : ∀ g, w3.heap.size + 1 ≤ g → (u1.setCell ⟨w3.heap.size, 0, none⟩ (.slice ra1 c.consts.length ca1)).heap[g]? = u1.heap[g]? := fun g hg => Below.heap_setCell _ _ _ _ (by show g ≠ w3.heap.size; omega)
      have HR1 : Hid ((u1.setCell ⟨w3.heap.size, 0, none⟩ (.slice ra1 c.consts.length ca1)).ownsRow (w3.heap.size + 1) 31 1 (.slice ra1 c.consts.length ca1) c.consts.length (wordCells c.consts)) := own_same hown (fun g hg => hset g (hown.lt g hg).1)
      replace HX : Hid (Bx2 w (u1.setCell ⟨w3.heap.size, 0, none⟩ (.slice ra1 c.consts.length ca1)) (CO (.slice r1 c.consts.length c1) (.slice r2 c.procs.length c2) (.slice r3 c.globals.length c3)) (PO P rp cp)) := hX6
      replace HO : Hid ((u1.setCell ⟨w3.heap.size, 0, none⟩ (.slice ra1 c.consts.length ca1)).heap[w3.heap.size]? = some (CO (.slice ra1 c.consts.length ca1) (.slice none 0 0) (.slice none 0 0))) := hO6
      have hl6 : w3.heap.size < u1.heap.size := by omega
      replace hls : w3.heap.size < (u1.setCell ⟨w3.heap.size, 0, none⟩ (.slice ra1 c.consts.length ca1)).heap.size := heap_lt HO.out
      have sc0 : u1.cell? ⟨w3.heap.size, 0, none⟩ = some (.slice none 0 0) := heap_cell hO5 rfl
      have sf0 : u1.frozen? ⟨w3.heap.size, 0, none⟩ = false := by simp [World.frozen?, hO5]
      clear hown hgr hO5 hX5 hs5 hX6 hO6 hset z0 z1 z2 f0 f1 f2 lb y0 ly
      go_upto_region 9 with fail
      clear sc0 sf0 hl6
      generalize (u1.setCell ⟨w3.heap.size, 0, none⟩ (.slice ra1 c.consts.length ca1)) = W1 at *
      obtain ⟨⟨z0, z1, z2⟩, ⟨f0, f1, f2⟩, lb⟩ := cells_three HO.out
      have y2 : W1.cell? ⟨w.heap.size, 2, none⟩ = some (.slice r3 c.globals.length c3) := heap_cell HX.out.b1 rfl
      have ly : w.heap.size < W1.heap.size := heap_lt HX.out.b1
      go_wp2_with (at_builtin; refine stop_of ?_)
      unfold Hid
      refine wpList_append_all _ rfl _ _ 24 rfl (w3.heap.size + 1) 9 i3 (.string ⟨#[]⟩) 1 16 Tryz.underlying24 hi3 hz3 hs3 hb3 rfl (by decide) (.slice none 0 0) 0 [] rfl ⟨by simp, .inl ⟨rfl, rfl⟩⟩ r3 c.globals.length c3 (c.globals.map S) rfl (by simp) HN3.out (HC3.out W1 HX.out.bel) HU3.out (by unfold maxLen; omega) (by omega) (by omega) ?_
      intro ra3 ca3 u3 hown hgr _
      rw [Nat.zero_add, List.nil_append] at hown
      rw [Nat.zero_add]
      have hO5 := grown_at hgr HO.out (by simp [Value.ownBlock])
      have hX5 := HX.out.next (grown_low hgr (fun g hg => by simp [Value.ownBlock] at hg) (Nat.le_refl _))
      have hs5 : W1.heap.size ≤ u3.heap.size := hgr.size
      have hX6 : Bx2 w (u3.setCell ⟨w3.heap.size, 2, none⟩ (.slice ra3 c.globals.length ca3)) (CO (.slice r1 c.consts.length c1) (.slice r2 c.procs.length c2) (.slice r3 c.globals.length c3)) (PO P rp cp) := hX5.kept (B := w3.heap.size) ((Below.refl _ u3).setCell (p := ⟨w3.heap.size, 2, none⟩) (Nat.le_refl _) _) (by omega)
      have hO6 : (u3.setCell ⟨w3.heap.size, 2, none⟩ (.slice ra3 c.globals.length ca3)).heap[w3.heap.size]? = some (CO (.slice ra1 c.consts.length ca1) (.slice none 0 0) (.slice ra3 c.globals.length ca3)) := set_atC hO5 _
      have hset : ∀ g, w3.heap.size + 1 ≤ g → (u3.setCell ⟨w3.heap.size, 2, none⟩ (.slice ra3 c.globals.length ca3)).heap[g]? = u3.heap[g]? := fun g hg => Below.heap_setCell _ _ _ _ (by show g ≠ w3.heap.size; omega)
      have HR3 : Hid ((u3.setCell ⟨w3.heap.size, 2, none⟩ (.slice ra3 c.globals.length ca3)).ownsRow (w3.heap.size + 1) 9 1 (.slice ra3 c.globals.length ca3) c.globals.length (c.globals.map S)) := own_same hown (fun g hg => hset g (hown.lt g hg).1)
      replace HR1 : Hid ((u3.setCell ⟨w3.heap.size, 2, none⟩ (.slice ra3 c.globals.length ca3)).ownsRow (w3.heap.size + 1) 31 1 (.slice ra1 c.consts.length ca1) c.consts.length (wordCells c.consts)) := own_same HR1.out (fun g hg => (hset g (HR1.out.lt g hg).1).trans (hgr.block g (HR1.out.lt g hg).2 (by simp [Value.ownBlock])))
      replace HX : Hid (Bx2 w (u3.setCell ⟨w3.heap.size, 2, none⟩ (.slice ra3 c.globals.length ca3)) (CO (.slice r1 c.consts.length c1) (.slice r2 c.procs.length c2) (.slice r3 c.globals.length c3)) (PO P rp cp)) := hX6
      replace HO : Hid ((u3.setCell ⟨w3.heap.size, 2, none⟩ (.slice ra3 c.globals.length ca3)).heap[w3.heap.size]? = some (CO (.slice ra1 c.consts.length ca1) (.slice none 0 0) (.slice ra3 c.globals.length ca3))) := hO6
      have hl6 : w3.heap.size < u3.heap.size := by omega
      replace hls : w3.heap.size < (u3.setCell ⟨w3.heap.size, 2, none⟩ (.slice ra3 c.globals.length ca3)).heap.size := heap_lt HO.out
      have sc0 : u3.cell? ⟨w3.heap.size, 2, none⟩ = some (.slice none 0 0) := heap_cell hO5 rfl
      have sf0 : u3.frozen? ⟨w3.heap.size, 2, none⟩ = false := by simp [World.frozen?, hO5]
      clear hown hgr hO5 hX5 hs5 hX6 hO6 hset z0 z1 z2 f0 f1 f2 lb y2 ly
      go_upto_region 10 with fail
      clear sc0 sf0 hl6
      generalize (u3.setCell ⟨w3.heap.size, 2, none⟩ (.slice ra3 c.globals.length ca3)) = W3 at *
      obtain ⟨⟨z0, z1, z2⟩, ⟨f0, f1, f2⟩, lb⟩ := cells_three HO.out
      have y1 : W3.cell? ⟨w.heap.size, 1, none⟩ = some (.slice r2 c.procs.length c2) := heap_cell HX.out.b1 rfl
      have ly : w.heap.size < W3.heap.size := heap_lt HX.out.b1
      go_wp2_with (at_builtin; refine stop_of ?_)
      unfold Hid
      refine wpList_append_all _ rfl _ _ 23 rfl (w3.heap.size + 1) 29 i2 (.agg #[.int .i64 0, .slice none 0 0]) 2 32 Tryz.underlying23 hi2 hz2 hs2 hb2 rfl (by decide) (.slice none 0 0) 0 [] rfl ⟨by simp, .inl ⟨rfl, rfl⟩⟩ r2 c.procs.length c2 (prcCells c.procs vs) rfl (prcCells_len _ _ HVs.out.1) HN2.out (HC2.out W3 HX.out.bel) HVs.out.2.2 (by unfold maxLen; omega) (by omega) (by omega) ?_
      intro ra2 ca2 u2 hown hgr _
      rw [Nat.zero_add, List.nil_append] at hown
      rw [Nat.zero_add]
      have hO5 := grown_at hgr HO.out (by simp [Value.ownBlock])
      have hX5 := HX.out.next (grown_low hgr (fun g hg => by simp [Value.ownBlock] at hg) (Nat.le_refl _))
      have hs5 : W3.heap.size ≤ u2.heap.size := hgr.size
      have hX6 : Bx2 w (u2.setCell ⟨w3.heap.size, 1, none⟩ (.slice ra2 c.procs.length ca2)) (CO (.slice r1 c.consts.length c1) (.slice r2 c.procs.length c2) (.slice r3 c.globals.length c3)) (PO P rp cp) := hX5.kept (B := w3.heap.size) ((Below.refl _ u2).setCell (p := ⟨w3.heap.size, 1, none⟩) (Nat.le_refl _) _) (by omega)
      have hO6 : (u2.setCell ⟨w3.heap.size, 1, none⟩ (.slice ra2 c.procs.length ca2)).heap[w3.heap.size]? = some (CO (.slice ra1 c.consts.length ca1) (.slice ra2 c.procs.length ca2) (.slice ra3 c.globals.length ca3)) := set_atC hO5 _
      have hset : ∀ g, w3.heap.size + 1 ≤ g → (u2.setCell ⟨w3.heap.size, 1, none⟩ (.slice ra2 c.procs.length ca2)).heap[g]? = u2.heap[g]? := fun g hg => Below.heap_setCell _ _ _ _ (by show g ≠ w3.heap.size; omega)
      have HR2 : Hid ((u2.setCell ⟨w3.heap.size, 1, none⟩ (.slice ra2 c.procs.length ca2)).ownsRow (w3.heap.size + 1) 29 2 (.slice ra2 c.procs.length ca2) c.procs.length (prcCells c.procs vs)) := own_same hown (fun g hg => hset g (hown.lt g hg).1)
      replace HR1 : Hid ((u2.setCell ⟨w3.heap.size, 1, none⟩ (.slice ra2 c.procs.length ca2)).ownsRow (w3.heap.size + 1) 31 1 (.slice ra1 c.consts.length ca1) c.consts.length (wordCells c.consts)) := own_same HR1.out (fun g hg => (hset g (HR1.out.lt g hg).1).trans (hgr.block g (HR1.out.lt g hg).2 (by simp [Value.ownBlock])))
      replace HR3 : Hid ((u2.setCell ⟨w3.heap.size, 1, none⟩ (.slice ra2 c.procs.length ca2)).ownsRow (w3.heap.size + 1) 9 1 (.slice ra3 c.globals.length ca3) c.globals.length (c.globals.map S)) := own_same HR3.out (fun g hg => (hset g (HR3.out.lt g hg).1).trans (hgr.block g (HR3.out.lt g hg).2 (by simp [Value.ownBlock])))
      replace HX : Hid (Bx2 w (u2.setCell ⟨w3.heap.size, 1, none⟩ (.slice ra2 c.procs.length ca2)) (CO (.slice r1 c.consts.length c1) (.slice r2 c.procs.length c2) (.slice r3 c.globals.length c3)) (PO P rp cp)) := hX6
      replace HO : Hid ((u2.setCell ⟨w3.heap.size, 1, none⟩ (.slice ra2 c.procs.length ca2)).heap[w3.heap.size]? = some (CO (.slice ra1 c.consts.length ca1) (.slice ra2 c.procs.length ca2) (.slice ra3 c.globals.length ca3))) := hO6
      have hl6 : w3.heap.size < u2.heap.size := by omega
      replace hls : w3.heap.size < (u2.setCell ⟨w3.heap.size, 1, none⟩ (.slice ra2 c.procs.length ca2)).heap.size := heap_lt HO.out
      have sc0 : u2.cell? ⟨w3.heap.size, 1, none⟩ = some (.slice none 0 0) := heap_cell hO5 rfl
      have sf0 : u2.frozen? ⟨w3.heap.size, 1, none⟩ = false := by simp [World.frozen?, hO5]
      clear hown hgr hO5 hX5 hs5 hX6 hO6 hset z0 z1 z2 f0 f1 f2 lb y1 ly
      go_upto_region 11 with fail
      clear sc0 sf0 hl6
      generalize (u2.setCell ⟨w3.heap.size, 1, none⟩ (.slice ra2 c.procs.length ca2)) = W2 at *
      have HPC : Hid (PC w W2 (w3.heap.size + 1) (.slice ra1 c.consts.length ca1) (.slice ra2 c.procs.length ca2) (.slice ra3 c.globals.length ca3) vs c) := ⟨HR1.out, HR2.out, HR3.out, HVs.out.1, HVs.out.2.1⟩
      clear HR1 HR2 HR3 HC1 HC2 HC3 HN1 HN2 HN3 HU1 HU3
      have x0 : W2.cell? ⟨w.heap.size, 0, none⟩ = some (.slice r1 c.consts.length c1) := heap_cell HX.out.b1 rfl
      go_wp2_with fail
      refine Calls.mono (HWx.out W2 HX.out.bel) ?_
      rintro e w4 ⟨rfl, hw4⟩
      rw [hw4]
      clear hw4 HWx
      go_upto_region 12 with fail
      go_cut [12, 14, 78] (fun _ _ v wx => ∃ bb : Bool, v = .bool bb ∧ wx = W2 ∧ Hid (bb = true → isConstB x = true ∧ c.consts.length < 1024))
      case first =>
        cases h1 : wd x with
        | false =>
          go_wp2_with fail
          go_meet
          exact ⟨false, rfl, rfl, fun h => by cases h⟩
        | true =>
          cases h2 : (ofT x != 8) with
          | false =>
            go_wp2_with fail
            go_meet
            exact ⟨false, rfl, rfl, fun h => by cases h⟩
          | true =>
            by_cases h3 : c.consts.length < 1024
            · have h3' : (c.consts.length : Int) < 1024 := by omega
              have HH : Hid (isConstB x = true ∧ c.consts.length < 1024) := ⟨by unfold isConstB; rw [h1, h2]; rfl, h3⟩
              go_wp2_with fail
              go_meet
              exact ⟨true, rfl, rfl, fun _ => HH.out⟩
            · have h3' : ¬ (c.consts.length : Int) < 1024 := by omega
              go_wp2_with fail
              go_meet
              exact ⟨false, rfl, rfl, fun h => by cases h⟩
      case rest =>
        obtain ⟨bb, rfl, hw4, HBB⟩ := hcut
        rw [hw4]
        clear hw4 x0
        go_upto_if 78 with fail
        go_cut [6] (fun v wx => v = .bool false ∧ ∃ (cs : List Int) (ra1 : Option Addr) (ca1 : Nat), Hid (cs = c.consts ∨ (cs = c.consts ++ [x] ∧ isConstB x = true ∧ c.consts.length < 1024)) ∧ Hid (wx.heap[w3.heap.size]? = some (CO (.slice ra1 cs.length ca1) (.slice ra2 c.procs.length ca2) (.slice ra3 c.globals.length ca3))) ∧ Hid (PC w wx (w3.heap.size + 1) (.slice ra1 cs.length ca1) (.slice ra2 c.procs.length ca2) (.slice ra3 c.globals.length ca3) vs ⟨cs, c.procs, c.globals⟩) ∧ Hid (Bx2 w wx (CO (.slice r1 c.consts.length c1) (.slice r2 c.procs.length c2) (.slice r3 c.globals.length c3)) (PO P rp cp)))
        case first =>
          cases bb with
          | false =>
            go_wp2_with fail
            go_meet
            exact ⟨rfl, c.consts, ra1, ca1, .inl rfl, HO, HPC, HX⟩
          | true =>
            obtain ⟨⟨z0, z1, z2⟩, ⟨f0, f1, f2⟩, lb⟩ := cells_three HO.out
            have HBt : Hid (isConstB x = true ∧ c.consts.length < 1024) := HBB.out rfl
            have hlt := HBt.out.2
            clear HBB
            go_wp2_with (at_builtin; refine stop_of ?_)
            unfold Hid
            refine wpList_append_all _ rfl _ _ 22 rfl (w3.heap.size + 1) 31 i1 (.int .u64 0) 1 8 Tryz.underlying22 hi1 hz1 hs1 hb1 rfl (by decide) (.slice ra1 c.consts.length ca1) c.consts.length (wordCells c.consts) rfl (HPC.out.o1.alloc _) (some ⟨W2.heap.size, 0, none⟩) 1 1 [.int .u64 x] rfl rfl (fun h => by cases h) (fun ad had j u hu => ?_) (fun u hu => ?_) (by unfold maxLen; omega) (by omega) (by rw [World.size_alloc]; omega) ?_
            · cases had
              rw [ad_add, Nat.zero_add]
              exact new_cell _ #[.int .u64 x] _ j u hu
            · simp at hu; subst hu; rfl
            intro ra4 ca4 w5 hown hgr _
            have hal : Below W2.heap.size W2 (W2.alloc (.cells #[.int .u64 x] 31)) := (Below.refl _ W2).alloc (Nat.le_refl _) _
            have hO5 := grown_at hgr ((hal.block _ lb).trans HO.out) (fun e => by have := (HPC.out.o1.lt _ e).1; omega)
            have hgl : ∀ g, (Value.slice ra1 c.consts.length ca1).ownBlock = some g → w3.heap.size + 1 ≤ g := fun g hg => (HPC.out.o1.lt g hg).1
            have hbl : Below (w3.heap.size + 1) W2 w5 := (hal.mono (by omega)).trans (grown_low hgr hgl (by rw [World.size_alloc]; omega))
            have hX5 := HX.out.kept hbl (by omega)
            have hX6 : Bx2 w (w5.setCell ⟨w3.heap.size, 0, none⟩ (.slice ra4 (c.consts.length + 1) ca4)) (CO (.slice r1 c.consts.length c1) (.slice r2 c.procs.length c2) (.slice r3 c.globals.length c3)) (PO P rp cp) := hX5.kept (B := w3.heap.size) ((Below.refl _ w5).setCell (p := ⟨w3.heap.size, 0, none⟩) (Nat.le_refl _) _) (by omega)
            have hO6 : (w5.setCell ⟨w3.heap.size, 0, none⟩ (.slice ra4 (c.consts.length + 1) ca4)).heap[w3.heap.size]? = some (CO (.slice ra4 (c.consts.length + 1) ca4) (.slice ra2 c.procs.length ca2) (.slice ra3 c.globals.length ca3)) := set_atC hO5 _
            have hset : ∀ g, w3.heap.size + 1 ≤ g → (w5.setCell ⟨w3.heap.size, 0, none⟩ (.slice ra4 (c.consts.length + 1) ca4)).heap[g]? = w5.heap[g]? := fun g hg => Below.heap_setCell _ _ _ _ (by show g ≠ w3.heap.size; omega)
            have hkp : ∀ g, w3.heap.size + 1 ≤ g → g < W2.heap.size → (Value.slice ra1 c.consts.length ca1).ownBlock ≠ some g → (w5.setCell ⟨w3.heap.size, 0, none⟩ (.slice ra4 (c.consts.length + 1) ca4)).heap[g]? = W2.heap[g]? := fun g h1 h2 h3 => ((hset g h1).trans (hgr.block g (by rw [World.size_alloc]; omega) (fun e => h3 e.symm))).trans (Below.heap_alloc _ _ _ h2)
            have HPC6 : Hid (PC w (w5.setCell ⟨w3.heap.size, 0, none⟩ (.slice ra4 (c.consts.length + 1) ca4)) (w3.heap.size + 1) (.slice ra4 (c.consts ++ [x]).length ca4) (.slice ra2 c.procs.length ca2) (.slice ra3 c.globals.length ca3) vs ⟨c.consts ++ [x], c.procs, c.globals⟩) := by
              have hpc := HPC.out
              refine ⟨?_, own_same hpc.o2 (fun g hg => hkp g (hpc.o2.lt g hg).1 (hpc.o2.lt g hg).2 (own_apart hpc.o2 hpc.o1 (by decide) hg)), own_same hpc.o3 (fun g hg => hkp g (hpc.o3.lt g hg).1 (hpc.o3.lt g hg).2 (own_apart hpc.o3 hpc.o1 (by decide) hg)), hpc.hv, hpc.cd⟩
              have e1 : (c.consts ++ [x]).length = c.consts.length + 1 := by simp
              have e2 : wordCells (c.consts ++ [x]) = wordCells c.consts ++ [.int .u64 x] := by simp [wordCells]
              show World.ownsRow _ _ _ _ (.slice ra4 (c.consts ++ [x]).length ca4) (c.consts ++ [x]).length (wordCells (c.consts ++ [x]))
              rw [e1, e2]
              exact own_same hown (fun g hg => hset g (hown.lt g hg).1)
            have HX6 : Hid (Bx2 w (w5.setCell ⟨w3.heap.size, 0, none⟩ (.slice ra4 (c.consts.length + 1) ca4)) (CO (.slice r1 c.consts.length c1) (.slice r2 c.procs.length c2) (.slice r3 c.globals.length c3)) (PO P rp cp)) := hX6
            have HO6 : Hid ((w5.setCell ⟨w3.heap.size, 0, none⟩ (.slice ra4 (c.consts.length + 1) ca4)).heap[w3.heap.size]? = some (CO (.slice ra4 (c.consts ++ [x]).length ca4) (.slice ra2 c.procs.length ca2) (.slice ra3 c.globals.length ca3))) := by
              have e1 : (c.consts ++ [x]).length = c.consts.length + 1 := by simp
              show _ = _
              rw [e1]; exact hO6
            have sc0 : w5.cell? ⟨w3.heap.size, 0, none⟩ = some (.slice ra1 c.consts.length ca1) := heap_cell hO5 rfl
            have sf0 : w5.frozen? ⟨w3.heap.size, 0, none⟩ = false := by simp [World.frozen?, hO5]
            have sl0 : w3.heap.size < w5.heap.size := heap_lt hO5
            clear hown hgr hO5 hX5 hX6 hO6 hset hkp hal hgl hbl z0 z1 z2 f0 f1 f2 lb
            go_wp2_with fail
            go_meet
            exact ⟨rfl, c.consts ++ [x], ra4, ca4, .inr ⟨rfl, HBt.out⟩, HO6, HPC6, HX6⟩
        case rest =>
          obtain ⟨rfl, cs, ra1', ca1', HCs, HO', HPC', HX'⟩ := hcut
          obtain ⟨w6, rfl⟩ : ∃ w6, w6 = wc := ⟨_, rfl⟩
          clear HO HPC HX HBB hls
          have HCk' : Hid ((chkC ⟨cs, c.procs, c.globals⟩).1 = 0) := by
            rcases HCs.out with h | ⟨h, h1, h2⟩
            · rw [h]; exact HCk.out
            · rw [h]; exact more_const HCk.out h1 h2
          have HRcs : Hid (∀ y ∈ cs, Rng y) := fun y hy => by
            rcases HCs.out with h | ⟨h, _, _⟩
            · rw [h] at hy; exact HRc.out y hy
            · rw [h] at hy
              rcases List.mem_append.1 hy with h1 | h1
              · exact HRc.out y h1
              · rw [List.mem_singleton.1 h1]; exact HXr.out
          have s6 : w3.heap.size < w6.heap.size := heap_lt HO'.out
          obtain ⟨⟨z0, z1, z2⟩, -, -⟩ := cells_three HO'.out
          have HK6 : Hid (Calls Tryz.prog 7 #[.agg #[(.slice ra1' cs.length ca1'), (.slice ra2 c.procs.length ca2), (.slice ra3 c.globals.length ca3)]] w6 fun e w' => e = .returned (eppV (chkC ⟨cs, c.procs, c.globals⟩)) ∧ Below w6.heap.size w6 w') := HCh.out ⟨cs, c.procs, c.globals⟩ _ w6 HX'.out.bel (HPC'.out.cv HX'.out.bel HRcs.out HGl.out) rfl
          clear HCs HCk HRc HXr
          go_wp2_with fail
          refine Calls.mono HK6.out ?_
          rintro e w7 ⟨rfl, hb7⟩
          have HX7 : Hid (Bx2 w w7 (CO (.slice r1 c.consts.length c1) (.slice r2 c.procs.length c2) (.slice r3 c.globals.length c3)) (PO P rp cp)) := HX'.out.next hb7
          have HO7 : Hid (w7.heap[w3.heap.size]? = some (CO (.slice ra1' cs.length ca1') (.slice ra2 c.procs.length ca2) (.slice ra3 c.globals.length ca3))) := (hb7.block _ s6).trans HO'.out
          have HPC7 : Hid (PC w w7 (w3.heap.size + 1) (.slice ra1' cs.length ca1') (.slice ra2 c.procs.length ca2) (.slice ra3 c.globals.length ca3) vs ⟨cs, c.procs, c.globals⟩) := HPC'.out.kept (fun g _ h2 => hb7.block g h2)
          have s7 : w3.heap.size < w7.heap.size := heap_lt HO7.out
          clear HK6 hb7 HX' HO' HPC' z0 z1 z2 s6
          unfold eppV
          generalize hck7 : chkC ⟨cs, c.procs, c.globals⟩ = ck7
          obtain ⟨e7, p7, q7⟩ := ck7
          have he7 : e7 = 0 := by have := HCk'.out; rw [hck7] at this; exact this
          subst he7
          clear hck7
          have y1 : w7.cell? ⟨w.heap.size, 1, none⟩ = some (.slice r2 c.procs.length c2) := heap_cell HX7.out.b1 rfl
          by_cases hnp : 256 ≤ c.procs.length
          · have i256 : (256 : Int) ≤ (c.procs.length : Int) := by omega
            go_wp2
            go_ret
            exact ⟨rfl, HX7.out.bel⟩
          have i256 : ¬ (256 : Int) ≤ (c.procs.length : Int) := by omega
          obtain ⟨⟨z0, z1, z2⟩, -, -⟩ := cells_three HO7.out
          have hal8 : Below w7.heap.size w7 (w7.alloc (CO (.slice ra1' cs.length ca1') (.slice none 0 0) (.slice ra3 c.globals.length ca3))) := (Below.refl _ w7).alloc (Nat.le_refl _) _
          have HX8 : Hid (Bx2 w (w7.alloc (CO (.slice ra1' cs.length ca1') (.slice none 0 0) (.slice ra3 c.globals.length ca3))) (CO (.slice r1 c.consts.length c1) (.slice r2 c.procs.length c2) (.slice r3 c.globals.length c3)) (PO P rp cp)) := HX7.out.next hal8
          have HO8 : Hid ((w7.alloc (CO (.slice ra1' cs.length ca1') (.slice none 0 0) (.slice ra3 c.globals.length ca3))).heap[w3.heap.size]? = some (CO (.slice ra1' cs.length ca1') (.slice ra2 c.procs.length ca2) (.slice ra3 c.globals.length ca3))) := (hal8.block _ s7).trans HO7.out
          have HA8 : Hid ((w7.alloc (CO (.slice ra1' cs.length ca1') (.slice none 0 0) (.slice ra3 c.globals.length ca3))).heap[w7.heap.size]? = some (CO (.slice ra1' cs.length ca1') (.slice none 0 0) (.slice ra3 c.globals.length ca3))) := heap_alloc_new _ _
          have HPC8 : Hid (PC w (w7.alloc (CO (.slice ra1' cs.length ca1') (.slice none 0 0) (.slice ra3 c.globals.length ca3))) (w3.heap.size + 1) (.slice ra1' cs.length ca1') (.slice ra2 c.procs.length ca2) (.slice ra3 c.globals.length ca3) vs ⟨cs, c.procs, c.globals⟩) := HPC7.out.kept (fun g _ h2 => hal8.block g h2)
          have HLo : Hid (∀ g, (Value.slice ra2 c.procs.length ca2).ownBlock = some g → g < w7.heap.size) := fun g hg => (HPC7.out.o2.lt g hg).2
          have HLP : Hid (PC w w7 (w3.heap.size + 1) (.slice ra1' cs.length ca1') (.slice ra2 c.procs.length ca2) (.slice ra3 c.globals.length ca3) vs ⟨cs, c.procs, c.globals⟩) := HPC7.out
          have s8 : (w7.alloc (CO (.slice ra1' cs.length ca1') (.slice none 0 0) (.slice ra3 c.globals.length ca3))).heap.size = w7.heap.size + 1 := World.size_alloc ..
          have HW8 : Hid (∀ g, g < w7.heap.size → (w7.alloc (CO (.slice ra1' cs.length ca1') (.slice none 0 0) (.slice ra3 c.globals.length ca3))).heap[g]? = w7.heap[g]?) := fun g hg => hal8.block g hg
          clear hal8 HO7 HPC7
          go_upto_region 20 with fail
          generalize w7.alloc (CO (.slice ra1' cs.length ca1') (.slice none 0 0) (.slice ra3 c.globals.length ca3)) = W8 at *
          clear z0 z1 z2 y1 HX7
          go_wp2
          go_loopw [19] (fun i wr => ∃ (j : Nat) (ra5 : Option Addr) (ca5 : Nat), i = .int .i64 j ∧ j ≤ c.procs.length + 1 ∧ Hid (wr.heap[w7.heap.size]? = some (CO (.slice ra1' cs.length ca1') (.slice ra5 j ca5) (.slice ra3 c.globals.length ca3))) ∧ Hid (wr.ownsRow (w7.heap.size + 1) 29 2 (.slice ra5 j ca5) j (prcCells (List.replicate j P) (List.replicate j (.slice rp P.code.length cp)))) ∧ Hid (Below w7.heap.size W8 wr)) (fun i _ => c.procs.length + 1 - (intOf i).toNat)
          case atStart => exact ⟨0, none, 0, rfl, by omega, HA8, ⟨by simp [prcCells], .inl ⟨rfl, rfl⟩⟩, Below.refl _ _⟩
          case round =>
            obtain ⟨j, ra5, ca5, rfl, hj, HAr, HRr, HBr⟩ := hrel
            have HXr : Hid (Bx2 w wr (CO (.slice r1 c.consts.length c1) (.slice r2 c.procs.length c2) (.slice r3 c.globals.length c3)) (PO P rp cp)) := HX8.out.kept HBr.out (by omega)
            have y1 : wr.cell? ⟨w.heap.size, 1, none⟩ = some (.slice r2 c.procs.length c2) := heap_cell HXr.out.b1 rfl
            have ly : w.heap.size < wr.heap.size := heap_lt HXr.out.b1
            have lp : w.heap.size + 1 < wr.heap.size := heap_lt HXr.out.b2
            have t0 : wr.cell? ⟨w.heap.size + 1, 0, none⟩ = some (.int .i64 P.params) := heap_cell HXr.out.b2 rfl
            have t1 : wr.cell? ⟨w.heap.size + 1, 1, none⟩ = some (.slice rp P.code.length cp) := heap_cell HXr.out.b2 rfl
            by_cases hlt : j ≤ c.procs.length
            · have j1 : (j : Int) ≤ (c.procs.length : Int) := by omega
              obtain ⟨⟨z0, z1, z2⟩, ⟨f0, f1, f2⟩, lb⟩ := cells_three HAr.out
              go_wp2_with (at_builtin; refine stop_of ?_)
              unfold Hid
              refine wpList_append_all _ rfl _ _ 23 rfl (w7.heap.size + 1) 29 i2 (.agg #[.int .i64 0, .slice none 0 0]) 2 32 Tryz.underlying23 hi2 hz2 hs2 hb2 rfl (by decide) (.slice ra5 j ca5) j (prcCells (List.replicate j P) (List.replicate j (.slice rp P.code.length cp))) rfl (HRr.out.alloc _) (some ⟨wr.heap.size, 0, none⟩) 1 1 [.int .i64 P.params, (.slice rp P.code.length cp)] rfl rfl (fun h => by cases h) (fun ad had j u hu => ?_) (fun u hu => ?_) (by unfold maxLen; omega) (by omega) (by rw [World.size_alloc]; omega) ?_
              · cases had
                rw [ad_add, Nat.zero_add]
                exact new_cell _ #[.int .i64 P.params, (.slice rp P.code.length cp)] _ j u hu
              · simp at hu; rcases hu with rfl | rfl <;> rfl
              intro ra9 ca9 w9 hown hgr _
              have hal : Below wr.heap.size wr (wr.alloc (.cells #[.int .i64 P.params, (.slice rp P.code.length cp)] 29)) := (Below.refl _ wr).alloc (Nat.le_refl _) _
              have hA9 := grown_at hgr ((hal.block _ lb).trans HAr.out) (fun e => by have := (HRr.out.lt _ e).1; omega)
              have hbl : Below w7.heap.size W8 w9 := HBr.out.trans ((hal.mono (by omega)).trans (grown_low hgr (fun g hg => by have := (HRr.out.lt g hg).1; omega) (by rw [World.size_alloc]; omega)))
              have HB9 : Hid (Below w7.heap.size W8 (w9.setCell ⟨w7.heap.size, 1, none⟩ (.slice ra9 (j + 1) ca9))) := hbl.setCell (p := ⟨w7.heap.size, 1, none⟩) (Nat.le_refl _) _
              have HA9 : Hid ((w9.setCell ⟨w7.heap.size, 1, none⟩ (.slice ra9 (j + 1) ca9)).heap[w7.heap.size]? = some (CO (.slice ra1' cs.length ca1') (.slice ra9 (j + 1) ca9) (.slice ra3 c.globals.length ca3))) := set_atC hA9 _
              have HR9 : Hid ((w9.setCell ⟨w7.heap.size, 1, none⟩ (.slice ra9 (j + 1) ca9)).ownsRow (w7.heap.size + 1) 29 2 (.slice ra9 (j + 1) ca9) (j + 1) (prcCells (List.replicate (j + 1) P) (List.replicate (j + 1) (.slice rp P.code.length cp)))) := by
                show World.ownsRow ..
                rw [List.replicate_succ', List.replicate_succ', prcCells_snoc _ _ _ _ (by simp)]
                exact own_same hown (fun g hg => Below.heap_setCell _ _ _ _ (by show g ≠ w7.heap.size; have := (hown.lt g hg).1; omega))
              have sc0 : w9.cell? ⟨w7.heap.size, 1, none⟩ = some (.slice ra5 j ca5) := heap_cell hA9 rfl
              have sf0 : w9.frozen? ⟨w7.heap.size, 1, none⟩ = false := by simp [World.frozen?, hA9]
              have sl0 : w7.heap.size < w9.heap.size := heap_lt hA9
              clear hown hgr hA9 hbl hal z0 z1 z2 f0 f1 f2 lb t0 t1
              go_wp2_with fail
              go_roundw
              case rel => exact ⟨j + 1, ra9, ca9, by go_num, by omega, HA9, HR9, HB9⟩
              case measure => simp [intOf]; omega
            · have j1 : ¬ (j : Int) ≤ (c.procs.length : Int) := by omega
              have hje : j = c.procs.length + 1 := by omega
              subst hje
              have hke : ∀ g, g < w7.heap.size → wr.heap[g]? = w7.heap[g]? := fun g hg => (HBr.out.block g hg).trans (HW8.out g hg)
              have HPo : Hid (PC w wr (w3.heap.size + 1) (.slice ra1' cs.length ca1') (.slice ra2 c.procs.length ca2) (.slice ra3 c.globals.length ca3) vs ⟨cs, c.procs, c.globals⟩) := HLP.out.kept (fun g _ h2 => hke g h2)
              have HPa : Hid (PC w wr (w3.heap.size + 1) (.slice ra1' cs.length ca1') (.slice ra5 (c.procs.length + 1) ca5) (.slice ra3 c.globals.length ca3) (List.replicate (c.procs.length + 1) (.slice rp P.code.length cp)) ⟨cs, List.replicate (c.procs.length + 1) P, c.globals⟩) := by
                refine ⟨HPo.out.o1, ?_, HPo.out.o3, by simp, fun j p v h1 h2 => ?_⟩
                · have := own_low (base' := w3.heap.size + 1) HRr.out (by omega)
                  simpa using this
                · have e1 := (List.mem_replicate.1 (List.mem_of_getElem? h1)).2
                  have e2 := (List.mem_replicate.1 (List.mem_of_getElem? h2)).2
                  subst e1; subst e2
                  exact ⟨rp, cp, rfl, HP.out, by unfold maxLen; omega⟩
              have HOr : Hid (wr.heap[w3.heap.size]? = some (CO (.slice ra1' cs.length ca1') (.slice ra2 c.procs.length ca2) (.slice ra3 c.globals.length ca3))) := (hke _ s7).trans ((HW8.out _ s7).symm.trans HO8.out)
              have HLr : Hid (∀ g, (Value.slice ra2 c.procs.length ca2).ownBlock = some g → g < w7.heap.size) := HLo.out
              obtain ⟨⟨z0, z1, z2⟩, ⟨f0, f1, f2⟩, lb⟩ := cells_three HOr.out
              have hrl : w7.heap.size < wr.heap.size := heap_lt HAr.out
              go_wp2_with (at_builtin; refine stop_of ?_)
              unfold Hid
              refine wpList_append_all _ rfl _ _ 23 rfl (w3.heap.size + 1) 29 i2 (.agg #[.int .i64 0, .slice none 0 0]) 2 32 Tryz.underlying23 hi2 hz2 hs2 hb2 rfl (by decide) (.slice ra2 c.procs.length ca2) c.procs.length (prcCells c.procs vs) rfl (HPo.out.o2.alloc _) (some ⟨wr.heap.size, 0, none⟩) 1 1 [.int .i64 P.params, (.slice rp P.code.length cp)] rfl rfl (fun h => by cases h) (fun ad had j u hu => ?_) (fun u hu => ?_) (by unfold maxLen; omega) (by omega) (by rw [World.size_alloc]; omega) ?_
              · cases had
                rw [ad_add, Nat.zero_add]
                exact new_cell _ #[.int .i64 P.params, (.slice rp P.code.length cp)] _ j u hu
              · simp at hu; rcases hu with rfl | rfl <;> rfl
              intro ra6 ca6 w9 hown hgr _
              have hal : Below wr.heap.size wr (wr.alloc (.cells #[.int .i64 P.params, (.slice rp P.code.length cp)] 29)) := (Below.refl _ wr).alloc (Nat.le_refl _) _
              have hk9 : ∀ g, g < wr.heap.size → (Value.slice ra2 c.procs.length ca2).ownBlock ≠ some g → w9.heap[g]? = wr.heap[g]? := fun g h1 h2 => (hgr.block g (by rw [World.size_alloc]; omega) (fun e => h2 e.symm)).trans (hal.block g h1)
              have hO9 : w9.heap[w3.heap.size]? = some (CO (.slice ra1' cs.length ca1') (.slice ra2 c.procs.length ca2) (.slice ra3 c.globals.length ca3)) := (hk9 _ lb (fun e => by have := (HPo.out.o2.lt _ e).1; omega)).trans HOr.out
              have hA9 : w9.heap[w7.heap.size]? = some (CO (.slice ra1' cs.length ca1') (.slice ra5 (c.procs.length + 1) ca5) (.slice ra3 c.globals.length ca3)) := (hk9 _ hrl (fun e => by have := HLr.out _ e; omega)).trans HAr.out
              have hbl : Below (w3.heap.size + 1) wr w9 := (hal.mono (by omega)).trans (grown_low hgr (fun g hg => (HPo.out.o2.lt g hg).1) (by rw [World.size_alloc]; omega))
              have hset : ∀ g, w3.heap.size + 1 ≤ g → (w9.setCell ⟨w3.heap.size, 1, none⟩ (.slice ra6 (c.procs.length + 1) ca6)).heap[g]? = w9.heap[g]? := fun g hg => Below.heap_setCell _ _ _ _ (by show g ≠ w3.heap.size; omega)
              have hX9 : Bx2 w (w9.setCell ⟨w3.heap.size, 1, none⟩ (.slice ra6 (c.procs.length + 1) ca6)) (CO (.slice r1 c.consts.length c1) (.slice r2 c.procs.length c2) (.slice r3 c.globals.length c3)) (PO P rp cp) := (HXr.out.kept hbl (by omega)).kept (B := w3.heap.size) ((Below.refl _ w9).setCell (p := ⟨w3.heap.size, 1, none⟩) (Nat.le_refl _) _) (by omega)
              have HX9 : Hid (Bx2 w (w9.setCell ⟨w3.heap.size, 1, none⟩ (.slice ra6 (c.procs.length + 1) ca6)) (CO (.slice r1 c.consts.length c1) (.slice r2 c.procs.length c2) (.slice r3 c.globals.length c3)) (PO P rp cp)) := hX9
              have HO9 : Hid ((w9.setCell ⟨w3.heap.size, 1, none⟩ (.slice ra6 (c.procs.length + 1) ca6)).heap[w3.heap.size]? = some (CO (.slice ra1' cs.length ca1') (.slice ra6 (c.procs.length + 1) ca6) (.slice ra3 c.globals.length ca3))) := set_atC hO9 _
              have HA9 : Hid ((w9.setCell ⟨w3.heap.size, 1, none⟩ (.slice ra6 (c.procs.length + 1) ca6)).heap[w7.heap.size]? = some (CO (.slice ra1' cs.length ca1') (.slice ra5 (c.procs.length + 1) ca5) (.slice ra3 c.globals.length ca3))) := (hset _ (by omega)).trans hA9
              have hk10 : ∀ g, w3.heap.size + 1 ≤ g → g < wr.heap.size → (Value.slice ra2 c.procs.length ca2).ownBlock ≠ some g → (w9.setCell ⟨w3.heap.size, 1, none⟩ (.slice ra6 (c.procs.length + 1) ca6)).heap[g]? = wr.heap[g]? := fun g h1 h2 h3 => (hset g h1).trans (hk9 g h2 h3)
              have hpo := HPo.out
              have q1 : (w9.setCell ⟨w3.heap.size, 1, none⟩ (.slice ra6 (c.procs.length + 1) ca6)).ownsRow (w3.heap.size + 1) 31 1 (.slice ra1' cs.length ca1') cs.length (wordCells cs) := own_same hpo.o1 (fun g hg => hk10 g (hpo.o1.lt g hg).1 (hpo.o1.lt g hg).2 (own_apart hpo.o1 hpo.o2 (by decide) hg))
              have q3 : (w9.setCell ⟨w3.heap.size, 1, none⟩ (.slice ra6 (c.procs.length + 1) ca6)).ownsRow (w3.heap.size + 1) 9 1 (.slice ra3 c.globals.length ca3) c.globals.length (c.globals.map S) := own_same hpo.o3 (fun g hg => hk10 g (hpo.o3.lt g hg).1 (hpo.o3.lt g hg).2 (own_apart hpo.o3 hpo.o2 (by decide) hg))
              have HPo9 : Hid (PC w (w9.setCell ⟨w3.heap.size, 1, none⟩ (.slice ra6 (c.procs.length + 1) ca6)) (w3.heap.size + 1) (.slice ra1' cs.length ca1') (.slice ra6 (c.procs.length + 1) ca6) (.slice ra3 c.globals.length ca3) (vs ++ [(.slice rp P.code.length cp)]) ⟨cs, c.procs ++ [P], c.globals⟩) := by
                have e1 : (c.procs ++ [P]).length = c.procs.length + 1 := by simp
                refine ⟨q1, ?_, q3, by simp [hpo.hv], fun j p v h1 h2 => ?_⟩
                · show World.ownsRow _ _ _ _ _ (c.procs ++ [P]).length (prcCells (c.procs ++ [P]) (vs ++ [(.slice rp P.code.length cp)]))
                  rw [e1, prcCells_snoc _ _ _ _ hpo.hv]
                  exact own_same hown (fun g hg => hset g (hown.lt g hg).1)
                · have hl := hpo.hv
                  have hl' : vs.length = c.procs.length := hl
                  rcases get_snoc h1 with h3 | ⟨h3, rfl⟩
                  · have hj := (List.getElem?_eq_some_iff.1 h3).1
                    rw [List.getElem?_append_left (by omega)] at h2
                    exact hpo.cd j p v h3 h2
                  · rw [h3, ← hl', List.getElem?_append_right (Nat.le_refl _)] at h2
                    simp at h2
                    exact ⟨rp, cp, h2.symm, HP.out, by unfold maxLen; omega⟩
              have HPa9 : Hid (PC w (w9.setCell ⟨w3.heap.size, 1, none⟩ (.slice ra6 (c.procs.length + 1) ca6)) (w3.heap.size + 1) (.slice ra1' cs.length ca1') (.slice ra5 (c.procs.length + 1) ca5) (.slice ra3 c.globals.length ca3) (List.replicate (c.procs.length + 1) (.slice rp P.code.length cp)) ⟨cs, List.replicate (c.procs.length + 1) P, c.globals⟩) := by
                refine ⟨q1, own_same HPa.out.o2 (fun g hg => hk10 g (HPa.out.o2.lt g hg).1 (HPa.out.o2.lt g hg).2 (fun e => ?_)), q3, HPa.out.hv, HPa.out.cd⟩
                have h1 := HLr.out g e
                have h2 := (HRr.out.lt g hg).1
                omega
              have sc0 : w9.cell? ⟨w3.heap.size, 1, none⟩ = some (.slice ra2 c.procs.length ca2) := heap_cell hO9 rfl
              have sf0 : w9.frozen? ⟨w3.heap.size, 1, none⟩ = false := by simp [World.frozen?, hO9]
              have sl0 : w3.heap.size < w9.heap.size := heap_lt hO9
              have HMp := more_proc (c := ⟨cs, c.procs, c.globals⟩) HCk'.out (by show c.procs.length < 256; omega) P
              have HM : Hid ((∃ k, chkC ⟨cs, c.procs ++ [P], c.globals⟩ = (0, k) ∧ ∃ k, chkC ⟨cs, List.replicate (c.procs.length + 1) P, c.globals⟩ = (0, k)) ∨ ∃ e k k', e ≠ 0 ∧ chkC ⟨cs, c.procs ++ [P], c.globals⟩ = (e, c.procs.length, k) ∧ chkC ⟨cs, List.replicate (c.procs.length + 1) P, c.globals⟩ = (e, k')) := HMp
              clear hown hgr hal hk9 hO9 hA9 hbl hset hX9 hk10 hpo q1 q3 HMp z0 z1 z2 f0 f1 f2 lb t0 t1 y1 HPa HPo HOr HAr HRr HBr HXr hke hrl ly lp
              go_upto_region 25 with fail
              clear sc0 sf0 sl0
              generalize (w9.setCell ⟨w3.heap.size, 1, none⟩ (.slice ra6 (c.procs.length + 1) ca6)) = W9 at *
              have HKa : Hid (Calls Tryz.prog 7 #[.agg #[(.slice ra1' cs.length ca1'), (.slice ra5 (c.procs.length + 1) ca5), (.slice ra3 c.globals.length ca3)]] W9 fun e w' => e = .returned (eppV (chkC ⟨cs, List.replicate (c.procs.length + 1) P, c.globals⟩)) ∧ Below W9.heap.size W9 w') := HCh.out ⟨cs, List.replicate (c.procs.length + 1) P, c.globals⟩ _ W9 HX9.out.bel (HPa9.out.cv HX9.out.bel HRcs.out HGl.out) rfl
              obtain ⟨⟨z0, z1, z2⟩, -, -⟩ := cells_three HA9.out
              go_wp2_with fail
              refine Calls.mono HKa.out ?_
              rintro e wA ⟨rfl, hbA⟩
              have HXA : Hid (Bx2 w wA (CO (.slice r1 c.consts.length c1) (.slice r2 c.procs.length c2) (.slice r3 c.globals.length c3)) (PO P rp cp)) := HX9.out.next hbA
              have HOA : Hid (wA.heap[w3.heap.size]? = some (CO (.slice ra1' cs.length ca1') (.slice ra6 (c.procs.length + 1) ca6) (.slice ra3 c.globals.length ca3))) := (hbA.block _ (heap_lt HO9.out)).trans HO9.out
              have HKo : Hid (Calls Tryz.prog 7 #[.agg #[(.slice ra1' cs.length ca1'), (.slice ra6 (c.procs.length + 1) ca6), (.slice ra3 c.globals.length ca3)]] wA fun e w' => e = .returned (eppV (chkC ⟨cs, c.procs ++ [P], c.globals⟩)) ∧ Below wA.heap.size wA w') := HCh.out ⟨cs, c.procs ++ [P], c.globals⟩ _ wA HXA.out.bel ((HPo9.out.kept (fun g _ h2 => hbA.block g h2)).cv HXA.out.bel HRcs.out HGl.out) rfl
              clear hbA HKa z0 z1 z2 HX9 HO9 HA9 HPa9 HPo9
              obtain ⟨⟨z0, z1, z2⟩, -, -⟩ := cells_three HOA.out
              unfold eppV at HKo ⊢
              generalize hca : chkC ⟨cs, List.replicate (c.procs.length + 1) P, c.globals⟩ = ka at *
              generalize hco : chkC ⟨cs, c.procs ++ [P], c.globals⟩ = ko at *
              obtain ⟨ea, pa, qa⟩ := ka
              obtain ⟨eo, po, qo⟩ := ko
              have HM2 : Hid ((eo = 0 ∧ ea = 0) ∨ (eo ≠ 0 ∧ ea = eo ∧ po = c.procs.length)) := by
                rcases HM.out with ⟨k, h1, k', h2⟩ | ⟨e, k, k', h0, h1, h2⟩
                · exact .inl ⟨(Prod.ext_iff.1 h1).1, (Prod.ext_iff.1 h2).1⟩
                · have a1 : eo = e := (Prod.ext_iff.1 h1).1
                  have a2 : ea = e := (Prod.ext_iff.1 h2).1
                  have a3 : po = c.procs.length := (Prod.ext_iff.1 (Prod.ext_iff.1 h1).2).1
                  exact .inr ⟨by rw [a1]; exact h0, by rw [a1, a2], a3⟩
              clear hca hco HM
              go_wp2_with fail
              refine Calls.mono HKo.out ?_
              rintro e wB ⟨rfl, hbB⟩
              have HXB : Hid (Bx2 w wB (CO (.slice r1 c.consts.length c1) (.slice r2 c.procs.length c2) (.slice r3 c.globals.length c3)) (PO P rp cp)) := HXA.out.next hbB
              have y1 : wB.cell? ⟨w.heap.size, 1, none⟩ = some (.slice r2 c.procs.length c2) := heap_cell HXB.out.b1 rfl
              clear hbB HKo z0 z1 z2 HXA HOA
              rcases HM2.out with ⟨rfl, rfl⟩ | ⟨h1, rfl, rfl⟩
              · go_wp2
                go_ret
                exact ⟨rfl, HXB.out.bel⟩
              · have h1' : (ea == 0) = false := by simpa using h1
                clear h1 HM2
                go_wp2
                go_ret
                exact ⟨rfl, HXB.out.bel⟩
end Go.Proofs.YtnblieohdngmiabGreatDoor
