/- The walk of CodeWays. -/
import Derived.Test.YtnblieohdngmiabGreatDoorHWMath2
import Derived.Test.YtnblieohdngmiabGreatDoorGN
import Derived.Test.YtnblieohdngmiabGreatDoorHEEff
import Derived.Test.YtnblieohdngmiabGreatDoorHEPick
import Derived.Deep.DeepCutAuto
import Derived.Deep.RegionHeld3
namespace Go.Proofs.YtnblieohdngmiabGreatDoor
open Go.RowKit

/-- The block of the variable that holds the code that came in. -/
structure Bx (w W : World) (o : Obj) : Prop where
  bel : Below w.heap.size w W
  blk : W.heap[w.heap.size]? = some o
theorem Bx.next {w W W' : World} {o : Obj} (h : Bx w W o) (hb : Below W.heap.size W W') : Bx w W' o :=
  ⟨h.bel.trans (hb.mono h.bel.size), (hb.block _ (heap_lt h.blk)).trans h.blk⟩
theorem infoI : (Tryz.prog.info? 3).map (fun i => (i.zero, i.size, i.bytes)) = some (some (.int .i64 0), 1, 8) := by kernel_rfl
abbrev PO (p : Prc) (rc : Option Addr) (cc : Nat) : Obj := .cells #[.int .i64 p.params, .slice rc p.code.length cc] 29
abbrev IO2 (x : Ins) : Obj := .cells #[.int .u8 x.op, .int .i64 x.a] 46
set_option maxRecDepth 100000 in
set_option maxHeartbeats 16000000 in
theorem codeWays_walk (c : Cd) (v : Value) (a : Int) (l : List Bool) (ra : Option Addr) (ca : Nat) (w : World) (hE : Env w) (hv : CV w v c) (hx : ∀ t ∈ c.globals, t.length ≤ 281474976710656) (hz : c.consts.length ≤ 281474976710656 ∧ c.procs.length ≤ 281474976710656 ∧ c.globals.length ≤ 281474976710656) (hk : ∀ p ∈ c.procs, p.code.length ≤ 281474976710656)
    (ha : -9223372036854775808 ≤ a ∧ a ≤ 9223372036854775807) (hA : AR w ra l) (_hl : l.length ≤ 281474976710656) :
    Calls Tryz.prog 4 #[v, .int .i64 a, .slice ra l.length ca] w fun e w' => e = .returned (.bool true) ∧ Below w.heap.size w w' := by
  have hv' := hv
  obtain ⟨⟨r1, c1, r2, c2, r3, c3, rfl, -, hp1, -, -⟩, -⟩ := hv'
  have HE : Hid (Env w) := hE
  have hal0 : Below w.heap.size w (w.alloc (CO (.slice r1 c.consts.length c1) (.slice r2 c.procs.length c2) (.slice r3 c.globals.length c3))) := (Below.refl _ w).alloc (Nat.le_refl _) _
  have HX0 : Hid (Bx w (w.alloc (CO (.slice r1 c.consts.length c1) (.slice r2 c.procs.length c2) (.slice r3 c.globals.length c3))) (CO (.slice r1 c.consts.length c1) (.slice r2 c.procs.length c2) (.slice r3 c.globals.length c3))) := ⟨hal0, heap_alloc_new _ _⟩
  have HWk : Hid (Calls Tryz.prog 5 #[] (w.alloc (CO (.slice r1 c.consts.length c1) (.slice r2 c.procs.length c2) (.slice r3 c.globals.length c3))) fun e w' => e = .returned (.bool true) ∧ Below (w.alloc (CO (.slice r1 c.consts.length c1) (.slice r2 c.procs.length c2) (.slice r3 c.globals.length c3))).heap.size (w.alloc (CO (.slice r1 c.consts.length c1) (.slice r2 c.procs.length c2) (.slice r3 c.globals.length c3))) w') := works_any _ (hE.below hal0)
  have HOf : Hid (∀ w5 : World, Below w.heap.size w w5 → Calls Tryz.prog 6 #[(.agg #[.slice r1 c.consts.length c1, .slice r2 c.procs.length c2, .slice r3 c.globals.length c3])] w5 fun e w' => OfR 2251799813685248 (wtC c) e ∧ Below w5.heap.size w5 w') := fun w5 h5 => ofCode_any c _ w5 (hv.below h5) hx hz hk
  have HCh : Hid (∀ w5 : World, Below w.heap.size w w5 → Calls Tryz.prog 7 #[(.agg #[.slice r1 c.consts.length c1, .slice r2 c.procs.length c2, .slice r3 c.globals.length c3])] w5 fun e w' => e = .returned (eppV (chkC c)) ∧ Below w5.heap.size w5 w') := fun w5 h5 => by
    have hen := HE.out.below h5
    exact check_any c _ w5 (hv.below h5) hx hen.T hen.E hen.P
  obtain ⟨b, o, h1, h2⟩ := PR.at hp1
  have H1 : Hid (c.procs.length ≠ 0 → r2 = some ⟨b, o, none⟩) := h1
  have H2 : Hid (∀ (j : Nat) (x : Prc), c.procs[j]? = some x → b < w.heap.size ∧ w.cell? ⟨b, o + j * 2, none⟩ = some (.int .i64 x.params) ∧ (∃ rc cc, w.cell? ⟨b, o + j * 2 + 1, none⟩ = some (.slice rc x.code.length cc) ∧ NR w rc x.code) ∧ x.code.length ≤ maxLen) := h2
  obtain ⟨ba, oa, q1, q2⟩ := hA
  have Q1 : Hid (l.length ≠ 0 → ra = some ⟨ba, oa, none⟩) := fun h => q1.resolve_left h
  have Q2 : Hid (∀ (j : Nat) (x : Bool), l[j]? = some x → ba < w.heap.size ∧ w.cell? ⟨ba, oa + j, none⟩ = some (.bool x)) := q2
  obtain ⟨i0, hi0, hz0, hz1, hz2⟩ := info_parts infoI
  have hpl := hz.2.1
  have hmx : Tryz.prog.follows .mixedOrders = true := by kernel_rfl
  clear hE hv hx hz hk hal0 hp1 h1 h2 q1 q2
  go_enter Tryz.func4, Tryz.ntmps4
  go_wp2_with fail
  refine Calls.mono HWk.out ?_
  rintro e w1 ⟨rfl, hb1⟩
  have HX1 : Hid (Bx w w1 (CO (.slice r1 c.consts.length c1) (.slice r2 c.procs.length c2) (.slice r3 c.globals.length c3))) := HX0.out.next hb1
  have y0 : w1.cell? ⟨w.heap.size, 0, none⟩ = some (.slice r1 c.consts.length c1) := heap_cell HX1.out.blk rfl
  have y1 : w1.cell? ⟨w.heap.size, 1, none⟩ = some (.slice r2 c.procs.length c2) := heap_cell HX1.out.blk rfl
  have y2 : w1.cell? ⟨w.heap.size, 2, none⟩ = some (.slice r3 c.globals.length c3) := heap_cell HX1.out.blk rfl
  clear HWk hb1 HX0
  go_wp2_with fail
  refine Calls.mono (HOf.out w1 HX1.out.bel) ?_
  rintro e w2 ⟨⟨m, rfl, hn1, hn2⟩, hb2⟩
  have HX2 : Hid (Bx w w2 (CO (.slice r1 c.consts.length c1) (.slice r2 c.procs.length c2) (.slice r3 c.globals.length c3))) := HX1.out.next hb2
  clear HX1 hb2 y0 y1 y2 HOf
  by_cases hbig : 8388608 < m
  · have i1 : (8388608 : Int) < (m : Int) := by omega
    go_wp2
    go_ret
    exact ⟨rfl, HX2.out.bel⟩
  have i1 : ¬ (8388608 : Int) < (m : Int) := by omega
  have y0 : w2.cell? ⟨w.heap.size, 0, none⟩ = some (.slice r1 c.consts.length c1) := heap_cell HX2.out.blk rfl
  have y1 : w2.cell? ⟨w.heap.size, 1, none⟩ = some (.slice r2 c.procs.length c2) := heap_cell HX2.out.blk rfl
  have y2 : w2.cell? ⟨w.heap.size, 2, none⟩ = some (.slice r3 c.globals.length c3) := heap_cell HX2.out.blk rfl
  clear hbig hn1 hn2
  go_wp2_with fail
  refine Calls.mono (HCh.out w2 HX2.out.bel) ?_
  rintro e w3 ⟨rfl, hb3⟩
  have HX3 : Hid (Bx w w3 (CO (.slice r1 c.consts.length c1) (.slice r2 c.procs.length c2) (.slice r3 c.globals.length c3))) := HX2.out.next hb3
  clear hb3 HX2 y0 y1 y2 HCh i1
  unfold eppV
  generalize hck : chkC c = ck at *
  obtain ⟨e0, p0, q0⟩ := ck
  by_cases he0 : e0 = 0
  case neg =>
    have hne : (e0 != 0) = true := by simpa using he0
    clear hck he0
    go_wp2
    go_ret
    exact ⟨rfl, HX3.out.bel⟩
  subst he0
  have hck0 : (chkC c).1 = 0 := by rw [hck]
  obtain ⟨hl0, hps⟩ := chkC_ok hck0
  have hnz := (listsE_ok hl0).2.2.2.1
  have HPs : Hid (∀ p ∈ c.procs, (chkP c.consts.length c.globals.length c.procs.length p).1 = 0) := hps
  have hnz' : ((c.procs.length : Int) == 0) = false := by simp; exact fun h => hnz (by simp [h])
  have hra := H1.out hnz
  subst hra
  have y1 : w3.cell? ⟨w.heap.size, 1, none⟩ = some (.slice (some ⟨b, o, none⟩) c.procs.length c2) := heap_cell HX3.out.blk rfl
  obtain ⟨k, hkn, hpk⟩ := pick_fix a c.procs.length ha (by omega) hpl
  have HPk : Hid (∀ w5 : World, Calls Tryz.prog 9 #[.int .i64 a, .int .i64 c.procs.length] w5 fun e w' => e = .returned (.int .i64 k) ∧ w' = w5) := hpk
  have ik : (k : Int) < (c.procs.length : Int) := by omega
  obtain ⟨x, hx⟩ : ∃ x, c.procs[k]? = some x := ⟨_, List.getElem?_eq_getElem hkn⟩
  obtain ⟨hb0, hc0, ⟨rc, cc, hc1, hnr⟩, _⟩ := H2.out k x hx
  have HXX : Hid (x ∈ c.procs ∧ NR w rc x.code) := ⟨List.mem_of_getElem? hx, hnr⟩
  have g0 := (HX3.out.bel.cell (p := ⟨b, o + k * 2, none⟩) hb0).trans hc0
  have g1 := (HX3.out.bel.cell (p := ⟨b, o + k * 2 + 1, none⟩) hb0).trans hc1
  have hw3 : w.heap.size < w3.heap.size := heap_lt HX3.out.blk
  have hb3 : b < w3.heap.size := by omega
  clear hpk hx hb0 hc0 hc1 hnr hkn
  clear hck hck0 hl0 hps ha H1 H2
  have HP0 : Hid ((w3.alloc (PO x rc cc)).drew.heap[w3.heap.size]? = some (PO x rc cc)) := heap_alloc_new w3 _
  have HBp : Hid (Below w.heap.size w (w3.alloc (PO x rc cc)).drew) := (HX3.out.bel.alloc HX3.out.bel.size _).drew
  go_upto_region 9 with fail
  go_cut [11] (fun v wx => v = .pointer (some ⟨w3.heap.size, 0, none⟩) ∧ Hid (wx.heap[w3.heap.size]? = some (PO x rc cc)) ∧ Hid (Below w.heap.size w wx))
  case first =>
    go_region_held3 (fun wx => wx.cell? ⟨w.heap.size, 1, none⟩ = some (.slice (some ⟨b, o, none⟩) c.procs.length c2) ∧ wx.cell? ⟨b, o + k * 2, none⟩ = some (.int .i64 x.params) ∧ wx.cell? ⟨b, o + k * 2 + 1, none⟩ = some (.slice rc x.code.length cc)) (first | go_keep)
      (first | (go_at_call 9; refine (HPk.out _).mono ?_; rintro e w4 ⟨rfl, rfl⟩))
    all_goals
      go_wp2_with fail
      go_meet
      exact ⟨rfl, HP0, HBp⟩
  case rest =>
    obtain ⟨rfl, HPB, HBc⟩ := hcut
    obtain ⟨wP, rfl⟩ : ∃ wP, wP = wc := ⟨_, rfl⟩
    obtain ⟨hpos, hcl, f, f0, hf⟩ := ways_of (HPs.out x HXX.out.1)
    have HF : Hid (∀ i y, x.code[i]? = some y → (1 ≤ y.op ∧ y.op ≤ 18) ∧ (y.op = 13 → 1 ≤ y.a ∧ y.a ≤ 22) ∧ (y.op = 10 ∨ y.op = 11 → 0 ≤ y.a ∧ y.a ≤ 256) ∧ (y.op = 8 ∨ y.op = 9 → 0 ≤ y.a) ∧ 0 ≤ takesN y ∧ takesN y ≤ f i ∧ f i ≤ 255 ∧ ∀ q, Next i y q → q < x.code.length ∧ f q = f i - takesN y + putsN y) := hf
    have HF0 : Hid (f 0 = 0) := f0
    obtain ⟨bc, oc, hor, hcs⟩ := HXX.out.2
    have hrc : rc = some ⟨bc, oc, none⟩ := hor.resolve_left (by omega)
    subst hrc
    have HN : Hid (∀ (j : Nat) (y : Ins), x.code[j]? = some y → bc < w.heap.size ∧ w.cell? ⟨bc, oc + j * 2, none⟩ = some (.int .u8 y.op) ∧ w.cell? ⟨bc, oc + j * 2 + 1, none⟩ = some (.int .i64 y.a)) := fun j y hy => ⟨(hcs j y hy).1, (hcs j y hy).2.1, (hcs j y hy).2.2.1⟩
    have z1 : wP.cell? ⟨w3.heap.size, 1, none⟩ = some (.slice (some ⟨bc, oc, none⟩) x.code.length cc) := heap_cell HPB.out rfl
    have hlt3 : w3.heap.size < wP.heap.size := heap_lt HPB.out
    have HZ1 : Hid (wP.cell? ⟨w3.heap.size, 1, none⟩ = some (.slice (some ⟨bc, oc, none⟩) x.code.length cc)) := z1
    clear hf f0 hor hcs HXX HPs HPB HPk y1 HX3 g0 g1 ik
    go_wp2_with (at_make; refine stop_of ?_)
    unfold Hid
    refine wpList_make_full _ rfl _ _ 43 rfl wP.heap.size 3 i0 (.int .i64 0) 1 Tryz.underlying43 hi0 hz0 hz1 .i64 .i64 _ _ x.code.length rfl rfl rfl rfl (by rw [hz2]; omega) (by unfold maxLen; omega) (Nat.le_refl _) ?_
    intro w5 hown5 hgr5
    have HD5 : Hid (DR w5 wP.heap.size x.code.length (fun _ _ => True)) := dr_of_own hown5
    have HB5 : Hid (Below wP.heap.size wP w5) := (Below.refl _ wP).grown hgr5 (Nat.le_refl _) (fun k hk => by cases hk)
    clear hown5 hgr5 z1
    go_wp2
    go_loopw [13] (fun i wr => ∃ j : Nat, i = .int .i64 j ∧ j ≤ x.code.length ∧ Hid (DR wr wP.heap.size x.code.length (fun k u => k < j → u = .int .i64 (-1))) ∧ Hid (Below wP.heap.size wP wr)) (fun i _ => x.code.length - (intOf i).toNat)
    case atStart => exact ⟨0, rfl, Nat.zero_le _, HD5.out.mono (fun k u _ _ h => by omega), HB5⟩
    case round =>
      obtain ⟨j, rfl, hj, HD, HB⟩ := hrel
      by_cases hlt : j < x.code.length
      · have i1 : (j : Int) < (x.code.length : Int) := by omega
        obtain ⟨u, hu, _⟩ := HD.out.cell hlt
        have hfz := HD.out.fz j
        have hgl := HD.out.lt
        go_wp2
        go_roundw
        case rel => exact ⟨j + 1, by go_num, by omega, HD.out.set (fun k u hk h h' => h (by omega)) (fun _ => rfl), HB.out.setCell (p := ⟨wP.heap.size, j, none⟩) (Nat.le_refl _) _⟩
        case measure => simp [intOf]; omega
      · have i1 : ¬ (j : Int) < (x.code.length : Int) := by omega
        have hje : j = x.code.length := by omega
        subst hje
        have HD6 : Hid (DR wr wP.heap.size x.code.length (fun k u => u = .int .i64 (-1) ∨ u = .int .i64 (f k))) := HD.out.mono (fun k u hk h => .inl (h hk))
        clear HD HD5 HB5 hlt hj
        obtain ⟨wA, rfl⟩ : ∃ wA, wA = wr := ⟨_, rfl⟩
        go_wp2
        go_loopw [17, 14, 15, 16, 18, 19, 20] (fun i at' d n _ _ _ wr => ∃ (k p m : Nat) (D : Int), i = .int .i64 k ∧ at' = .int .i64 p ∧ d = .int .i64 D ∧ n = .int .i64 m ∧ k ≤ 5000 ∧ p < x.code.length ∧ m ≤ k ∧ Hid (D = f p) ∧ Hid (DR wr wP.heap.size x.code.length (fun k u => u = .int .i64 (-1) ∨ u = .int .i64 (f k))) ∧ Hid (Below wP.heap.size wP wr)) (fun i _ _ _ _ _ _ _ => 5000 - (intOf i).toNat)
        case atStart => exact ⟨0, 0, 0, 0, rfl, rfl, rfl, rfl, by omega, hpos, Nat.le_refl _, HF0.out.symm, HD6, HB⟩
        case round =>
          obtain ⟨k, p, m, D, rfl, rfl, rfl, rfl, hk, hp, hm, HDp, HDR, HBB⟩ := hrel
          have HBw : Hid (Below w.heap.size w wr) := HBc.out.trans (HBB.out.mono HBc.out.size)
          by_cases hk5 : k < 5000
          · have j1 : (k : Int) < 5000 := by omega
            obtain ⟨y, hy⟩ : ∃ y, x.code[p]? = some y := ⟨_, List.getElem?_eq_getElem hp⟩
            obtain ⟨⟨o1, o2⟩, o3, o4, o5, t1, t2, t3, nx⟩ := HF.out p y hy
            obtain ⟨g0, g1, g2⟩ := HN.out p y hy
            have e0 := (HBw.out.cell (p := ⟨bc, oc + p * 2, none⟩) g0).trans g1
            have e1 := (HBw.out.cell (p := ⟨bc, oc + p * 2 + 1, none⟩) g0).trans g2
            have e2 : wr.cell? ⟨w3.heap.size, 1, none⟩ = some (.slice (some ⟨bc, oc, none⟩) x.code.length cc) := (HBB.out.cell (p := ⟨w3.heap.size, 1, none⟩) hlt3).trans HZ1.out
            have hgl := HDR.out.lt
            have l1 : bc < wr.heap.size := Nat.lt_of_lt_of_le g0 HBw.out.size
            have l2 : w3.heap.size < wr.heap.size := by omega
            have j2 : (p : Int) < (x.code.length : Int) := by omega
            have HEf : Hid (Calls Tryz.prog 10 #[.agg #[.int .u8 y.op, .int .i64 y.a]] (wr.alloc (IO2 y)) fun e w' => e = .returned (effV y) ∧ Below (wr.alloc (IO2 y)).heap.size (wr.alloc (IO2 y)) w') := effect_any y _ o1 o2 o3 o4
            have HO5 : Hid (y.op = 8 ∨ y.op = 9 → 0 ≤ y.a) := o5
            have hU := puts_bd y
            have HNx : Hid (∀ q, Next p y q → q < x.code.length ∧ f q = f p - takesN y + putsN y) := nx
            have HFq : Hid (∀ q, q < x.code.length → 0 ≤ f q ∧ f q ≤ 255) := fun q hq => by
              obtain ⟨z, hz⟩ : ∃ z, x.code[q]? = some z := ⟨_, List.getElem?_eq_getElem hq⟩
              have := HF.out q z hz
              omega
            have hDb : 0 ≤ D ∧ D ≤ 255 := by rw [HDp.out]; exact HFq.out p hp
            have hTD : takesN y ≤ D := by rw [HDp.out]; exact t2
            have HOp : Hid (1 ≤ y.op ∧ y.op ≤ 18) := ⟨o1, o2⟩
            clear o3 o4 o5 nx hy g0 g1 g2 t2 t3 o1 o2
            go_wp2_with fail
            refine Calls.mono HEf.out ?_
            rintro e w6 ⟨rfl, hb6⟩
            unfold effV
            have HY : Hid (w6.heap[wr.heap.size]? = some (IO2 y)) := (hb6.block _ (by simp)).trans (heap_alloc_new ..)
            have HDR6 : Hid (DR w6 wP.heap.size x.code.length (fun k u => u = .int .i64 (-1) ∨ u = .int .i64 (f k))) := HDR.out.kept ((hb6.block _ (by rw [World.size_alloc]; omega)).trans (Below.heap_alloc _ _ _ hgl))
            have HB6 : Hid (Below wP.heap.size wP w6) := HBB.out.trans (((Below.refl _ wr).alloc (Nat.le_of_lt hgl) _).trans (hb6.mono (by rw [World.size_alloc]; omega)))
            have s6 : wr.heap.size < w6.heap.size := heap_lt HY.out
            obtain ⟨u, hu, hu2⟩ := HDR6.out.cell hp
            have hfz := HDR6.out.fz p
            have HU2 : Hid (u = .int .i64 (-1) ∨ u = .int .i64 (f p)) := hu2
            generalize takesN y = T at *
            generalize putsN y = U at *
            clear hb6 HEf e0 e1 e2 l1 hu2
            have x0 : w6.cell? ⟨wr.heap.size, 0, none⟩ = some (.int .u8 y.op) := heap_cell HY.out rfl
            have x1 : w6.cell? ⟨wr.heap.size, 1, none⟩ = some (.int .i64 y.a) := heap_cell HY.out rfl
            have x2 : (w6.setCell ⟨wP.heap.size, p, none⟩ (.int .i64 D)).cell? ⟨wr.heap.size, 0, none⟩ = some (.int .u8 y.op) := (World.cell?_setCell_far _ _ _ _ (by show wP.heap.size ≠ wr.heap.size; omega)).trans x0
            have x3 : (w6.setCell ⟨wP.heap.size, p, none⟩ (.int .i64 D)).cell? ⟨wr.heap.size, 1, none⟩ = some (.int .i64 y.a) := (World.cell?_setCell_far _ _ _ _ (by show wP.heap.size ≠ wr.heap.size; omega)).trans x1
            have HD7 : Hid (DR (w6.setCell ⟨wP.heap.size, p, none⟩ (.int .i64 D)) wP.heap.size x.code.length (fun k u => u = .int .i64 (-1) ∨ u = .int .i64 (f k))) := HDR6.out.set (fun k u _ h => h) (.inr (by rw [HDp.out]))
            have HB7 : Hid (Below wP.heap.size wP (w6.setCell ⟨wP.heap.size, p, none⟩ (.int .i64 D))) := HB6.out.setCell (p := ⟨wP.heap.size, p, none⟩) (Nat.le_refl _) _
            have HBe : Hid (Below w.heap.size w (w6.setCell ⟨wP.heap.size, p, none⟩ (.int .i64 D))) := HBc.out.trans (HB7.out.mono HBc.out.size)
            have g6 : wP.heap.size < w6.heap.size := by omega
            go_upto_region 25 with fail
            go_cut [105] (fun v wx => v = .bool false ∧ wx = w6)
            case first =>
              have c1 : ¬ D < T := by omega
              have c2 : ¬ (255 : Int) < D := by omega
              rcases HU2.out with rfl | rfl
              · go_wp2_with fail
                go_meet
                exact ⟨rfl, rfl⟩
              · rw [← HDp.out] at hu
                go_wp2_with fail
                go_meet
                exact ⟨rfl, rfl⟩
            case rest =>
              obtain ⟨rfl, hw6⟩ := hcut
              rw [hw6]
              clear hw6
              have b1 : -9223372036854775808 ≤ D - T := by omega
              have b2 : D - T ≤ 9223372036854775807 := by omega
              have b3 : D - T + U ≤ 9223372036854775807 := by omega
              have b4 : -9223372036854775808 ≤ D - T + U := by omega
              have b5 : (p : Int) + 1 ≤ 9223372036854775807 := by omega
              have b6 : (k : Int) + 1 ≤ 9223372036854775807 := by omega
              have b7 : (m : Int) + 1 ≤ 9223372036854775807 := by omega
              clear HU2 HDR HDR6 HB6 x0 x1
              cases h12 : (y.op == 12) with
              | true =>
                go_wp2
                go_ret
                exact ⟨rfl, HBe.out⟩
              | false =>
                cases h11 : (y.op == 11) with
                | true =>
                  go_wp2
                  go_ret
                  exact ⟨rfl, HBe.out⟩
                | false =>
                  cases h8 : (y.op == 8) with
                  | true =>
                    have hop : y.op = 8 := by simpa using h8
                    have ha0 := HO5.out (.inl hop)
                    obtain ⟨HQ, n2⟩ := HNx.out y.a.toNat (.inl ⟨.inl hop, rfl⟩)
                    have h9 : (y.op == 9) = false := by rw [hop]; rfl
                    have HN2 : Hid (D - T + U = f y.a.toNat) := by show _ = _; rw [n2, HDp.out]
                    have HAT : Hid (y.a = (y.a.toNat : Int)) := by show _ = _; omega
                    clear n2 hop ha0
                    go_wp2
                    go_roundw
                    case rel => exact ⟨k + 1, y.a.toNat, m, D - T + U, by go_num, congrArg _ HAT.out, by first | rfl | go_num, rfl, by omega, HQ, by omega, HN2, HD7, HB7⟩
                    case measure => simp [intOf]; omega
                  | false =>
                    cases h9 : (y.op == 9) with
                    | true =>
                      have hop : y.op = 9 := by simpa using h9
                      have ha0 := HO5.out (.inr hop)
                      have hen : endsB y.op = false := by rw [hop]; rfl
                      obtain ⟨HQ1, n1⟩ := HNx.out (p + 1) (.inr ⟨hen, rfl⟩)
                      have HN1 : Hid (D - T + U = f (p + 1)) := by show _ = _; rw [n1, HDp.out]
                      obtain ⟨HQ, n2⟩ := HNx.out y.a.toNat (.inl ⟨.inr hop, rfl⟩)
                      have HN2 : Hid (D - T + U = f y.a.toNat) := by show _ = _; rw [n2, HDp.out]
                      have HAT : Hid (y.a = (y.a.toNat : Int)) := by show _ = _; omega
                      clear n1 n2 hop ha0 hen
                      by_cases hml : m < l.length
                      · have c1 : (m : Int) < (l.length : Int) := by omega
                        have hra := Q1.out (by omega)
                        subst hra
                        obtain ⟨bb, hbb⟩ : ∃ bb, l[m]? = some bb := ⟨_, List.getElem?_eq_getElem hml⟩
                        obtain ⟨v1, v2⟩ := Q2.out m bb hbb
                        have v3 := (HBe.out.cell (p := ⟨ba, oa + m, none⟩) v1).trans v2
                        have v4 : ba < (w6.setCell ⟨wP.heap.size, p, none⟩ (.int .i64 D)).heap.size := Nat.lt_of_lt_of_le v1 HBe.out.size
                        clear v2 hbb
                        cases bb with
                        | true =>
                          go_wp2
                          go_roundw
                          case rel => exact ⟨k + 1, y.a.toNat, m + 1, D - T + U, by go_num, congrArg _ HAT.out, by first | rfl | go_num, by go_num, by omega, HQ, by omega, HN2, HD7, HB7⟩
                          case measure => simp [intOf]; omega
                        | false =>
                          go_wp2
                          go_roundw
                          case rel => exact ⟨k + 1, p + 1, m + 1, D - T + U, by go_num, by go_num, by first | rfl | go_num, by go_num, by omega, HQ1, by omega, HN1, HD7, HB7⟩
                          case measure => simp [intOf]; omega
                      · have c1 : ¬ (m : Int) < (l.length : Int) := by omega
                        go_wp2
                        go_roundw
                        case rel => exact ⟨k + 1, p + 1, m + 1, D - T + U, by go_num, by go_num, by first | rfl | go_num, by go_num, by omega, HQ1, by omega, HN1, HD7, HB7⟩
                        case measure => simp [intOf]; omega
                    | false =>
                      have hen : endsB y.op = false := by unfold endsB; rw [h12, h11, h8]; rfl
                      obtain ⟨HQ, n1⟩ := HNx.out (p + 1) (.inr ⟨hen, rfl⟩)
                      have HN2 : Hid (D - T + U = f (p + 1)) := by show _ = _; rw [n1, HDp.out]
                      clear n1 hen
                      go_wp2
                      go_roundw
                      case rel => exact ⟨k + 1, p + 1, m, D - T + U, by go_num, by go_num, by first | rfl | go_num, rfl, by omega, HQ, by omega, HN2, HD7, HB7⟩
                      case measure => simp [intOf]; omega
          · have j1 : ¬ (k : Int) < 5000 := by omega
            go_wp2
            go_ret
            exact ⟨rfl, HBw.out⟩
end Go.Proofs.YtnblieohdngmiabGreatDoor
