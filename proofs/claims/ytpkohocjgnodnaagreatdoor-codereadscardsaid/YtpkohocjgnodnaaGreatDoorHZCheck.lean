/- The document's Check. -/
import Derived.Test.YtpkohocjgnodnaaGreatDoorGAW
import Derived.Test.YtpkohocjgnodnaaGreatDoorGAX
import Derived.Test.YtpkohocjgnodnaaGreatDoorGAF
namespace Go.Proofs.YtpkohocjgnodnaaGreatDoor
open Go.RowKit

/-- Code in a box of its own. -/
structure CX (w W : World) (bc : Nat) (r1 r2 r3 : Option Addr) (n1 n2 n3 c1 c2 c3 : Nat) : Prop where
  h : W.heap[bc]? = some (.cells #[.slice r1 n1 c1, .slice r2 n2 c2, .slice r3 n3 c3] 26 (0, 0))
  b : Below w.heap.size w W
theorem CX.below {w W W' : World} {bc : Nat} {r1 r2 r3 : Option Addr} {n1 n2 n3 c1 c2 c3 : Nat} (x : CX w W bc r1 r2 r3 n1 n2 n3 c1 c2 c3) (hb : Below W.heap.size W W') : CX w W' bc r1 r2 r3 n1 n2 n3 c1 c2 c3 := ⟨(hb.block _ (heap_lt x.h)).trans x.h, x.b.trans (hb.mono x.b.size)⟩
theorem CX.at {w W : World} {bc : Nat} {r1 r2 r3 : Option Addr} {n1 n2 n3 c1 c2 c3 : Nat} (x : CX w W bc r1 r2 r3 n1 n2 n3 c1 c2 c3) : W.cell? ⟨bc, 0, none⟩ = some (.slice r1 n1 c1) ∧ W.cell? ⟨bc, 1, none⟩ = some (.slice r2 n2 c2) ∧ W.cell? ⟨bc, 2, none⟩ = some (.slice r3 n3 c3) ∧ bc < W.heap.size := ⟨heap_cell x.h rfl, heap_cell x.h rfl, heap_cell x.h rfl, heap_lt x.h⟩
theorem globOk_snoc : ∀ (l a : List (List UInt8)) (t : List UInt8), globOk a (l ++ [t]) = (globOk a l && (symC t && !decide (t ∈ a ++ l)))
  | [], a, t => by simp [globOk]
  | u :: l, a, t => by
    show (symC u && (!decide (u ∈ a) && globOk (a ++ [u]) (l ++ [t]))) = ((symC u && (!decide (u ∈ a) && globOk (a ++ [u]) l)) && _)
    rw [globOk_snoc l (a ++ [u]) t, List.append_assoc]
    cases symC u <;> cases decide (u ∈ a) <;> simp
theorem sym_is (t : List UInt8) : refSym t = symC t := (sym_ref t).symm
/-- What is wrong with the lists, so far. -/
def badK (c : Cd) (j : Nat) : Bool := decide (c.procs.length = 0) || !(c.consts.take j).all isConstB
def badG (c : Cd) (j : Nat) : Bool := badK c c.consts.length || !globOk [] (c.globals.take j)
theorem badK_more {c : Cd} {j : Nat} {x : Int} (h : c.consts[j]? = some x) : badK c (j + 1) = (badK c j || !isConstB x) := by
  unfold badK
  rw [List.take_add_one, h]
  simp [Bool.or_assoc]
theorem badG_more {c : Cd} {j : Nat} {t : List UInt8} (h : c.globals[j]? = some t) : badG c (j + 1) = ((badG c j || !symC t) || decide (t ∈ c.globals.take j)) := by
  unfold badG
  rw [List.take_add_one, h]
  simp only [Option.toList_some, globOk_snoc, List.nil_append]
  cases badK c c.consts.length <;> cases globOk [] (c.globals.take j) <;> cases symC t <;> simp
theorem lists_bad {c : Cd} (h : ¬ (256 < c.procs.length ∨ 1024 < c.consts.length ∨ 64 < c.globals.length)) : listsE c = if badG c c.globals.length then 80 else 0 := by
  unfold listsE badG badK
  rw [if_neg h, List.take_length, List.take_length]
  by_cases h0 : c.procs.length = 0
  · rw [if_pos h0]; simp [h0]
  · rw [if_neg h0]
    cases hk : c.consts.all isConstB <;> cases hg : globOk [] c.globals <;> simp [h0]
set_option maxRecDepth 100000 in
set_option maxHeartbeats 16000000 in
theorem dCheck_any (c : Cd) (v : Value) (w : World) (hv : CV w v c) (hx : ∀ t ∈ c.globals, t.length ≤ 281474976710656) :
    Calls Tryz.prog 7 #[v] w fun e w' => e = .returned (eppV (chkC c)) ∧ Below w.heap.size w w' := by
  obtain ⟨⟨r1, c1, r2, c2, r3, c3, rfl, hw, hp, hxr, hc3⟩, hl⟩ := hv
  have Hl : Hid (c.consts.length ≤ maxLen ∧ c.procs.length ≤ maxLen ∧ c.globals.length ≤ maxLen) := hl
  have HW : Hid (WR w r1 c.consts) := hw
  have HP : Hid (PR w r2 c.procs) := hp
  have HXr : Hid (XR w r3 c.globals) := hxr
  have Hx : Hid (∀ t ∈ c.globals, t.length ≤ 281474976710656) := hx
  have HC0 : Hid (CX w (w.alloc (.cells #[.slice r1 c.consts.length c1, .slice r2 c.procs.length c2, .slice r3 c.globals.length c3] 26)) w.heap.size r1 r2 r3 c.consts.length c.procs.length c.globals.length c1 c2 c3) := ⟨heap_alloc_new _ _, (Below.refl _ w).alloc (Nat.le_refl _) _⟩
  obtain ⟨n1, n2, n3⟩ := hl
  unfold maxLen at n1 n2 n3
  clear hw hp hxr hx
  by_cases hbig : 256 < c.procs.length ∨ 1024 < c.consts.length ∨ 64 < c.globals.length
  · have HV : Hid (chkC c = (2, 0, 0)) := by
      have hl2 : listsE c = 2 := by unfold listsE; rw [if_pos hbig]
      show _ = _; unfold chkC; rw [hl2]; rfl
    have hcase : decide ((c.procs.length : Int) > 256) = true ∨ (decide ((c.procs.length : Int) > 256) = false ∧ decide ((c.consts.length : Int) > 1024) = true) ∨ (decide ((c.procs.length : Int) > 256) = false ∧ decide ((c.consts.length : Int) > 1024) = false ∧ decide ((c.globals.length : Int) > 64) = true) := by
      by_cases q1 : 256 < c.procs.length
      · exact .inl (decide_eq_true (by omega))
      · by_cases q2 : 1024 < c.consts.length
        · exact .inr (.inl ⟨decide_eq_false (by omega), decide_eq_true (by omega)⟩)
        · exact .inr (.inr ⟨decide_eq_false (by omega), decide_eq_false (by omega), decide_eq_true (by omega)⟩)
    clear hbig
    rcases hcase with z1 | ⟨z1, z2⟩ | ⟨z1, z2, z3⟩
    all_goals
      go_enter Tryz.func7, Tryz.ntmps7
      go_wp2
      go_ret3
      exact ⟨by rw [HV.out]; rfl, HC0.out.b⟩
  have z1 : decide ((c.procs.length : Int) > 256) = false := decide_eq_false (by omega)
  have z2 : decide ((c.consts.length : Int) > 1024) = false := decide_eq_false (by omega)
  have z3 : decide ((c.globals.length : Int) > 64) = false := decide_eq_false (by omega)
  have m1 : c.procs.length ≤ 256 := by omega
  have m2 : c.consts.length ≤ 1024 := by omega
  have m3 : c.globals.length ≤ 64 := by omega
  have HLE : Hid (listsE c = if badG c c.globals.length then 80 else 0) := lists_bad hbig
  clear hbig n1 n2 n3
  go_enter Tryz.func7, Tryz.ntmps7
  go_upto_region 1 with fail
  generalize w.alloc (.cells #[.slice r1 c.consts.length c1, .slice r2 c.procs.length c2, .slice r3 c.globals.length c3] 26) = W1 at *
  obtain ⟨bc, hbc⟩ : ∃ bc, bc = w.heap.size := ⟨_, rfl⟩
  rw [← hbc] at HC0 ⊢
  clear hbc
  obtain ⟨u0, u1, u2, lu⟩ := HC0.out.at
  go_upto_region 4 with fail
  obtain ⟨b0, hb0⟩ : ∃ b0, ((c.procs.length : Int) == 0) = b0 := ⟨_, rfl⟩
  rw [hb0]
  have HB0 : Hid (b0 = badK c 0) := by
    show _ = _
    rw [← hb0]
    unfold badK
    simp only [List.take_zero, List.all_nil, Bool.not_true, Bool.or_false]
    by_cases q : c.procs.length = 0
    · rw [decide_eq_true q]; simp [q]
    · rw [decide_eq_false q]; simp [q]
  clear hb0 z1 z2 z3 u0 u1 u2 lu
  go_wp2_with fail
  go_loopw [5, 6, 7, 8, 9] (fun vb i _ _ _ wr => ∃ (j : Nat) (bd : Bool), i = .int .i64 j ∧ vb = .bool bd ∧ j ≤ c.consts.length ∧ Hid (bd = badK c j) ∧ Hid (CX w wr bc r1 r2 r3 c.consts.length c.procs.length c.globals.length c1 c2 c3)) (fun _ i _ _ _ _ => c.consts.length - (intOf i).toNat)
  case atStart => exact ⟨0, b0, rfl, rfl, Nat.zero_le _, HB0, HC0⟩
  case round =>
    clear HC0 HB0
    obtain ⟨j, bd, rfl, rfl, hj, HBd, HC⟩ := hrel
    obtain ⟨u0, u1, u2, lu⟩ := HC.out.at
    by_cases hjl : j < c.consts.length
    · have j1 : (j : Int) < (c.consts.length : Int) := by omega
      obtain ⟨x, hx⟩ : ∃ x, c.consts[j]? = some x := ⟨_, List.getElem?_eq_getElem hjl⟩
      obtain ⟨b, o, q1, q2⟩ := WR.at (HW.out.below HC.out.b)
      have hra := q1 (by omega)
      rw [hra] at u0
      obtain ⟨g1, g2, g3⟩ := q2 j x hx
      have HBm : Hid (badK c (j + 1) = (badK c j || !isConstB x)) := badK_more hx
      have HOf : Hid _ := refOf_any x wr g3
      have HIc : Hid (isConstB x = (wd x && (ofT x != 8))) := rfl
      clear hx hra q1 q2
      generalize wd x = wx at *
      generalize ofT x = tx at *
      generalize ofN x = nx at *
      generalize isConstB x = ic at *
      obtain ⟨b8, hb8⟩ : ∃ b8, (tx == 8) = b8 := ⟨_, rfl⟩
      have HI2 : Hid (ic = (wx && !b8)) := by show _ = _; rw [HIc.out, ← hb8]; rfl
      go_wp2_with fail
      refine Calls.mono HOf.out ?_
      rintro e w5 ⟨rfl, hw5⟩
      rw [hw5]
      clear hw5 HOf
      have fin : ∀ b2 : Bool, b2 = (bd || (!wx || b8)) → Hid (b2 = badK c (j + 1)) := fun b2 h => by
        show _ = _
        rw [h, HBm.out, HI2.out, ← HBd.out]
        cases bd <;> cases wx <;> cases b8 <;> rfl
      have HFin : Hid (∀ b2 : Bool, b2 = (bd || (!wx || b8)) → Hid (b2 = badK c (j + 1))) := fin
      clear fin HI2 HIc HBm
      cases bd
      · cases wx
        · go_wp2
          go_roundw
          case rel => exact ⟨j + 1, true, by go_num, rfl, by omega, HFin.out true rfl, HC⟩
          case measure => simp [intOf]; omega
        · cases b8
          · go_wp2
            go_roundw
            case rel => exact ⟨j + 1, false, by go_num, rfl, by omega, HFin.out false rfl, HC⟩
            case measure => simp [intOf]; omega
          · go_wp2
            go_roundw
            case rel => exact ⟨j + 1, true, by go_num, rfl, by omega, HFin.out true rfl, HC⟩
            case measure => simp [intOf]; omega
      · go_wp2
        go_roundw
        case rel => exact ⟨j + 1, true, by go_num, rfl, by omega, HFin.out true rfl, HC⟩
        case measure => simp [intOf]; omega
    · have j1 : ¬ (j : Int) < (c.consts.length : Int) := by omega
      have HBe : Hid (bd = badG c 0) := by
        show _ = _
        rw [HBd.out, show j = c.consts.length by omega]
        unfold badG
        simp [globOk]
      clear HBd u0 u1 u2 lu
      obtain ⟨u0, u1, u2, lu⟩ := HC.out.at
      go_wp2_with fail
      clear j1 u0 u1 u2 lu
      go_loopw [5, 10, 11] (fun vb i _ wr => ∃ (k : Nat) (bd : Bool), i = .int .i64 k ∧ vb = .bool bd ∧ k ≤ c.globals.length ∧ Hid (bd = badG c k) ∧ Hid (CX w wr bc r1 r2 r3 c.consts.length c.procs.length c.globals.length c1 c2 c3)) (fun _ i _ _ => c.globals.length - (intOf i).toNat)
      case atStart => exact ⟨0, bd, rfl, rfl, Nat.zero_le _, HBe, HC⟩
      case round =>
        clear HC HBe
        obtain ⟨k, bg, rfl, rfl, hk, HBg, HC⟩ := hrel
        obtain ⟨u0, u1, u2, lu⟩ := HC.out.at
        by_cases hkl : k < c.globals.length
        · have k1 : (k : Int) < (c.globals.length : Int) := by omega
          obtain ⟨t, ht⟩ : ∃ t, c.globals[k]? = some t := ⟨_, List.getElem?_eq_getElem hkl⟩
          obtain ⟨b, o, q1, q2⟩ := XR.at (HXr.out.below HC.out.b)
          have hra := q1 (by omega)
          obtain ⟨g1, g2, g3⟩ := q2 k t ht
          have HBm : Hid (badG c (k + 1) = ((badG c k || !symC t) || decide (t ∈ c.globals.take k))) := badG_more ht
          have htl := Hx.out t (List.mem_of_getElem? ht)
          have HSy : Hid (∀ W, Calls Tryz.prog 23 #[S t] W fun e w' => e = .returned (.bool (symC t)) ∧ Below W.heap.size W w') := fun W => by
            have := refIsSymbol_any ⟨t.toArray⟩ W (by show t.toArray.size ≤ _; simpa using htl)
            rw [show (⟨t.toArray⟩ : ByteArray).data.toList = t from by simp, sym_is] at this
            exact this
          have HTx : Hid (∀ wx, Below w.heap.size w wx → r3 = some ⟨b, o, none⟩ ∧ ∀ j y, c.globals[j]? = some y → b < wx.heap.size ∧ wx.cell? ⟨b, o + j, none⟩ = some (S y)) := fun wx hb => ⟨hra, fun j y hy => by
            obtain ⟨b', o', q1', q2'⟩ := XR.at (HXr.out.below hb)
            have e := (q1' (by omega)).symm.trans hra
            cases e
            exact ⟨(q2' j y hy).1, (q2' j y hy).2.1⟩⟩
          have HTk : Hid (c.globals[k]? = some t) := ht
          have HRa : Hid (r3 = some ⟨b, o, none⟩) := hra
          clear q1 q2 ht htl g3 hra
          generalize symC t = sy at *
          obtain ⟨bs, hbs⟩ : ∃ bs, bs = (bg || !sy) := ⟨_, rfl⟩
          have HBs : Hid (badG c (k + 1) = (bs || decide (t ∈ c.globals.take k))) := by show _ = _; rw [HBm.out, hbs, HBg.out]
          have HBs2 : Hid (bs = (bg || !sy)) := hbs
          clear hbs HBm
          cases bg
          · rw [HRa.out] at u2
            go_wp2_with fail
            refine (HSy.out _).mono ?_
            rintro e w5 ⟨rfl, hb5⟩
            have HC5 : Hid (CX w w5 bc r1 r2 r3 c.consts.length c.procs.length c.globals.length c1 c2 c3) := HC.out.below hb5
            have HE5 : Hid ((!sy) = bs) := by show _ = _; rw [HBs2.out]; rfl
            clear hb5 HSy HC u0 u1 u2 lu g1 g2 HBs2
            obtain ⟨bn, hbn⟩ : ∃ bn, (!sy) = bn := ⟨_, rfl⟩
            rw [hbn] at HE5
            have HBn : Hid ((!sy) = bn) := hbn
            cases sy
            · obtain rfl : true = bn := hbn
              clear HBn
              go_wp2_with fail
              go_loopw [5, 11] (fun vb i wr => ∃ (q : Nat) (b5 : Bool), i = .int .i64 q ∧ vb = .bool b5 ∧ q ≤ k ∧ Hid (b5 = (bs || decide (t ∈ c.globals.take q))) ∧ Hid (CX w wr bc r1 r2 r3 c.consts.length c.procs.length c.globals.length c1 c2 c3)) (fun _ i _ => k - (intOf i).toNat)
              case atStart => exact ⟨0, true, rfl, rfl, Nat.zero_le _, by show _ = _; rw [HE5.out]; simp, HC5⟩
              case round =>
                clear HC5
                obtain ⟨q, b5, rfl, rfl, hq, HB5, HC⟩ := hrel
                obtain ⟨u0, u1, u2, lu⟩ := HC.out.at
                by_cases hql : q < k
                · have q1 : (q : Int) < (k : Int) := by omega
                  have q2 : (q : Int) < (c.globals.length : Int) := by omega
                  obtain ⟨y, hy⟩ : ∃ y, c.globals[q]? = some y := ⟨_, List.getElem?_eq_getElem (by omega)⟩
                  obtain ⟨hr3, htx⟩ := HTx.out wr HC.out.b
                  obtain ⟨lb, cy⟩ := htx q y hy
                  obtain ⟨_, ct⟩ := htx k t HTk.out
                  rw [hr3] at u2
                  have hmem : decide (t ∈ c.globals.take (q + 1)) = (decide (t ∈ c.globals.take q) || decide (t = y)) := by
                    rw [List.take_add_one, hy]
                    simp
                  have HMm : Hid (decide (t ∈ c.globals.take (q + 1)) = (decide (t ∈ c.globals.take q) || decide (t = y))) := hmem
                  clear hmem hy htx hr3
                  cases b5
                  · by_cases hty : y = t
                    · have z : (y == t) = true := by simp [hty]
                      have HB6 : Hid (true = (bs || decide (t ∈ c.globals.take (q + 1)))) := by show _ = _; rw [HMm.out, decide_eq_true hty.symm]; simp
                      have HXd : Hid (∀ n, CX w (wr.drewN n) bc r1 r2 r3 c.consts.length c.procs.length c.globals.length c1 c2 c3) := fun n => HC.out.below (below_drewN (Below.refl _ _) n)
                      clear hty
                      go_upto_region 16 with fail
                      go_quiet (fail)
                      go_wp2
                      go_roundw
                      case rel => exact ⟨q + 1, true, by go_num, rfl, by omega, HB6, HXd.out _⟩
                      case measure => simp [intOf]; omega
                    · have z : (y == t) = false := by simpa using hty
                      have HB6 : Hid (false = (bs || decide (t ∈ c.globals.take (q + 1)))) := by show _ = _; rw [HMm.out, show decide (t = y) = false from decide_eq_false (fun e => hty e.symm), Bool.or_false]; exact HB5.out
                      have HXd : Hid (∀ n, CX w (wr.drewN n) bc r1 r2 r3 c.consts.length c.procs.length c.globals.length c1 c2 c3) := fun n => HC.out.below (below_drewN (Below.refl _ _) n)
                      clear hty
                      go_upto_region 16 with fail
                      go_quiet (fail)
                      go_wp2
                      go_roundw
                      case rel => exact ⟨q + 1, false, by go_num, rfl, by omega, HB6, HXd.out _⟩
                      case measure => simp [intOf]; omega
                  · have HB6 : Hid (true = (bs || decide (t ∈ c.globals.take (q + 1)))) := by
                      show _ = _; rw [HMm.out, ← Bool.or_assoc, ← HB5.out]; rfl
                    have HXd : Hid (∀ n, CX w (wr.drewN n) bc r1 r2 r3 c.consts.length c.procs.length c.globals.length c1 c2 c3) := fun n => HC.out.below (below_drewN (Below.refl _ _) n)
                    go_upto_region 16 with fail
                    go_quiet (fail)
                    go_wp2
                    go_roundw
                    case rel => exact ⟨q + 1, true, by go_num, rfl, by omega, HB6, HXd.out _⟩
                    case measure => simp [intOf]; omega
                · have q1 : ¬ (q : Int) < (k : Int) := by omega
                  have HB6 : Hid (b5 = badG c (k + 1)) := by show _ = _; rw [HBs.out, HB5.out, show q = k by omega]
                  cases b5
                  · go_wp2
                    go_roundw
                    case rel => first | exact ⟨k + 1, false, by go_num, rfl, by omega, HB6, HC⟩ | exact ⟨k + 1, by go_num, by omega, HB6.out.symm, HC⟩
                    case measure => simp [intOf]; omega
                  · go_wp2
                    go_roundw
                    case rel => first | exact ⟨k + 1, true, by go_num, rfl, by omega, HB6, HC⟩ | exact ⟨k + 1, by go_num, by omega, HB6.out.symm, HC⟩
                    case measure => simp [intOf]; omega
            · obtain rfl : false = bn := hbn
              clear HBn
              go_wp2_with fail
              go_loopw [5, 11] (fun vb i wr => ∃ (q : Nat) (b5 : Bool), i = .int .i64 q ∧ vb = .bool b5 ∧ q ≤ k ∧ Hid (b5 = (bs || decide (t ∈ c.globals.take q))) ∧ Hid (CX w wr bc r1 r2 r3 c.consts.length c.procs.length c.globals.length c1 c2 c3)) (fun _ i _ => k - (intOf i).toNat)
              case atStart => exact ⟨0, false, rfl, rfl, Nat.zero_le _, by show _ = _; rw [HE5.out]; simp, HC5⟩
              case round =>
                clear HC5
                obtain ⟨q, b5, rfl, rfl, hq, HB5, HC⟩ := hrel
                obtain ⟨u0, u1, u2, lu⟩ := HC.out.at
                by_cases hql : q < k
                · have q1 : (q : Int) < (k : Int) := by omega
                  have q2 : (q : Int) < (c.globals.length : Int) := by omega
                  obtain ⟨y, hy⟩ : ∃ y, c.globals[q]? = some y := ⟨_, List.getElem?_eq_getElem (by omega)⟩
                  obtain ⟨hr3, htx⟩ := HTx.out wr HC.out.b
                  obtain ⟨lb, cy⟩ := htx q y hy
                  obtain ⟨_, ct⟩ := htx k t HTk.out
                  rw [hr3] at u2
                  have hmem : decide (t ∈ c.globals.take (q + 1)) = (decide (t ∈ c.globals.take q) || decide (t = y)) := by
                    rw [List.take_add_one, hy]
                    simp
                  have HMm : Hid (decide (t ∈ c.globals.take (q + 1)) = (decide (t ∈ c.globals.take q) || decide (t = y))) := hmem
                  clear hmem hy htx hr3
                  cases b5
                  · by_cases hty : y = t
                    · have z : (y == t) = true := by simp [hty]
                      have HB6 : Hid (true = (bs || decide (t ∈ c.globals.take (q + 1)))) := by show _ = _; rw [HMm.out, decide_eq_true hty.symm]; simp
                      have HXd : Hid (∀ n, CX w (wr.drewN n) bc r1 r2 r3 c.consts.length c.procs.length c.globals.length c1 c2 c3) := fun n => HC.out.below (below_drewN (Below.refl _ _) n)
                      clear hty
                      go_upto_region 16 with fail
                      go_quiet (fail)
                      go_wp2
                      go_roundw
                      case rel => exact ⟨q + 1, true, by go_num, rfl, by omega, HB6, HXd.out _⟩
                      case measure => simp [intOf]; omega
                    · have z : (y == t) = false := by simpa using hty
                      have HB6 : Hid (false = (bs || decide (t ∈ c.globals.take (q + 1)))) := by show _ = _; rw [HMm.out, show decide (t = y) = false from decide_eq_false (fun e => hty e.symm), Bool.or_false]; exact HB5.out
                      have HXd : Hid (∀ n, CX w (wr.drewN n) bc r1 r2 r3 c.consts.length c.procs.length c.globals.length c1 c2 c3) := fun n => HC.out.below (below_drewN (Below.refl _ _) n)
                      clear hty
                      go_upto_region 16 with fail
                      go_quiet (fail)
                      go_wp2
                      go_roundw
                      case rel => exact ⟨q + 1, false, by go_num, rfl, by omega, HB6, HXd.out _⟩
                      case measure => simp [intOf]; omega
                  · have HB6 : Hid (true = (bs || decide (t ∈ c.globals.take (q + 1)))) := by
                      show _ = _; rw [HMm.out, ← Bool.or_assoc, ← HB5.out]; rfl
                    have HXd : Hid (∀ n, CX w (wr.drewN n) bc r1 r2 r3 c.consts.length c.procs.length c.globals.length c1 c2 c3) := fun n => HC.out.below (below_drewN (Below.refl _ _) n)
                    go_upto_region 16 with fail
                    go_quiet (fail)
                    go_wp2
                    go_roundw
                    case rel => exact ⟨q + 1, true, by go_num, rfl, by omega, HB6, HXd.out _⟩
                    case measure => simp [intOf]; omega
                · have q1 : ¬ (q : Int) < (k : Int) := by omega
                  have HB6 : Hid (b5 = badG c (k + 1)) := by show _ = _; rw [HBs.out, HB5.out, show q = k by omega]
                  cases b5
                  · go_wp2
                    go_roundw
                    case rel => first | exact ⟨k + 1, false, by go_num, rfl, by omega, HB6, HC⟩ | exact ⟨k + 1, by go_num, by omega, HB6.out.symm, HC⟩
                    case measure => simp [intOf]; omega
                  · go_wp2
                    go_roundw
                    case rel => first | exact ⟨k + 1, true, by go_num, rfl, by omega, HB6, HC⟩ | exact ⟨k + 1, by go_num, by omega, HB6.out.symm, HC⟩
                    case measure => simp [intOf]; omega
          · have HE5 : Hid (true = bs) := by show _ = _; rw [HBs2.out]; rfl
            clear HSy g1 g2 HBs2
            go_wp2_with fail
            go_loopw [5, 11] (fun vb i wr => ∃ (q : Nat) (b5 : Bool), i = .int .i64 q ∧ vb = .bool b5 ∧ q ≤ k ∧ Hid (b5 = (bs || decide (t ∈ c.globals.take q))) ∧ Hid (CX w wr bc r1 r2 r3 c.consts.length c.procs.length c.globals.length c1 c2 c3)) (fun _ i _ => k - (intOf i).toNat)
            case atStart => exact ⟨0, true, rfl, rfl, Nat.zero_le _, by show _ = _; rw [HE5.out]; simp, HC⟩
            case round =>
              clear HC
              obtain ⟨q, b5, rfl, rfl, hq, HB5, HC⟩ := hrel
              obtain ⟨u0, u1, u2, lu⟩ := HC.out.at
              by_cases hql : q < k
              · have q1 : (q : Int) < (k : Int) := by omega
                have q2 : (q : Int) < (c.globals.length : Int) := by omega
                obtain ⟨y, hy⟩ : ∃ y, c.globals[q]? = some y := ⟨_, List.getElem?_eq_getElem (by omega)⟩
                obtain ⟨hr3, htx⟩ := HTx.out wr HC.out.b
                obtain ⟨lb, cy⟩ := htx q y hy
                obtain ⟨_, ct⟩ := htx k t HTk.out
                rw [hr3] at u2
                have hmem : decide (t ∈ c.globals.take (q + 1)) = (decide (t ∈ c.globals.take q) || decide (t = y)) := by
                  rw [List.take_add_one, hy]
                  simp
                have HMm : Hid (decide (t ∈ c.globals.take (q + 1)) = (decide (t ∈ c.globals.take q) || decide (t = y))) := hmem
                clear hmem hy htx hr3
                cases b5
                · by_cases hty : y = t
                  · have z : (y == t) = true := by simp [hty]
                    have HB6 : Hid (true = (bs || decide (t ∈ c.globals.take (q + 1)))) := by show _ = _; rw [HMm.out, decide_eq_true hty.symm]; simp
                    have HXd : Hid (∀ n, CX w (wr.drewN n) bc r1 r2 r3 c.consts.length c.procs.length c.globals.length c1 c2 c3) := fun n => HC.out.below (below_drewN (Below.refl _ _) n)
                    clear hty
                    go_upto_region 16 with fail
                    go_quiet (fail)
                    go_wp2
                    go_roundw
                    case rel => exact ⟨q + 1, true, by go_num, rfl, by omega, HB6, HXd.out _⟩
                    case measure => simp [intOf]; omega
                  · have z : (y == t) = false := by simpa using hty
                    have HB6 : Hid (false = (bs || decide (t ∈ c.globals.take (q + 1)))) := by show _ = _; rw [HMm.out, show decide (t = y) = false from decide_eq_false (fun e => hty e.symm), Bool.or_false]; exact HB5.out
                    have HXd : Hid (∀ n, CX w (wr.drewN n) bc r1 r2 r3 c.consts.length c.procs.length c.globals.length c1 c2 c3) := fun n => HC.out.below (below_drewN (Below.refl _ _) n)
                    clear hty
                    go_upto_region 16 with fail
                    go_quiet (fail)
                    go_wp2
                    go_roundw
                    case rel => exact ⟨q + 1, false, by go_num, rfl, by omega, HB6, HXd.out _⟩
                    case measure => simp [intOf]; omega
                · have HB6 : Hid (true = (bs || decide (t ∈ c.globals.take (q + 1)))) := by
                    show _ = _; rw [HMm.out, ← Bool.or_assoc, ← HB5.out]; rfl
                  have HXd : Hid (∀ n, CX w (wr.drewN n) bc r1 r2 r3 c.consts.length c.procs.length c.globals.length c1 c2 c3) := fun n => HC.out.below (below_drewN (Below.refl _ _) n)
                  go_upto_region 16 with fail
                  go_quiet (fail)
                  go_wp2
                  go_roundw
                  case rel => exact ⟨q + 1, true, by go_num, rfl, by omega, HB6, HXd.out _⟩
                  case measure => simp [intOf]; omega
              · have q1 : ¬ (q : Int) < (k : Int) := by omega
                have HB6 : Hid (b5 = badG c (k + 1)) := by show _ = _; rw [HBs.out, HB5.out, show q = k by omega]
                cases b5
                · go_wp2
                  go_roundw
                  case rel => first | exact ⟨k + 1, false, by go_num, rfl, by omega, HB6, HC⟩ | exact ⟨k + 1, by go_num, by omega, HB6.out.symm, HC⟩
                  case measure => simp [intOf]; omega
                · go_wp2
                  go_roundw
                  case rel => first | exact ⟨k + 1, true, by go_num, rfl, by omega, HB6, HC⟩ | exact ⟨k + 1, by go_num, by omega, HB6.out.symm, HC⟩
                  case measure => simp [intOf]; omega
        · have k1 : ¬ (k : Int) < (c.globals.length : Int) := by omega
          have HBe : Hid (bg = badG c c.globals.length) := by show _ = _; rw [HBg.out, show k = c.globals.length by omega]
          cases bg
          · have HV : Hid (chkC c = chkPs c.consts.length c.globals.length c.procs.length c.procs 0) := by
              show _ = _
              unfold chkC
              rw [HLE.out, ← HBe.out]; rfl
            clear HBg HBe
            obtain ⟨b, o, q1, q2⟩ := PR.at HP.out
            have Q1 : Hid (c.procs.length ≠ 0 → r2 = some ⟨b, o, none⟩) := q1
            have Q2 : Hid (∀ j x, c.procs[j]? = some x → b < w.heap.size ∧ w.cell? ⟨b, o + j * 2, none⟩ = some (.int .i64 x.params) ∧ (∃ rc cc, w.cell? ⟨b, o + j * 2 + 1, none⟩ = some (.slice rc x.code.length cc) ∧ NR w rc x.code) ∧ x.code.length ≤ maxLen) := q2
            clear q1 q2
            go_wp2_with fail
            clear k1 u0 u1 u2 lu
            go_loopw [12, 13, 14] (fun i _ _ wr => ∃ q : Nat, i = .int .i64 q ∧ q ≤ c.procs.length ∧ Hid (chkC c = chkPs c.consts.length c.globals.length c.procs.length (c.procs.drop q) q) ∧ Hid (CX w wr bc r1 r2 r3 c.consts.length c.procs.length c.globals.length c1 c2 c3)) (fun i _ _ _ => c.procs.length - (intOf i).toNat)
            case atStart => exact ⟨0, rfl, Nat.zero_le _, by show _ = _; rw [HV.out]; simp, HC⟩
            case round =>
              clear HC HV
              obtain ⟨q, rfl, hq, HN, HC⟩ := hrel
              obtain ⟨u0, u1, u2, lu⟩ := HC.out.at
              by_cases hql : q < c.procs.length
              · have q1 : (q : Int) < (c.procs.length : Int) := by omega
                have hra := Q1.out (by omega)
                have HRa : Hid (r2 = some ⟨b, o, none⟩) := hra
                have hx : c.procs[q]? = some c.procs[q] := List.getElem?_eq_getElem hql
                have hdr : c.procs.drop q = c.procs[q] :: c.procs.drop (q + 1) := List.drop_eq_getElem_cons hql
                generalize c.procs[q] = x at hx hdr
                obtain ⟨k0, k1, ⟨rc, cc, k2, k3⟩, k4⟩ := Q2.out q x hx
                have HBw := HC.out.b
                have f1 : wr.cell? ⟨b, o + q * 2, none⟩ = some (.int .i64 x.params) := (HBw.cell (p := ⟨b, o + q * 2, none⟩) k0).trans k1
                have f2 : wr.cell? ⟨b, o + q * 2 + 1, none⟩ = some (.slice rc x.code.length cc) := (HBw.cell (p := ⟨b, o + q * 2 + 1, none⟩) k0).trans k2
                have f0 : b < wr.heap.size := Nat.lt_of_lt_of_le k0 HBw.size
                have HCp : Hid (∀ w5 : World, Below w.heap.size w w5 → Calls Tryz.prog 24 #[.agg #[.slice r1 c.consts.length c1, .slice r2 c.procs.length c2, .slice r3 c.globals.length c3], .agg #[.int .i64 x.params, .slice rc x.code.length cc]] w5 fun e w' => e = .returned (epV (chkP c.consts.length c.globals.length c.procs.length x)) ∧ Below w5.heap.size w5 w') :=
                  fun w5 h5 => dProc_any c.consts.length c.procs.length c.globals.length x r1 r2 r3 rc c1 c2 c3 cc w5 ⟨Hl.out.1, Hl.out.2.1, Hl.out.2.2, k4⟩ (k3.below h5)
                have HN2 : Hid (chkC c = if (chkP c.consts.length c.globals.length c.procs.length x).1 = 0 then chkPs c.consts.length c.globals.length c.procs.length (c.procs.drop (q + 1)) (q + 1) else ((chkP c.consts.length c.globals.length c.procs.length x).1, q, (chkP c.consts.length c.globals.length c.procs.length x).2)) := by show _ = _; rw [HN.out, hdr]; rfl
                have HBd : Hid (Below w.heap.size w wr.drew) := HBw.drew
                generalize chkP c.consts.length c.globals.length c.procs.length x = r at HN2 HCp
                obtain ⟨er, pl⟩ := r
                rw [hra] at u1
                have HKp : Hid (∀ wx, Below wr.heap.size wr wx → wx.cell? ⟨bc, 0, none⟩ = some (.slice r1 c.consts.length c1) ∧ wx.cell? ⟨bc, 1, none⟩ = some (.slice (some ⟨b, o, none⟩) c.procs.length c2) ∧ wx.cell? ⟨bc, 2, none⟩ = some (.slice r3 c.globals.length c3) ∧ wx.cell? ⟨b, o + q * 2, none⟩ = some (.int .i64 x.params) ∧ wx.cell? ⟨b, o + q * 2 + 1, none⟩ = some (.slice rc x.code.length cc) ∧ bc < wx.heap.size ∧ b < wx.heap.size) := fun wx hb => ⟨(hb.cell (p := ⟨bc, 0, none⟩) lu).trans u0, (hb.cell (p := ⟨bc, 1, none⟩) lu).trans u1, (hb.cell (p := ⟨bc, 2, none⟩) lu).trans u2, (hb.cell (p := ⟨b, o + q * 2, none⟩) f0).trans f1, (hb.cell (p := ⟨b, o + q * 2 + 1, none⟩) f0).trans f2, Nat.lt_of_lt_of_le lu hb.size, Nat.lt_of_lt_of_le f0 hb.size⟩
                rw [hra] at HCp
                clear hx hdr k0 k1 k2 k3 k4 hra HBw HN
                unfold epV at HCp
                go_upto_region 22 with fail
                go_region_held3 (fun wx : World => wx.cell? ⟨bc, 0, none⟩ = some (.slice r1 c.consts.length c1) ∧ wx.cell? ⟨bc, 1, none⟩ = some (.slice (some ⟨b, o, none⟩) c.procs.length c2) ∧ wx.cell? ⟨bc, 2, none⟩ = some (.slice r3 c.globals.length c3) ∧ wx.cell? ⟨b, o + q * 2, none⟩ = some (.int .i64 x.params) ∧ wx.cell? ⟨b, o + q * 2 + 1, none⟩ = some (.slice rc x.code.length cc) ∧ bc < wx.heap.size ∧ b < wx.heap.size) (first | exact ⟨u0, u1, u2, f1, f2, lu, f0⟩ | (go_keep; done) | exact HKp.out _ ((Below.refl _ wr).drew.trans h5)) (first | (go_at_call 24; refine (HCp.out _ HBd.out).mono ?_; rintro e w5 ⟨rfl, h5⟩) | fail)
                have HC5 : Hid (CX w w5 bc r1 r2 r3 c.consts.length c.procs.length c.globals.length c1 c2 c3) := HC.out.below ((Below.refl _ wr).drew.trans h5)
                clear h5 HKp HCp HBd u0 u1 u2 lu f0 f1 f2 HC
                by_cases her : er = 0
                · subst her
                  have HN3 : Hid (chkC c = chkPs c.consts.length c.globals.length c.procs.length (c.procs.drop (q + 1)) (q + 1)) := by show _ = _; rw [HN2.out]; rfl
                  go_wp2
                  go_roundw
                  case rel => exact ⟨q + 1, by go_num, by omega, HN3, HC5⟩
                  case measure => simp [intOf]; omega
                · have HN3 : Hid (chkC c = (er, q, pl)) := by show _ = _; rw [HN2.out]; exact if_neg her
                  have her' : (er != 0) = true := by simpa using her
                  clear her
                  go_wp2
                  go_ret3
                  exact ⟨by rw [HN3.out]; rfl, HC5.out.b⟩
              · have q1 : ¬ (q : Int) < (c.procs.length : Int) := by omega
                have HN3 : Hid (chkC c = (0, 0, 0)) := by show _ = _; rw [HN.out, List.drop_of_length_le (by omega)]; rfl
                go_wp2
                go_ret3
                exact ⟨by rw [HN3.out]; rfl, HC.out.b⟩
          · have HV : Hid (chkC c = (80, 0, 0)) := by
              show _ = _
              unfold chkC
              rw [HLE.out, ← HBe.out]; rfl
            clear HBg HBe
            go_wp2
            go_ret3
            exact ⟨by rw [HV.out]; rfl, HC.out.b⟩
end Go.Proofs.YtpkohocjgnodnaaGreatDoor
