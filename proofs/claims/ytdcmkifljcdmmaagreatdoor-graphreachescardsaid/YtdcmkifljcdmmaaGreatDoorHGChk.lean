/- Cells and heaps in memory; isWord, isCell, Check, isHeap. -/
import Derived.Test.YtdcmkifljcdmmaaGreatDoorGA
import Derived.BigQuiet
namespace Go.Proofs.YtdcmkifljcdmmaaGreatDoor
open Go.RowKit

/-- A row of words that is read. -/
def WR (w : World) (ra : Option Addr) (l : List Int) : Prop := ∃ b o, (l.length = 0 ∨ ra = some ⟨b, o, none⟩) ∧ ∀ (j : Nat) (x : Int), l[j]? = some x → b < w.heap.size ∧ w.cell? ⟨b, o + j, none⟩ = some (.int .u64 x) ∧ Rng x
structure OkK (x : Cl) : Prop where
  k : 0 ≤ x.k ∧ x.k ≤ 255
  c : 0 ≤ x.c ∧ x.c ≤ 255
  a : Rng x.a
  b : Rng x.b
/-- A row of cells that is read. -/
def HR (w : World) (ra : Option Addr) (l : List Cl) : Prop := ∃ b o, (l.length = 0 ∨ ra = some ⟨b, o, none⟩) ∧ ∀ (j : Nat) (x : Cl), l[j]? = some x → b < w.heap.size ∧ (w.cell? ⟨b, o + j * 4, none⟩ = some (.int .u8 x.k) ∧ w.cell? ⟨b, o + j * 4 + 1, none⟩ = some (.int .u8 x.c) ∧ w.cell? ⟨b, o + j * 4 + 1 + 1, none⟩ = some (.int .u64 x.a) ∧ w.cell? ⟨b, o + j * 4 + 1 + 1 + 1, none⟩ = some (.int .u64 x.b)) ∧ OkK x
theorem WR.below {w w' : World} {ra : Option Addr} {l : List Int} (h : WR w ra l) (hb : Below w.heap.size w w') : WR w' ra l := by
  obtain ⟨b, o, h1, h2⟩ := h
  exact ⟨b, o, h1, fun j x hx => ⟨Nat.lt_of_lt_of_le (h2 j x hx).1 hb.size, (hb.cell (p := ⟨b, o + j, none⟩) (h2 j x hx).1).trans (h2 j x hx).2.1, (h2 j x hx).2.2⟩⟩
theorem HR.below {w w' : World} {ra : Option Addr} {l : List Cl} (h : HR w ra l) (hb : Below w.heap.size w w') : HR w' ra l := by
  obtain ⟨b, o, h1, h2⟩ := h
  refine ⟨b, o, h1, fun j x hx => ?_⟩
  obtain ⟨g, ⟨a0, a1, a2, a3⟩, k⟩ := h2 j x hx
  have e := fun q => hb.cell (p := ⟨b, q, none⟩) g
  exact ⟨Nat.lt_of_lt_of_le g hb.size, ⟨(e _).trans a0, (e _).trans a1, (e _).trans a2, (e _).trans a3⟩, k⟩
theorem ofN_ref {x : Int} (h : refB x = true) : 0 ≤ ofN x ∧ ofN x ≤ 2147483647 := by
  have h8 : ofT x = 8 := by simpa [refB] using h
  have hw : wd x = true := by
    cases hw : wd x
    · unfold ofT at h8; rw [hw] at h8; simp at h8
    · rfl
  unfold ofT at h8
  rw [if_pos hw] at h8
  have := (may_iff.1 (wd_iff.1 hw).2)
  rw [h8] at this
  unfold ofN
  rw [if_pos hw]
  simp [lo, hi] at this
  exact this
/-- May a word stand there, by what the program reckons? -/
theorem fits_is (n : Nat) (x : Int) : fitsW n x = (wd x && (!refB x || decide (cellV x < (n : Int)))) := by
  unfold fitsW refN
  cases hr : refB x
  · have : ¬ ofT x = 8 := by simpa [refB] using hr
    rw [if_neg this]; rfl
  · have h8 : ofT x = 8 := by simpa [refB] using hr
    have hb := ofN_ref hr
    rw [if_pos h8]
    unfold cellV
    rw [if_pos h8]
    congr 1
    show decide ((ofN x).toNat < n) = decide (ofN x < (n : Int))
    exact decide_eq_decide.2 (by omega)
set_option maxRecDepth 100000 in
set_option maxHeartbeats 4000000 in
theorem isWord_any (x : Int) (n : Nat) (w : World) (hx : Rng x) (hT : Tab w) :
    Calls Tryz.prog 72 #[.int .u64 x, .int .i64 n] w fun e w' => e = .returned (.bool (fitsW n x)) ∧ w' = w := by
  have HV : Hid (fitsW n x = (wd x && (!refB x || decide (cellV x < (n : Int))))) := fits_is n x
  have HO : Hid (Calls Tryz.prog 83 #[.int .u64 x] w fun e w' => e = .returned (.tuple #[.int .u8 (ofT x), .int .i64 (ofN x), .bool (wd x)]) ∧ w' = w) := of_any x w hx hT
  have HC : Hid (Calls Tryz.prog 80 #[.int .u64 x] w fun e w' => e = .returned (.tuple #[.int .i64 (cellV x), .bool (refB x)]) ∧ w' = w) := cell_any x w hx hT
  clear hx hT
  generalize fitsW n x = fv at *
  generalize wd x = b1 at *
  generalize refB x = b2 at *
  generalize cellV x = cv at *
  cases b1
  · go_enter Tryz.func72, Tryz.ntmps72
    go_wp2_with (first | (go_at_call 83; refine HO.out.mono ?_; rintro e w' ⟨rfl, rfl⟩))
    go_ret
    exact ⟨by rw [HV.out]; rfl, rfl⟩
  · cases b2
    · go_enter Tryz.func72, Tryz.ntmps72
      go_wp2_with (first | (go_at_call 83; refine HO.out.mono ?_; rintro e w' ⟨rfl, rfl⟩) | (go_at_call 80; refine HC.out.mono ?_; rintro e w' ⟨rfl, rfl⟩))
      go_ret
      exact ⟨by rw [HV.out]; rfl, rfl⟩
    · go_enter Tryz.func72, Tryz.ntmps72
      go_wp2_with (first | (go_at_call 83; refine HO.out.mono ?_; rintro e w' ⟨rfl, rfl⟩) | (go_at_call 80; refine HC.out.mono ?_; rintro e w' ⟨rfl, rfl⟩))
      go_ret
      exact ⟨by rw [HV.out]; rfl, rfl⟩
abbrev KO (x : Cl) : Obj := .cells #[.int .u8 x.k, .int .u8 x.c, .int .u64 x.a, .int .u64 x.b] 55
set_option maxRecDepth 100000 in
set_option maxHeartbeats 4000000 in
theorem isCell_any (x : Cl) (n : Nat) (w : World) (hx : OkK x) (hT : Tab w) :
    Calls Tryz.prog 67 #[.agg #[.int .u8 x.k, .int .u8 x.c, .int .u64 x.a, .int .u64 x.b], .int .i64 n] w fun e w' => e = .returned (.bool (okCl n x)) ∧ Below w.heap.size w w' := by
  have hal : Below w.heap.size w (w.alloc (KO x)) := (Below.refl _ w).alloc (Nat.le_refl _) _
  have HA : Hid (Below w.heap.size w (w.alloc (KO x))) := hal
  have HFa : Hid (∀ w5 : World, Below w.heap.size w w5 → Calls Tryz.prog 72 #[.int .u64 x.a, .int .i64 n] w5 fun e w' => e = .returned (.bool (fitsW n x.a)) ∧ w' = w5) := fun w5 h5 => isWord_any x.a n w5 hx.a (hT.below h5)
  have HFb : Hid (∀ w5 : World, Below w.heap.size w w5 → Calls Tryz.prog 72 #[.int .u64 x.b, .int .i64 n] w5 fun e w' => e = .returned (.bool (fitsW n x.b)) ∧ w' = w5) := fun w5 h5 => isWord_any x.b n w5 hx.b (hT.below h5)
  have HV : Hid (okCl n x = ((decide (x.k ≤ 3) && decide (x.c ≤ 2)) && (decide (x.k = 0) || (fitsW n x.a && fitsW n x.b)))) := rfl
  generalize okCl n x = ov at *
  generalize fitsW n x.a = ba at *
  generalize fitsW n x.b = bb at *
  clear hx hT hal
  by_cases h1 : 3 < x.k
  · go_enter Tryz.func67, Tryz.ntmps67
    go_wp2
    go_ret
    exact ⟨by rw [HV.out, decide_eq_false (show ¬ x.k ≤ 3 by omega)]; rfl, HA.out⟩
  by_cases h2 : 2 < x.c
  · go_enter Tryz.func67, Tryz.ntmps67
    go_wp2
    go_ret
    exact ⟨by rw [HV.out, decide_eq_false (show ¬ x.c ≤ 2 by omega), Bool.and_false]; rfl, HA.out⟩
  have HV2 : Hid (ov = (decide (x.k = 0) || (ba && bb))) := by
    show _ = _
    rw [HV.out, decide_eq_true (show x.k ≤ 3 by omega), decide_eq_true (show x.c ≤ 2 by omega)]; rfl
  cases h0 : (x.k == 0)
  · have HV3 : Hid (ov = (ba && bb)) := by show _ = _; rw [HV2.out, decide_eq_false (show ¬ x.k = 0 by simpa using h0)]; rfl
    cases ba
    · go_enter Tryz.func67, Tryz.ntmps67
      go_wp2_with fail
      refine (HFa.out _ HA.out).mono ?_
      rintro e w1 ⟨rfl, rfl⟩
      go_wp2
      go_ret
      exact ⟨by rw [HV3.out]; rfl, HA.out⟩
    · go_enter Tryz.func67, Tryz.ntmps67
      go_wp2_with fail
      refine (HFa.out _ HA.out).mono ?_
      rintro e w1 ⟨rfl, rfl⟩
      go_wp2_with fail
      refine (HFb.out _ HA.out).mono ?_
      rintro e w1 ⟨rfl, rfl⟩
      go_wp2
      go_ret
      exact ⟨by rw [HV3.out]; rfl, HA.out⟩
  · have HV3 : Hid (ov = true) := by show _ = _; rw [HV2.out, decide_eq_true (show x.k = 0 by simpa using h0)]; rfl
    go_enter Tryz.func67, Tryz.ntmps67
    go_wp2
    go_ret
    exact ⟨by rw [HV3.out]; rfl, HA.out⟩
/-- Check's answer. -/
def chkV (n : Nat) (l : List Cl) (j : Nat) : Value := match badC n l j with
  | some i => .tuple #[.int .i64 100, .int .i64 i]
  | none => .tuple #[.int .i64 0, .int .i64 0]
set_option maxRecDepth 100000 in
set_option maxHeartbeats 4000000 in
theorem check_any (h : List Cl) (ra : Option Addr) (ca : Nat) (w : World) (hH : HR w ra h) (hl : h.length ≤ 281474976710656) (hT : Tab w) :
    Calls Tryz.prog 24 #[.slice ra h.length ca] w fun e w' => e = .returned (chkV h.length h 0) ∧ Below w.heap.size w w' := by
  have HT : Hid (Tab w) := hT
  obtain ⟨b, o, h1, h2⟩ := hH
  have H1 : Hid (h.length ≠ 0 → ra = some ⟨b, o, none⟩) := fun h => h1.resolve_left h
  have H2 : Hid (∀ (j : Nat) (x : Cl), h[j]? = some x → b < w.heap.size ∧ (w.cell? ⟨b, o + j * 4, none⟩ = some (.int .u8 x.k) ∧ w.cell? ⟨b, o + j * 4 + 1, none⟩ = some (.int .u8 x.c) ∧ w.cell? ⟨b, o + j * 4 + 1 + 1, none⟩ = some (.int .u64 x.a) ∧ w.cell? ⟨b, o + j * 4 + 1 + 1 + 1, none⟩ = some (.int .u64 x.b)) ∧ OkK x) := h2
  clear hT h1 h2
  go_enter Tryz.func24, Tryz.ntmps24
  go_wp2
  go_loopw [8, 4, 5] (fun i _ _ wr => ∃ j : Nat, i = .int .i64 j ∧ j ≤ h.length ∧ Hid (badC h.length h 0 = badC h.length (h.drop j) j) ∧ Hid (Below w.heap.size w wr)) (fun i _ _ _ => h.length - (intOf i).toNat)
  case atStart => exact ⟨0, rfl, Nat.zero_le _, by show _ = _; simp, Below.refl _ _⟩
  case round =>
    obtain ⟨j, rfl, hj, HN, HB⟩ := hrel
    by_cases hlt : j < h.length
    · have i1 : (j : Int) < (h.length : Int) := by omega
      have hra := H1.out (by omega)
      subst hra
      obtain ⟨x, hx⟩ : ∃ x, h[j]? = some x := ⟨_, List.getElem?_eq_getElem hlt⟩
      obtain ⟨g, ⟨a0, a1, a2, a3⟩, k⟩ := H2.out j x hx
      have e := fun q => HB.out.cell (p := ⟨b, q, none⟩) g
      have c0 := (e _).trans a0
      have c1 := (e _).trans a1
      have c2 := (e _).trans a2
      have c3 := (e _).trans a3
      have l0 : b < wr.heap.size := Nat.lt_of_lt_of_le g HB.out.size
      have hd : h.drop j = x :: h.drop (j + 1) := by rw [List.drop_eq_getElem_cons hlt, ← (List.getElem?_eq_some_iff.1 hx).2]
      have hal : Below w.heap.size w (wr.alloc (KO x)) := HB.out.trans (((Below.refl _ wr).alloc (Nat.le_refl _) _).mono HB.out.size)
      have HC : Hid (Calls Tryz.prog 67 #[.agg #[.int .u8 x.k, .int .u8 x.c, .int .u64 x.a, .int .u64 x.b], .int .i64 h.length] (wr.alloc (KO x)) fun e w' => e = .returned (.bool (okCl h.length x)) ∧ Below (wr.alloc (KO x)).heap.size (wr.alloc (KO x)) w') := isCell_any x h.length _ k (HT.out.below hal)
      have HA : Hid (Below w.heap.size w (wr.alloc (KO x))) := hal
      have HD : Hid (badC h.length h 0 = if okCl h.length x then badC h.length (h.drop (j + 1)) (j + 1) else some j) := by show _ = _; rw [HN.out, hd]; rfl
      clear hd hal k e a0 a1 a2 a3 hx g
      generalize okCl h.length x = ob at *
      go_wp2_with fail
      refine Calls.mono HC.out ?_
      rintro e w1 ⟨rfl, hb1⟩
      have HB1 : Hid (Below w.heap.size w w1) := HA.out.trans (hb1.mono HA.out.size)
      clear hb1 HC
      cases ob
      · go_wp2
        go_ret2
        exact ⟨by unfold chkV; rw [HD.out]; rfl, HB1.out⟩
      · go_wp2
        go_roundw
        case rel => exact ⟨j + 1, by go_num, by omega, by show _ = _; rw [HD.out]; rfl, HB1⟩
        case measure => simp [intOf]; omega
    · have i1 : ¬ (j : Int) < (h.length : Int) := by omega
      have HD : Hid (badC h.length h 0 = none) := by show _ = _; rw [HN.out, List.drop_of_length_le (by omega)]; rfl
      go_wp2
      go_ret2
      exact ⟨by unfold chkV; rw [HD.out]; rfl, HB.out⟩
set_option maxRecDepth 100000 in
set_option maxHeartbeats 4000000 in
theorem isHeap_any (h : List Cl) (l : List Int) (ra rb : Option Addr) (ca cb : Nat) (w : World) (hH : HR w ra h) (hR : WR w rb l) (hl : h.length ≤ 281474976710656) (hl2 : l.length ≤ 281474976710656) (hT : Tab w) :
    Calls Tryz.prog 53 #[.slice ra h.length ca, .slice rb l.length cb] w fun e w' => e = .returned (.bool (heapB h l)) ∧ Below w.heap.size w w' := by
  have HT : Hid (Tab w) := hT
  have HC : Hid (Calls Tryz.prog 24 #[.slice ra h.length ca] w fun e w' => e = .returned (chkV h.length h 0) ∧ Below w.heap.size w w') := check_any h ra ca w hH hl hT
  obtain ⟨b, o, h1, h2⟩ := hR
  have H1 : Hid (l.length ≠ 0 → rb = some ⟨b, o, none⟩) := fun h => h1.resolve_left h
  have H2 : Hid (∀ (j : Nat) (x : Int), l[j]? = some x → b < w.heap.size ∧ w.cell? ⟨b, o + j, none⟩ = some (.int .u64 x) ∧ Rng x) := h2
  have HV : Hid (heapB h l = ((badC h.length h 0).isNone && l.all (fitsW h.length))) := rfl
  clear hT h1 h2 hH
  go_enter Tryz.func53, Tryz.ntmps53
  go_wp2_with fail
  refine Calls.mono HC.out ?_
  rintro e w1 ⟨rfl, hb1⟩
  have HB1 : Hid (Below w.heap.size w w1) := hb1
  clear hb1 HC
  unfold chkV
  generalize badC h.length h 0 = bc at *
  cases bc with
  | some i =>
    go_wp2
    go_ret
    exact ⟨by rw [HV.out]; rfl, HB1.out⟩
  | none =>
    have HV2 : Hid (heapB h l = l.all (fitsW h.length)) := by show _ = _; rw [HV.out]; rfl
    go_wp2
    go_loopw [18, 8] (fun i _ wr => ∃ j : Nat, i = .int .i64 j ∧ j ≤ l.length ∧ Hid (heapB h l = (l.drop j).all (fitsW h.length)) ∧ wr = w1) (fun i _ _ => l.length - (intOf i).toNat)
    case atStart => exact ⟨0, rfl, Nat.zero_le _, by show _ = _; rw [HV2.out]; simp, rfl⟩
    case round =>
      obtain ⟨j, rfl, hj, HN, hwr⟩ := hrel
      subst hwr
      by_cases hlt : j < l.length
      · have i1 : (j : Int) < (l.length : Int) := by omega
        have hra := H1.out (by omega)
        subst hra
        obtain ⟨x, hx⟩ : ∃ x, l[j]? = some x := ⟨_, List.getElem?_eq_getElem hlt⟩
        obtain ⟨g, a0, k⟩ := H2.out j x hx
        have c0 := (HB1.out.cell (p := ⟨b, o + j, none⟩) g).trans a0
        have l0 : b < wr.heap.size := Nat.lt_of_lt_of_le g HB1.out.size
        have hd : l.drop j = x :: l.drop (j + 1) := by rw [List.drop_eq_getElem_cons hlt, ← (List.getElem?_eq_some_iff.1 hx).2]
        have HC : Hid (Calls Tryz.prog 72 #[.int .u64 x, .int .i64 h.length] wr fun e w' => e = .returned (.bool (fitsW h.length x)) ∧ w' = wr) := isWord_any x h.length _ k (HT.out.below HB1.out)
        have HD : Hid (heapB h l = (fitsW h.length x && (l.drop (j + 1)).all (fitsW h.length))) := by show _ = _; rw [HN.out, hd]; rfl
        clear hd k a0 hx g
        generalize fitsW h.length x = ob at *
        go_wp2_with fail
        refine Calls.mono HC.out ?_
        rintro e w3 ⟨rfl, hw3⟩
        rw [hw3]
        clear hw3 HC
        cases ob
        · go_wp2
          go_ret
          exact ⟨by rw [HD.out]; rfl, HB1.out⟩
        · go_wp2
          go_roundw
          case rel => exact ⟨j + 1, by go_num, by omega, by show _ = _; rw [HD.out]; rfl, by first | rfl | trivial⟩
          case measure => simp [intOf]; omega
      · have i1 : ¬ (j : Int) < (l.length : Int) := by omega
        have HD : Hid (heapB h l = true) := by show _ = _; rw [HN.out, List.drop_of_length_le (by omega)]; rfl
        go_wp2
        go_ret
        exact ⟨by rw [HD.out]; rfl, HB1.out⟩
end Go.Proofs.YtdcmkifljcdmmaaGreatDoor
