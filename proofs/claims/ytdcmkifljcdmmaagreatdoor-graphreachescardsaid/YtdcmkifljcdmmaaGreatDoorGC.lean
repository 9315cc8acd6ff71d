/- The document's word.; The document's Check and Right: just what the program's are.; The document's Right of a heap and its roots. -/
import Derived.Test.YtdcmkifljcdmmaaGreatDoorGB
/- The document's word. -/
namespace Go.Proofs.YtdcmkifljcdmmaaGreatDoor
open Go.RowKit
set_option maxRecDepth 100000 in
set_option maxHeartbeats 4000000 in
theorem refWord_any (x : Int) (n : Nat) (w : World) (hx : Rng x) :
    Calls Tryz.prog 52 #[.int .u64 x, .int .i64 n] w fun e w' => e = .returned (.bool (fitsW n x)) ∧ w' = w := by
  have HO : Hid _ := refOf_any x w hx
  have HC : Hid (Calls Tryz.prog 69 #[.int .u64 x] w fun e w' => e = .returned (.tuple #[.int .i64 (cellV x), .bool (refB x)]) ∧ w' = w) := by
    have := refCell_any x w hx
    rw [cellN_is, isRef_is] at this
    exact this
  have HF : Hid _ := fits_is n x
  go_enter Tryz.func52, Tryz.ntmps52
  go_wp2_with fail
  refine Calls.mono HO.out ?_
  rintro e w2 ⟨rfl, rfl⟩
  clear HO
  go_wp2_with fail
  refine Calls.mono HC.out ?_
  rintro e w3 ⟨rfl, rfl⟩
  clear HC
  cases h1 : wd x
  · rw [h1] at HF
    clear h1
    go_wp2
    go_ret
    exact ⟨by rw [HF.out]; rfl, rfl⟩
  · rw [h1] at HF
    clear h1
    cases h2 : refB x
    · rw [h2] at HF
      clear h2
      go_wp2
      go_ret
      exact ⟨by rw [HF.out]; rfl, rfl⟩
    · rw [h2] at HF
      clear h2
      go_wp2
      go_ret
      exact ⟨by rw [HF.out]; rfl, rfl⟩
theorem all_take_more {l : List Cl} {P : Cl → Bool} {k : Nat} {x : Cl} (h : ∀ (j : Nat) y, j < k → l[j]? = some y → P y = true) (hx : l[k]? = some x) (hp : P x = true) : ∀ (j : Nat) y, j < k + 1 → l[j]? = some y → P y = true := fun j y hj hy => by
  by_cases e : j = k
  · subst e; rw [hx] at hy; cases hy; exact hp
  · exact h j y (by omega) hy
theorem all_end {l : List Cl} {P : Cl → Bool} (h : ∀ (j : Nat) y, j < l.length → l[j]? = some y → P y = true) : l.all P = true := List.all_eq_true.2 fun x hx => by
  obtain ⟨j, hj⟩ := List.getElem?_of_mem hx
  exact h j x (List.getElem?_eq_some_iff.1 hj).1 hj
theorem all_bad {l : List Cl} {P : Cl → Bool} {x : Cl} {k : Nat} (hx : l[k]? = some x) (hp : P x = false) : l.all P = false := by
  cases h : l.all P with
  | false => rfl
  | true => rw [List.all_eq_true.1 h x (List.mem_of_getElem? hx)] at hp; cases hp
end Go.Proofs.YtdcmkifljcdmmaaGreatDoor

/- The document's Check and Right: just what the program's are. -/
namespace Go.Proofs.YtdcmkifljcdmmaaGreatDoor
open Go.RowKit

/-- The first that is not so. -/
theorem badC_at {n : Nat} : ∀ (l : List Cl) (j k : Nat) (x : Cl), (∀ (i : Nat) y, i < k → l[i]? = some y → okCl n y = true) → l[k]? = some x → okCl n x = false → badC n l j = some (j + k)
  | [], _, _, _, _, h, _ => by simp at h
  | y :: l, j, 0, x, _, h, hx => by
    have e : y = x := by simpa using h
    subst e
    unfold badC
    rw [hx]; rfl
  | y :: l, j, k + 1, x, h0, h, hx => by
    unfold badC
    rw [h0 0 y (by omega) rfl, if_pos rfl, badC_at l (j + 1) k x (fun i z hi hz => h0 (i + 1) z (by omega) hz) h hx]
    congr 1; omega
theorem badC_all {n : Nat} : ∀ (l : List Cl) (j : Nat), (∀ x ∈ l, okCl n x = true) → badC n l j = none
  | [], _, _ => rfl
  | y :: l, j, h => by
    unfold badC
    rw [h y (List.mem_cons_self ..), if_pos rfl, badC_all l (j + 1) (fun x hx => h x (List.mem_cons_of_mem _ hx))]
theorem chk_bad {h : List Cl} {k : Nat} {x : Cl} (h0 : ∀ (i : Nat) y, i < k → h[i]? = some y → okCl h.length y = true) (hx : h[k]? = some x) (hb : okCl h.length x = false) : chkV h.length h 0 = .tuple #[.int .i64 100, .int .i64 k] := by
  unfold chkV
  rw [badC_at h 0 k x h0 hx hb, Nat.zero_add]
theorem chk_good {h : List Cl} (h0 : ∀ (j : Nat) y, j < h.length → h[j]? = some y → okCl h.length y = true) : chkV h.length h 0 = .tuple #[.int .i64 0, .int .i64 0] := by
  unfold chkV
  rw [badC_all h 0 (fun x hx => by
    obtain ⟨j, hj⟩ := List.getElem?_of_mem hx
    exact h0 j x (List.getElem?_eq_some_iff.1 hj).1 hj)]
set_option maxRecDepth 100000 in
set_option maxHeartbeats 8000000 in
theorem refCheck_any (h : List Cl) (ra : Option Addr) (ca : Nat) (w : World) (hl : h.length ≤ 281474976710656) (hH : HR w ra h) :
    Calls Tryz.prog 26 #[.slice ra h.length ca] w fun e w' => e = .returned (chkV h.length h 0) ∧ Below w.heap.size w w' := by
  have HH : Hid (HR w ra h) := hH
  clear hH
  go_enter Tryz.func26, Tryz.ntmps26
  go_wp2_with fail
  go_loopw [4, 5, 6, 7] (fun i _ _ _ wr => ∃ k : Nat, i = .int .i64 k ∧ k ≤ h.length ∧ Hid (Below w.heap.size w wr) ∧ Hid (∀ (j : Nat) y, j < k → h[j]? = some y → okCl h.length y = true)) (fun i _ _ _ _ => h.length - (intOf i).toNat)
  case atStart => exact ⟨0, rfl, Nat.zero_le _, Below.refl _ _, fun _ _ h => absurd h (Nat.not_lt_zero _)⟩
  case round =>
    obtain ⟨k, rfl, hk, HB, HA⟩ := hrel
    by_cases hkl : k < h.length
    · have k1 : (k : Int) < (h.length : Int) := by omega
      obtain ⟨x, hx⟩ : ∃ x, h[k]? = some x := ⟨_, List.getElem?_eq_getElem hkl⟩
      obtain ⟨bb, o, hor, hcs⟩ := HH.out.below HB.out
      have hra : ra = some ⟨bb, o, none⟩ := hor.resolve_left (by omega)
      subst hra
      obtain ⟨g1, ⟨y0, y1, y2, y3⟩, hok⟩ := hcs k x hx
      have HX : Hid (h[k]? = some x) := hx
      have HB2 : Hid (Below w.heap.size w (wr.alloc (.cells #[.int .u8 x.k, .int .u8 x.c, .int .u64 x.a, .int .u64 x.b] 55))) := HB.out.alloc HB.out.size _
      have nw : (wr.alloc (.cells #[.int .u8 x.k, .int .u8 x.c, .int .u64 x.a, .int .u64 x.b] 55)).heap[wr.heap.size]? = some (.cells #[.int .u8 x.k, .int .u8 x.c, .int .u64 x.a, .int .u64 x.b] 55 (0, 0)) := heap_alloc_new _ _
      have HOk : Hid (OkK x) := hok
      clear hcs hor hx hok
      go_upto_region 5 with fail
      clear y0 y1 y2 y3 g1
      generalize wr.alloc (.cells #[.int .u8 x.k, .int .u8 x.c, .int .u64 x.a, .int .u64 x.b] 55) = W2 at nw HB2 ⊢
      generalize wr.heap.size = gx at nw ⊢
      have e0 := heap_cell (j := 0) nw rfl
      have e1 := heap_cell (j := 1) nw rfl
      have e2 := heap_cell (j := 2) nw rfl
      have e3 := heap_cell (j := 3) nw rfl
      have lx := heap_lt nw
      clear nw
      by_cases hk3 : x.k ≤ 3
      · by_cases hc2 : x.c ≤ 2
        · have z1 : ¬ x.k > 3 := by omega
          have z2 : ¬ x.c > 2 := by omega
          have HWa : Hid _ := refWord_any x.a h.length W2 HOk.out.a
          have HWb : Hid _ := refWord_any x.b h.length W2 HOk.out.b
          have HQ : Hid (okCl h.length x = (decide (x.k = 0) || (fitsW h.length x.a && fitsW h.length x.b))) := by show _ = _; simp [okCl, hk3, hc2]
          clear hk3 hc2
          obtain ⟨fa, hfa⟩ : ∃ fa, fitsW h.length x.a = fa := ⟨_, rfl⟩
          obtain ⟨fb, hfb⟩ : ∃ fb, fitsW h.length x.b = fb := ⟨_, rfl⟩
          rw [hfa] at HWa HQ
          rw [hfb] at HWb HQ
          clear hfa hfb
          go_wp2_with fail
          refine Calls.mono HWa.out ?_
          rintro e w5 ⟨rfl, rfl⟩
          clear HWa
          go_wp2_with fail
          refine Calls.mono HWb.out ?_
          rintro e w6 ⟨rfl, rfl⟩
          clear HWb
          have good : okCl h.length x = true → Hid (∀ (j : Nat) y, j < k + 1 → h[j]? = some y → okCl h.length y = true) := fun hp => all_take_more HA.out HX.out hp
          have bad : okCl h.length x = false → Hid (chkV h.length h 0 = .tuple #[.int .i64 100, .int .i64 k]) := fun hp => chk_bad HA.out HX.out hp
          have HGo : Hid _ := good
          have HBa : Hid _ := bad
          clear good bad
          by_cases hk0 : x.k = 0
          · have z3 : (x.k != 0) = false := by simp [hk0]
            have HA2 := HGo.out (by rw [HQ.out]; simp [hk0])
            clear hk0
            go_wp2
            go_roundw
            case rel => exact ⟨k + 1, by go_num, by omega, HB2, HA2⟩
            case measure => simp [intOf]; omega
          · have z3 : (x.k != 0) = true := by simp [hk0]
            have HQ2 : Hid (okCl h.length x = (fa && fb)) := by show _ = _; rw [HQ.out]; simp [hk0]
            clear hk0
            cases fa
            · have HN := HBa.out (by rw [HQ2.out]; rfl)
              go_wp2
              go_ret2
              exact ⟨by rw [HN.out]; rfl, HB2.out⟩
            · cases fb
              · have HN := HBa.out (by rw [HQ2.out]; rfl)
                go_wp2
                go_ret2
                exact ⟨by rw [HN.out]; rfl, HB2.out⟩
              · have HA2 := HGo.out (by rw [HQ2.out]; rfl)
                go_wp2
                go_roundw
                case rel => exact ⟨k + 1, by go_num, by omega, HB2, HA2⟩
                case measure => simp [intOf]; omega
        · have z1 : ¬ x.k > 3 := by omega
          have z2 : x.c > 2 := by omega
          have HN : Hid (chkV h.length h 0 = .tuple #[.int .i64 100, .int .i64 k]) := chk_bad HA.out HX.out (by simp [okCl, hc2])
          clear hk3 hc2
          go_wp2
          go_ret2
          exact ⟨by rw [HN.out]; rfl, HB2.out⟩
      · have z1 : x.k > 3 := by omega
        have HN : Hid (chkV h.length h 0 = .tuple #[.int .i64 100, .int .i64 k]) := chk_bad HA.out HX.out (by simp [okCl, hk3])
        clear hk3
        go_wp2
        go_ret2
        exact ⟨by rw [HN.out]; rfl, HB2.out⟩
    · have k1 : ¬ (k : Int) < (h.length : Int) := by omega
      have HN : Hid (chkV h.length h 0 = .tuple #[.int .i64 0, .int .i64 0]) := chk_good (fun j y hj hy => HA.out j y (by omega) hy)
      go_wp2
      go_ret2
      exact ⟨by rw [HN.out]; rfl, HB.out⟩
end Go.Proofs.YtdcmkifljcdmmaaGreatDoor

/- The document's Right of a heap and its roots. -/
namespace Go.Proofs.YtdcmkifljcdmmaaGreatDoor
open Go.RowKit


theorem alli_more {l : List Int} {P : Int → Bool} {k : Nat} {x : Int} (h : ∀ (j : Nat) y, j < k → l[j]? = some y → P y = true) (hx : l[k]? = some x) (hp : P x = true) : ∀ (j : Nat) y, j < k + 1 → l[j]? = some y → P y = true := fun j y hj hy => by
  by_cases e : j = k
  · subst e; rw [hx] at hy; cases hy; exact hp
  · exact h j y (by omega) hy
theorem alli_end {l : List Int} {P : Int → Bool} (h : ∀ (j : Nat) y, j < l.length → l[j]? = some y → P y = true) : l.all P = true := List.all_eq_true.2 fun x hx => by
  obtain ⟨j, hj⟩ := List.getElem?_of_mem hx
  exact h j x (List.getElem?_eq_some_iff.1 hj).1 hj
theorem alli_bad {l : List Int} {P : Int → Bool} {x : Int} {k : Nat} (hx : l[k]? = some x) (hp : P x = false) : l.all P = false := by
  cases h : l.all P with
  | false => rfl
  | true => rw [List.all_eq_true.1 h x (List.mem_of_getElem? hx)] at hp; cases hp
theorem chk_two (h : List Cl) : ∃ (c i : Int), chkV h.length h 0 = .tuple #[.int .i64 c, .int .i64 i] ∧ (badC h.length h 0).isNone = (c == 0) := by
  unfold chkV
  cases badC h.length h 0 with
  | none => exact ⟨0, 0, rfl, rfl⟩
  | some i => exact ⟨100, i, rfl, rfl⟩
set_option maxRecDepth 100000 in
set_option maxHeartbeats 8000000 in
theorem refRight_any (h : List Cl) (roots : List Int) (ra rb : Option Addr) (ca cb : Nat) (w : World) (hl : h.length ≤ 281474976710656) (hr : roots.length ≤ 281474976710656) (hH : HR w ra h) (hR : WR w rb roots) :
    Calls Tryz.prog 14 #[.slice ra h.length ca, .slice rb roots.length cb] w fun e w' => e = .returned (.bool (heapB h roots)) ∧ Below w.heap.size w w' := by
  have HR' : Hid (WR w rb roots) := hR
  have HC : Hid _ := refCheck_any h ra ca w hl hH
  clear hH hR
  go_enter Tryz.func14, Tryz.ntmps14
  go_wp2_with fail
  refine Calls.mono HC.out ?_
  rintro e w2 ⟨he, hb2⟩
  have HB2 : Hid (Below w.heap.size w w2) := hb2
  obtain ⟨c, i, hv, hcc⟩ := chk_two h
  rw [hv] at he
  subst he
  have HCc : Hid ((badC h.length h 0).isNone = (c == 0)) := hcc
  clear HC hb2 hv hcc
  go_wp2_with fail
  go_loopw [7, 8] (fun i _ wr => ∃ k : Nat, i = .int .i64 k ∧ k ≤ roots.length ∧ wr = w2 ∧ Hid (∀ (j : Nat) y, j < k → roots[j]? = some y → fitsW h.length y = true)) (fun i _ _ => roots.length - (intOf i).toNat)
  case atStart => exact ⟨0, rfl, Nat.zero_le _, rfl, fun _ _ h => absurd h (Nat.not_lt_zero _)⟩
  case round =>
    obtain ⟨k, rfl, hk, rfl, HA⟩ := hrel
    by_cases hkl : k < roots.length
    · have k1 : (k : Int) < (roots.length : Int) := by omega
      obtain ⟨x, hx⟩ : ∃ x, roots[k]? = some x := ⟨_, List.getElem?_eq_getElem hkl⟩
      obtain ⟨bb, o, hor, hcs⟩ := HR'.out.below HB2.out
      have hra : rb = some ⟨bb, o, none⟩ := hor.resolve_left (by omega)
      subst hra
      obtain ⟨g1, y0, hrx⟩ := hcs k x hx
      have HX : Hid (roots[k]? = some x) := hx
      have HW : Hid _ := refWord_any x h.length wr hrx
      clear hcs hor hx hrx
      cases hf : fitsW h.length x
      · have HN : Hid (heapB h roots = false) := by
          show _ = _
          unfold heapB
          rw [alli_bad HX.out hf, Bool.and_false]
        rw [hf] at HW
        clear hf
        go_wp2_with fail
        refine Calls.mono HW.out ?_
        rintro e w5 ⟨rfl, rfl⟩
        clear HW
        go_wp2
        go_ret
        exact ⟨by rw [HN.out]; rfl, HB2.out⟩
      · have HA2 : Hid (∀ (j : Nat) y, j < k + 1 → roots[j]? = some y → fitsW h.length y = true) := alli_more HA.out HX.out hf
        rw [hf] at HW
        clear hf
        go_wp2_with fail
        refine Calls.mono HW.out ?_
        rintro e w5 ⟨rfl, rfl⟩
        clear HW
        go_wp2
        go_roundw
        case rel => exact ⟨k + 1, by go_num, by omega, trivial, HA2⟩
        case measure => simp [intOf]; omega
    · have k1 : ¬ (k : Int) < (roots.length : Int) := by omega
      have HN : Hid (heapB h roots = (c == 0)) := by
        show _ = _
        unfold heapB
        rw [alli_end (fun j y hj hy => HA.out j y (by omega) hy), Bool.and_true]
        exact HCc.out
      go_wp2
      go_ret
      exact ⟨by rw [HN.out]; rfl, HB2.out⟩
end Go.Proofs.YtdcmkifljcdmmaaGreatDoor
