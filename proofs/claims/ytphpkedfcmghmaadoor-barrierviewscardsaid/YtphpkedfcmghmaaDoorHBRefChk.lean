/- The document's word, white, Check, Right (of a heap). -/
import Derived.Test.YtphpkedfcmghmaaDoorGE
import Derived.Test.YtphpkedfcmghmaaDoorGC
namespace Go.Proofs.YtphpkedfcmghmaaDoor
open Go.RowKit

theorem fits_is2 (n : Nat) (x : Int) : fitsW n x = (wd x && (!refB x || decide (cellV x < (n : Int)))) := by
  unfold fitsW
  cases hr : refB x
  · rw [refs_none hr]; simp
  · have h8 : ofT x = 8 := by simpa [refB] using hr
    have hb := ofN_ref hr
    unfold refN cellV
    rw [if_pos h8, if_pos h8]
    dsimp only
    have : decide ((ofN x).toNat < n) = decide (ofN x < (n : Int)) := by
      apply decide_eq_decide.2
      omega
    rw [this]
    simp
set_option maxRecDepth 100000 in
set_option maxHeartbeats 4000000 in
theorem refWord_any (x : Int) (n : Nat) (w : World) (hx : Rng x) :
    Calls Tryd.prog 102 #[.int .u64 x, .int .i64 n] w fun e w' => e = .returned (.bool (fitsW n x)) ∧ w' = w := by
  have HO : Hid _ := refOf_any x w hx
  have HC : Hid (Calls Tryd.prog 72 #[.int .u64 x] w fun e w' => e = .returned (.tuple #[.int .i64 (cellV x), .bool (refB x)]) ∧ w' = w) := by
    have := refCell_any x w hx
    rw [cellN_is, isRef_is] at this
    exact this
  have HF : Hid _ := fits_is2 n x
  go_enter Tryd.func102, Tryd.ntmps102
  go_wp2_with fail
  refine Calls.mono HO.out ?_
  rintro e w2 ⟨rfl, rfl⟩
  clear HO
  go_wp2_with fail
  refine Calls.mono HC.out ?_
  rintro e w3 ⟨rfl, rfl⟩
  clear HC
  cases h1 : wd x
  · rw [h1] at HF
    clear h1
    go_wp2
    go_ret
    exact ⟨by rw [HF.out]; rfl, rfl⟩
  · rw [h1] at HF
    clear h1
    cases h2 : refB x
    · rw [h2] at HF
      clear h2
      go_wp2
      go_ret
      exact ⟨by rw [HF.out]; rfl, rfl⟩
    · rw [h2] at HF
      clear h2
      go_wp2
      go_ret
      exact ⟨by rw [HF.out]; rfl, rfl⟩
set_option maxRecDepth 100000 in
set_option maxHeartbeats 4000000 in
theorem refWhite_any (x : Cl) (w : World) : Calls Tryd.prog 73 #[cV x] w fun e w' => e = .returned (.bool (whiteB x)) ∧ Below w.heap.size w w' := by
  have a1 := (Below.refl _ w).alloc (Nat.le_refl w.heap.size) (.cells #[.int .u8 x.k, .int .u8 x.c, .int .u64 x.a, .int .u64 x.b] 59)
  have n1 := heap_alloc_new w (.cells #[.int .u8 x.k, .int .u8 x.c, .int .u64 x.a, .int .u64 x.b] 59)
  obtain ⟨w1, hw1⟩ : ∃ w1, w1 = w.alloc (.cells #[.int .u8 x.k, .int .u8 x.c, .int .u64 x.a, .int .u64 x.b] 59) := ⟨_, rfl⟩
  rw [← hw1] at a1 n1
  have c0 := heap_cell (j := 0) n1 rfl
  have c1 := heap_cell (j := 1) n1 rfl
  have l1 := heap_lt n1
  have HB1 : Hid (Below w.heap.size w w1) := a1
  clear a1 n1
  go_enter Tryd.func73, Tryd.ntmps73
  go_upto_region 1 with fail
  rw [← hw1]
  clear hw1
  by_cases hk : x.k = 0
  · have z1 : (x.k != 0) = false := by simp [hk]
    have HE : Hid (whiteB x = false) := by show _ = _; simp [whiteB, usedB, hk]
    clear hk
    go_wp2
    go_ret
    exact ⟨by rw [HE.out]; rfl, HB1.out⟩
  · have z1 : (x.k != 0) = true := by simp [hk]
    have HE : Hid (whiteB x = (x.c == 0)) := by show _ = _; simp [whiteB, usedB, hk]; rfl
    clear hk
    go_wp2
    go_ret
    exact ⟨by rw [HE.out]; rfl, HB1.out⟩
theorem all_take_more {l : List Cl} {P : Cl → Bool} {k : Nat} {x : Cl} (h : ∀ (j : Nat) y, j < k → l[j]? = some y → P y = true) (hx : l[k]? = some x) (hp : P x = true) : ∀ (j : Nat) y, j < k + 1 → l[j]? = some y → P y = true := fun j y hj hy => by
  by_cases e : j = k
  · subst e; rw [hx] at hy; cases hy; exact hp
  · exact h j y (by omega) hy
theorem all_end {l : List Cl} {P : Cl → Bool} (h : ∀ (j : Nat) y, j < l.length → l[j]? = some y → P y = true) : l.all P = true := List.all_eq_true.2 fun x hx => by
  obtain ⟨j, hj⟩ := List.getElem?_of_mem hx
  exact h j x (List.getElem?_eq_some_iff.1 hj).1 hj
theorem all_bad {l : List Cl} {P : Cl → Bool} {x : Cl} {k : Nat} (hx : l[k]? = some x) (hp : P x = false) : l.all P = false := by
  cases h : l.all P with
  | false => rfl
  | true => rw [List.all_eq_true.1 h x (List.mem_of_getElem? hx)] at hp; cases hp
def ChkR (h : List Cl) (e : Ending) : Prop := (h.all (okCl h.length) = true ∧ e = .returned (.tuple #[.int .i64 0, .int .i64 0])) ∨ (h.all (okCl h.length) = false ∧ ∃ i : Int, e = .returned (.tuple #[.int .i64 100, .int .i64 i]))
set_option maxRecDepth 100000 in
set_option maxHeartbeats 8000000 in
theorem refCheck_any (h : List Cl) (ra : Option Addr) (ca : Nat) (w : World) (hl : h.length ≤ 281474976710656) (hH : HR w ra h) :
    Calls Tryd.prog 101 #[.slice ra h.length ca] w fun e w' => ChkR h e ∧ Below w.heap.size w w' := by
  have HH : Hid (HR w ra h) := hH
  clear hH
  go_enter Tryd.func101, Tryd.ntmps101
  go_wp2_with fail
  go_loopw [4, 5, 6, 7] (fun i _ _ _ wr => ∃ k : Nat, i = .int .i64 k ∧ k ≤ h.length ∧ Hid (Below w.heap.size w wr) ∧ Hid (∀ (j : Nat) y, j < k → h[j]? = some y → okCl h.length y = true)) (fun i _ _ _ _ => h.length - (intOf i).toNat)
  case atStart => exact ⟨0, rfl, Nat.zero_le _, Below.refl _ _, fun _ _ h => absurd h (Nat.not_lt_zero _)⟩
  case round =>
    obtain ⟨k, rfl, hk, HB, HA⟩ := hrel
    by_cases hkl : k < h.length
    · have k1 : (k : Int) < (h.length : Int) := by omega
      obtain ⟨x, hx⟩ : ∃ x, h[k]? = some x := ⟨_, List.getElem?_eq_getElem hkl⟩
      obtain ⟨bb, o, hor, hcs⟩ := HH.out.below HB.out
      have hra : ra = some ⟨bb, o, none⟩ := hor.resolve_left (by omega)
      subst hra
      obtain ⟨g1, ⟨y0, y1, y2, y3⟩, hok⟩ := hcs k x hx
      have HX : Hid (h[k]? = some x) := hx
      have HB2 : Hid (Below w.heap.size w (wr.alloc (.cells #[.int .u8 x.k, .int .u8 x.c, .int .u64 x.a, .int .u64 x.b] 59))) := HB.out.alloc HB.out.size _
      have nw : (wr.alloc (.cells #[.int .u8 x.k, .int .u8 x.c, .int .u64 x.a, .int .u64 x.b] 59)).heap[wr.heap.size]? = some (.cells #[.int .u8 x.k, .int .u8 x.c, .int .u64 x.a, .int .u64 x.b] 59 (0, 0)) := World.alloc_heap_new _ _
      have HOk : Hid (OkK x) := hok
      clear hcs hor hx hok
      go_upto_region 5 with fail
      clear y0 y1 y2 y3 g1
      generalize wr.alloc (.cells #[.int .u8 x.k, .int .u8 x.c, .int .u64 x.a, .int .u64 x.b] 59) = W2 at nw HB2 ⊢
      generalize wr.heap.size = gx at nw ⊢
      have e0 := heap_cell (j := 0) nw rfl
      have e1 := heap_cell (j := 1) nw rfl
      have e2 := heap_cell (j := 2) nw rfl
      have e3 := heap_cell (j := 3) nw rfl
      have lx := heap_lt nw
      clear nw
      by_cases hk3 : x.k ≤ 3
      · by_cases hc2 : x.c ≤ 2
        · have z1 : ¬ x.k > 3 := by omega
          have z2 : ¬ x.c > 2 := by omega
          have HWa : Hid _ := refWord_any x.a h.length W2 HOk.out.a
          have HWb : Hid _ := refWord_any x.b h.length W2 HOk.out.b
          have HQ : Hid (okCl h.length x = (decide (x.k = 0) || (fitsW h.length x.a && fitsW h.length x.b))) := by show _ = _; simp [okCl, hk3, hc2]
          clear hk3 hc2
          obtain ⟨fa, hfa⟩ : ∃ fa, fitsW h.length x.a = fa := ⟨_, rfl⟩
          obtain ⟨fb, hfb⟩ : ∃ fb, fitsW h.length x.b = fb := ⟨_, rfl⟩
          rw [hfa] at HWa HQ
          rw [hfb] at HWb HQ
          clear hfa hfb
          go_wp2_with fail
          refine Calls.mono HWa.out ?_
          rintro e w5 ⟨rfl, rfl⟩
          clear HWa
          go_wp2_with fail
          refine Calls.mono HWb.out ?_
          rintro e w6 ⟨rfl, rfl⟩
          clear HWb
          have good : okCl h.length x = true → Hid (∀ (j : Nat) y, j < k + 1 → h[j]? = some y → okCl h.length y = true) := fun hp => all_take_more HA.out HX.out hp
          have bad : okCl h.length x = false → Hid (h.all (okCl h.length) = false) := fun hp => all_bad HX.out hp
          have HGo : Hid _ := good
          have HBa : Hid _ := bad
          clear good bad
          by_cases hk0 : x.k = 0
          · have z3 : (x.k != 0) = false := by simp [hk0]
            have HA2 := HGo.out (by rw [HQ.out]; simp [hk0])
            clear hk0
            go_wp2
            go_roundw
            case rel => exact ⟨k + 1, by go_num, by omega, HB2, HA2⟩
            case measure => simp [intOf]; omega
          · have z3 : (x.k != 0) = true := by simp [hk0]
            have HQ2 : Hid (okCl h.length x = (fa && fb)) := by show _ = _; rw [HQ.out]; simp [hk0]
            clear hk0
            cases fa
            · have HN := HBa.out (by rw [HQ2.out]; rfl)
              go_wp2
              go_ret2
              exact ⟨.inr ⟨HN.out, _, rfl⟩, HB2.out⟩
            · cases fb
              · have HN := HBa.out (by rw [HQ2.out]; rfl)
                go_wp2
                go_ret2
                exact ⟨.inr ⟨HN.out, _, rfl⟩, HB2.out⟩
              · have HA2 := HGo.out (by rw [HQ2.out]; rfl)
                go_wp2
                go_roundw
                case rel => exact ⟨k + 1, by go_num, by omega, HB2, HA2⟩
                case measure => simp [intOf]; omega
        · have z1 : ¬ x.k > 3 := by omega
          have z2 : x.c > 2 := by omega
          have HN : Hid (h.all (okCl h.length) = false) := all_bad HX.out (by simp [okCl, hc2])
          clear hk3 hc2
          go_wp2
          go_ret2
          exact ⟨.inr ⟨HN.out, _, rfl⟩, HB2.out⟩
      · have z1 : x.k > 3 := by omega
        have HN : Hid (h.all (okCl h.length) = false) := all_bad HX.out (by simp [okCl, hk3])
        clear hk3
        go_wp2
        go_ret2
        exact ⟨.inr ⟨HN.out, _, rfl⟩, HB2.out⟩
    · have k1 : ¬ (k : Int) < (h.length : Int) := by omega
      have HN : Hid (h.all (okCl h.length) = true) := all_end (fun j y hj hy => HA.out j y (by omega) hy)
      go_wp2
      go_ret2
      exact ⟨.inl ⟨HN.out, rfl⟩, HB.out⟩
end Go.Proofs.YtphpkedfcmghmaaDoor
