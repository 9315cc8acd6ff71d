/- A heap laid once more, with nothing in its boxes' second words. -/
import Derived.Test.YtinijcmnojlphaaDoorHSOwn
namespace Go.Proofs.YtinijcmnojlphaaDoor
open Go.RowKit

/-- A row of cells laid once more. -/
def CloneR (h : List Cl) (B : Nat) (e : Ending) (w' : World) : Prop := ∃ rv cv, e = .returned (.slice rv h.length cv) ∧ (h.length = 0 ∨ ∃ g, rv = some ⟨g, 0, none⟩ ∧ B ≤ g ∧ OwnH w' g (cv * 4) h)
set_option maxRecDepth 100000 in
set_option maxHeartbeats 4000000 in
theorem clone_any (h : List Cl) (ra : Option Addr) (ca : Nat) (w : World) (hl : h.length ≤ 1000000) (hH : HR w ra h) :
    Calls Tryd.prog 39 #[.slice ra h.length ca] w fun e w' => CloneR h w.heap.size e w' ∧ Below w.heap.size w w' := by
  cases ra with
  | none =>
    have h0 : h.length = 0 := by
      obtain ⟨b, o, h1, _⟩ := hH
      rcases h1 with h1 | h1
      · exact h1
      · cases h1
    have HZ : Hid (h.length = 0) := h0
    rw [h0]
    clear hH h0
    have qT : ∀ (w : World), (binOp .eql 37 (.slice none 0 ca) (.slice none 0 0)).run Tryd.prog w = .ok (.bool true) w := fun w => Lib.run_eql_slice_nil w 37 _ none 0 ca 0 0 Tryd.underlying37
    go_enter Tryd.func39, Tryd.ntmps39
    go_wp2
    go_ret
    exact ⟨⟨none, 0, by rw [HZ.out]; rfl, .inl HZ.out⟩, Below.refl _ _⟩
  | some ad =>
    have HHh : Hid (HR w (some ad) h) := hH
    obtain ⟨i1, hi1, hy0, hy1, hy2⟩ := info_parts infoCl
    clear hH
    have qT : ∀ (w : World), (binOp .eql 37 (.slice (some ad) h.length ca) (.slice none 0 0)).run Tryd.prog w = .ok (.bool false) w := fun w => Lib.run_eql_slice_nil w 37 _ (some ad) h.length ca 0 0 Tryd.underlying37
    go_enter Tryd.func39, Tryd.ntmps39
    go_wp2_with (at_builtin; refine stop_of ?_)
    unfold Hid
    have al := (Below.refl _ w).alloc (Nat.le_refl w.heap.size) (.cells #[] 36)
    have hw : (w.alloc (.cells #[] 36)).ownsRow w.heap.size 36 4 (.slice (some ⟨w.heap.size, 0, none⟩) 0 0) 0 [] := ⟨by simp, .inr ⟨w.heap.size, 0, #[], rfl, Nat.le_refl _, heap_alloc_new _ _, Nat.le_refl _, by unfold maxLen; omega, rfl, rfl⟩⟩
    have hn : ∀ (j : Nat) (u : Value), (clCells h)[j]? = some u → (w.alloc (.cells #[] 36)).cell? (ad.add j) = some u := fun j u hj => by
      obtain ⟨b, o, h1, h2⟩ := HHh.out
      have hl0 : h.length ≠ 0 := fun e => by
        have := (List.getElem?_eq_some_iff.1 hj).1
        rw [clCells_len] at this; omega
      have e := h1.resolve_left hl0
      cases e
      exact hr_all ((HHh.out.below al).hx) j u hj
    refine wpList_append_own _ rfl _ _ 37 rfl w.heap.size 36 i1 (.agg #[.int .u8 0, .int .u8 0, .int .u64 0, .int .u64 0]) 4 24 Tryd.underlying37 hi1 hy0 hy1 hy2 rfl (by decide) _ 0 [] rfl hw ad h.length ca (clCells h) rfl (clCells_len h) hn (clCells_one h) (by unfold maxLen; omega) (by omega) al.size ?_
    intro v' w' hown hgr _
    rw [Nat.zero_add, List.nil_append] at hown
    have HB : Hid (Below w.heap.size w w') := al.grown hgr al.size (fun k hk => by cases hk; exact Nat.le_refl _)
    obtain ⟨rv, cv, rfl⟩ := own_sl hown
    have HO : Hid (h.length = 0 ∨ ∃ g, rv = some ⟨g, 0, none⟩ ∧ w.heap.size ≤ g ∧ OwnH w' g (cv * 4) h) := by
      rcases hown.2 with ⟨_, h0⟩ | ⟨g, cap, cur, hv, hb, _⟩
      · exact .inl h0
      · cases hv
        exact .inr ⟨g, rfl, hb, own_h hown rfl⟩
    clear hown hgr hn hw al
    go_wp2
    go_ret
    exact ⟨⟨rv, cv, rfl, HO.out⟩, HB.out⟩
/-- One cell's second word turned. -/
theorem OwnH.turnB {w : World} {g N c : Nat} {l : List Cl} {x : Cl} (h : OwnH w g N l) (hx : l[c]? = some x) (v : Int) : OwnH (w.setCell ⟨g, c * 4 + 1 + 1 + 1, none⟩ (.int .u64 v)) g N (l.set c ⟨x.k, x.c, x.a, v⟩) := by
  have hc := (List.getElem?_eq_some_iff.1 hx).1
  refine ⟨h.1.set (fun k u hk hh v' hv' => hh v' ?_) (fun v' hv' => ?_), by rw [List.length_set]; exact h.2⟩
  · rw [clCells_eq] at hv' ⊢
    rw [List.getElem?_set] at hv'
    split at hv'
    · rename_i he
      rw [← he, hx]
      have hm : k % 4 = 0 ∨ k % 4 = 1 ∨ k % 4 = 2 := by omega
      rcases hm with hm | hm | hm <;> rw [hm] at hv' ⊢ <;> exact hv'
    · exact hv'
  · rw [clCells_eq, show (c * 4 + 1 + 1 + 1) / 4 = c by omega, show (c * 4 + 1 + 1 + 1) % 4 = 3 by omega, List.getElem?_set] at hv'
    rw [if_pos rfl, if_pos hc] at hv'
    exact Option.some.inj hv'
/-- The first j cells bare. -/
def bt (j : Nat) (h : List Cl) : List Cl := (h.take j).map bareC ++ h.drop j
theorem bt_len (j : Nat) (h : List Cl) (hj : j ≤ h.length) : (bt j h).length = h.length := by unfold bt; simp; omega
theorem bt_at {j : Nat} {h : List Cl} {x : Cl} (hx : h[j]? = some x) : (bt j h)[j]? = some x ∧ bt (j + 1) h = (bt j h).set j (bareC x) := by
  have hj := (List.getElem?_eq_some_iff.1 hx).1
  have hl : ((h.take j).map bareC).length = j := by simp; omega
  have hd : h.drop j = x :: h.drop (j + 1) := by
    rw [List.drop_eq_getElem_cons hj, (List.getElem?_eq_some_iff.1 hx).2]
  constructor
  · unfold bt
    rw [List.getElem?_append_right (by omega), hl, hd]; simp
  · unfold bt
    rw [List.set_append_right _ _ (by omega), hl, hd, List.take_add_one, hx]
    simp
theorem bt_all (h : List Cl) : bt h.length h = bareM h := by unfold bt bareM; simp
theorem okK_bare {x : Cl} (h : OkK x) : OkK (bareC x) := by
  unfold bareC
  split
  · exact ⟨h.k, h.c, h.a, ⟨(by omega : (0 : Int) ≤ 1), (by omega : (1 : Int) ≤ 18446744073709551615)⟩⟩
  · exact h
theorem set_self {α : Type} {l : List α} {j : Nat} {x : α} (h : l[j]? = some x) : l.set j x = l := by
  refine List.ext_getElem? (fun i => ?_)
  rw [List.getElem?_set]
  split
  · rename_i e
    subst e
    rw [if_pos (List.getElem?_eq_some_iff.1 h).1, h]
  · rfl
def BareR (h : List Cl) (e : Ending) (w' : World) : Prop := ∃ rv cv, e = .returned (.slice rv h.length cv) ∧ HR w' rv (bareM h)
set_option maxRecDepth 100000 in
set_option maxHeartbeats 4000000 in
theorem bare_any (h : List Cl) (ra : Option Addr) (ca : Nat) (w : World) (hl : h.length ≤ 1000000) (hH : HR w ra h) (hT : Tab w) :
    Calls Tryd.prog 20 #[.slice ra h.length ca] w fun e w' => BareR h e w' ∧ Below w.heap.size w w' := by
  have HM : Hid (Calls Tryd.prog 5 #[.int .u8 1, .int .i64 0] w fun e w' => e = .returned (.tuple #[.int .u64 1, .int .i64 0]) ∧ w' = w) := make_any 1 0 w (by omega) (by omega) hT
  have HC : Hid _ := clone_any h ra ca w hl hH
  have HK : Hid (∀ x ∈ h, OkK x) := hr_ok hH
  clear hH hT
  go_enter Tryd.func20, Tryd.ntmps20
  go_wp2_with fail
  refine Calls.mono HM.out ?_
  rintro e w1 ⟨rfl, hw1⟩
  rw [hw1]
  clear hw1 HM
  go_wp2_with fail
  refine Calls.mono HC.out ?_
  rintro e w1 ⟨⟨rv, cv, rfl, hor⟩, hb1⟩
  have HB1 : Hid (Below w.heap.size w w1) := hb1
  clear hb1 HC
  rcases hor with h0 | ⟨g, rfl, hg, hO⟩
  · have k0 : ¬ (0 : Int) < (h.length : Int) := by omega
    have HE : Hid (HR w1 rv (bareM h)) := ⟨0, 0, .inl (by rw [bare_len]; exact h0), fun j x hx => by
      have := (List.getElem?_eq_some_iff.1 hx).1
      rw [bare_len] at this; omega⟩
    go_wp2
    go_loopw [15, 6] (fun i _ wr => i = .int .i64 0 ∧ wr = w1) (fun _ _ _ => 0)
    case atStart => exact ⟨rfl, rfl⟩
    case round =>
      obtain ⟨rfl, rfl⟩ := hrel
      go_wp2
      go_ret
      exact ⟨⟨rv, cv, by rw [h0]; rfl, HE.out⟩, HB1.out⟩
  · have HO : Hid (OwnH w1 g (cv * 4) (bt 0 h)) := by
      have e : bt 0 h = h := by unfold bt; simp
      show OwnH ..
      rw [e]; exact hO
    clear hO
    go_wp2
    go_loopw [15, 6] (fun i _ wr => ∃ j : Nat, i = .int .i64 j ∧ j ≤ h.length ∧ Hid (OwnH wr g (cv * 4) (bt j h)) ∧ Hid (Below w.heap.size w wr)) (fun i _ _ => h.length - (intOf i).toNat)
    case atStart => exact ⟨0, rfl, Nat.zero_le _, HO, HB1⟩
    case round =>
      obtain ⟨j, rfl, hj, HOj, HB⟩ := hrel
      by_cases hlt : j < h.length
      · have k1 : (j : Int) < (h.length : Int) := by omega
        obtain ⟨x, hx⟩ : ∃ x, h[j]? = some x := ⟨_, List.getElem?_eq_getElem hlt⟩
        obtain ⟨hb1, hb2⟩ := bt_at hx
        obtain ⟨b', o', q1, q2⟩ := HOj.out.hx
        have e4 : (some ⟨g, 0, none⟩ : Option Addr) = some ⟨b', o', none⟩ := q1.resolve_left (by rw [bt_len j h hj]; omega)
        cases e4
        obtain ⟨l1, d0, d1, d2, d3⟩ := q2 j x hb1
        simp only [Nat.zero_add] at d0 d1 d2 d3
        have z3 := HOj.out.1.fz (j * 4 + 1 + 1 + 1)
        have HT2 := HOj.out.turnB hb1 1
        cases hk2 : (x.k == 2)
        · have HOn : Hid (OwnH wr g (cv * 4) (bt (j + 1) h)) := by
            show OwnH ..
            have e : bareC x = x := by unfold bareC; rw [if_neg (by simpa using hk2)]
            rw [hb2, e, set_self hb1]
            exact HOj.out
          clear hb1 hb2 q1 q2 hx HT2
          go_wp2
          go_roundw
          case rel => exact ⟨j + 1, by go_num, by omega, HOn, HB⟩
          case measure => simp [intOf]; omega
        · have HOn : Hid (OwnH (wr.setCell ⟨g, j * 4 + 1 + 1 + 1, none⟩ (.int .u64 1)) g (cv * 4) (bt (j + 1) h)) := by
            show OwnH ..
            have e : bareC x = ⟨x.k, x.c, x.a, 1⟩ := by unfold bareC; rw [if_pos (by simpa using hk2)]
            rw [hb2, e]; exact HT2
          have HBn : Hid (Below w.heap.size w (wr.setCell ⟨g, j * 4 + 1 + 1 + 1, none⟩ (.int .u64 1))) := HB.out.setCell (p := ⟨g, j * 4 + 1 + 1 + 1, none⟩) hg _
          clear hb1 hb2 q1 q2 hx HT2
          go_wp2
          go_roundw
          case rel => exact ⟨j + 1, by go_num, by omega, HOn, HBn⟩
          case measure => simp [intOf]; omega
      · have k1 : ¬ (j : Int) < (h.length : Int) := by omega
        have hje : j = h.length := by omega
        subst hje
        have HE : Hid (HR wr (some ⟨g, 0, none⟩) (bareM h)) := by
          show HR ..
          have h9 := HOj.out.hx
          rw [bt_all] at h9
          refine h9.hr (fun y hy => ?_)
          unfold bareM at hy
          obtain ⟨z, hz, rfl⟩ := List.mem_map.1 hy
          exact okK_bare (HK.out z hz)
        go_wp2
        go_ret
        exact ⟨⟨_, cv, rfl, HE.out⟩, HB.out⟩
end Go.Proofs.YtinijcmnojlphaaDoor
