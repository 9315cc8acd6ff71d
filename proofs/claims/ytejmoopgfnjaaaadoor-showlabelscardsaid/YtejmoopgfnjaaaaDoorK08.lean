/- A heap laid once more, with nothing in its boxes' second words.; What is seen of a heap from a word. -/
import Derived.Test.YtejmoopgfnjaaaaDoorK07
/- A heap laid once more, with nothing in its boxes' second words. -/
namespace Go.Proofs.YtejmoopgfnjaaaaDoor
open Go.RowKit

/-- A row of cells laid once more. -/
def CloneR (h : List Cl) (B : Nat) (e : Ending) (w' : World) : Prop := ∃ rv cv, e = .returned (.slice rv h.length cv) ∧ (h.length = 0 ∨ ∃ g, rv = some ⟨g, 0, none⟩ ∧ B ≤ g ∧ OwnH w' g (cv * 4) h)
set_option maxRecDepth 100000 in
set_option maxHeartbeats 4000000 in
theorem clone_any (h : List Cl) (ra : Option Addr) (ca : Nat) (w : World) (hl : h.length ≤ 1000000) (hH : HR w ra h) :
    Calls Tryd.prog 46 #[.slice ra h.length ca] w fun e w' => CloneR h w.heap.size e w' ∧ Below w.heap.size w w' := by
  cases ra with
  | none =>
    have h0 : h.length = 0 := by
      obtain ⟨b, o, h1, _⟩ := hH
      rcases h1 with h1 | h1
      · exact h1
      · cases h1
    have HZ : Hid (h.length = 0) := h0
    rw [h0]
    clear hH h0
    have qT : ∀ (w : World), (binOp .eql 22 (.slice none 0 ca) (.slice none 0 0)).run Tryd.prog w = .ok (.bool true) w := fun w => Lib.run_eql_slice_nil w 22 _ none 0 ca 0 0 Tryd.underlying22
    go_enter Tryd.func46, Tryd.ntmps46
    go_wp2
    go_ret
    exact ⟨⟨none, 0, by rw [HZ.out]; rfl, .inl HZ.out⟩, Below.refl _ _⟩
  | some ad =>
    have HHh : Hid (HR w (some ad) h) := hH
    obtain ⟨i1, hi1, hy0, hy1, hy2⟩ := info_parts infoCl
    clear hH
    have qT : ∀ (w : World), (binOp .eql 22 (.slice (some ad) h.length ca) (.slice none 0 0)).run Tryd.prog w = .ok (.bool false) w := fun w => Lib.run_eql_slice_nil w 22 _ (some ad) h.length ca 0 0 Tryd.underlying22
    go_enter Tryd.func46, Tryd.ntmps46
    go_wp2_with (at_builtin; refine stop_of ?_)
    unfold Hid
    have al := (Below.refl _ w).alloc (Nat.le_refl w.heap.size) (.cells #[] 39)
    have hw : (w.alloc (.cells #[] 39)).ownsRow w.heap.size 39 4 (.slice (some ⟨w.heap.size, 0, none⟩) 0 0) 0 [] := ⟨by simp, .inr ⟨w.heap.size, 0, #[], rfl, Nat.le_refl _, heap_alloc_new _ _, Nat.le_refl _, by unfold maxLen; omega, rfl, rfl⟩⟩
    have hn : ∀ (j : Nat) (u : Value), (clCells h)[j]? = some u → (w.alloc (.cells #[] 39)).cell? (ad.add j) = some u := fun j u hj => by
      obtain ⟨b, o, h1, h2⟩ := HHh.out
      have hl0 : h.length ≠ 0 := fun e => by
        have := (List.getElem?_eq_some_iff.1 hj).1
        rw [clCells_len] at this; omega
      have e := h1.resolve_left hl0
      cases e
      exact hr_all ((HHh.out.below al).hx) j u hj
    refine wpList_append_own _ rfl _ _ 22 rfl w.heap.size 39 i1 (.agg #[.int .u8 0, .int .u8 0, .int .u64 0, .int .u64 0]) 4 24 Tryd.underlying22 hi1 hy0 hy1 hy2 rfl (by decide) _ 0 [] rfl hw ad h.length ca (clCells h) rfl (clCells_len h) hn (clCells_one h) (by unfold maxLen; omega) (by omega) al.size ?_
    intro v' w' hown hgr _
    rw [Nat.zero_add, List.nil_append] at hown
    have HB : Hid (Below w.heap.size w w') := al.grown hgr al.size (fun k hk => by cases hk; exact Nat.le_refl _)
    obtain ⟨rv, cv, rfl⟩ := own_sl hown
    have HO : Hid (h.length = 0 ∨ ∃ g, rv = some ⟨g, 0, none⟩ ∧ w.heap.size ≤ g ∧ OwnH w' g (cv * 4) h) := by
      rcases hown.2 with ⟨_, h0⟩ | ⟨g, cap, cur, hv, hb, _⟩
      · exact .inl h0
      · cases hv
        exact .inr ⟨g, rfl, hb, own_h hown rfl⟩
    clear hown hgr hn hw al
    go_wp2
    go_ret
    exact ⟨⟨rv, cv, rfl, HO.out⟩, HB.out⟩
/-- One cell's second word turned. -/
theorem OwnH.turnB {w : World} {g N c : Nat} {l : List Cl} {x : Cl} (h : OwnH w g N l) (hx : l[c]? = some x) (v : Int) : OwnH (w.setCell ⟨g, c * 4 + 1 + 1 + 1, none⟩ (.int .u64 v)) g N (l.set c ⟨x.k, x.c, x.a, v⟩) := by
  have hc := (List.getElem?_eq_some_iff.1 hx).1
  refine ⟨h.1.set (fun k u hk hh v' hv' => hh v' ?_) (fun v' hv' => ?_), by rw [List.length_set]; exact h.2⟩
  · rw [clCells_eq] at hv' ⊢
    rw [List.getElem?_set] at hv'
    split at hv'
    · rename_i he
      rw [← he, hx]
      have hm : k % 4 = 0 ∨ k % 4 = 1 ∨ k % 4 = 2 := by omega
      rcases hm with hm | hm | hm <;> rw [hm] at hv' ⊢ <;> exact hv'
    · exact hv'
  · rw [clCells_eq, show (c * 4 + 1 + 1 + 1) / 4 = c by omega, show (c * 4 + 1 + 1 + 1) % 4 = 3 by omega, List.getElem?_set] at hv'
    rw [if_pos rfl, if_pos hc] at hv'
    exact Option.some.inj hv'
/-- The first j cells bare. -/
def bt (j : Nat) (h : List Cl) : List Cl := (h.take j).map bareC ++ h.drop j
theorem bt_len (j : Nat) (h : List Cl) (hj : j ≤ h.length) : (bt j h).length = h.length := by unfold bt; simp; omega
theorem bt_at {j : Nat} {h : List Cl} {x : Cl} (hx : h[j]? = some x) : (bt j h)[j]? = some x ∧ bt (j + 1) h = (bt j h).set j (bareC x) := by
  have hj := (List.getElem?_eq_some_iff.1 hx).1
  have hl : ((h.take j).map bareC).length = j := by simp; omega
  have hd : h.drop j = x :: h.drop (j + 1) := by
    rw [List.drop_eq_getElem_cons hj, (List.getElem?_eq_some_iff.1 hx).2]
  constructor
  · unfold bt
    rw [List.getElem?_append_right (by omega), hl, hd]; simp
  · unfold bt
    rw [List.set_append_right _ _ (by omega), hl, hd, List.take_add_one, hx]
    simp
theorem bt_all (h : List Cl) : bt h.length h = bareM h := by unfold bt bareM; simp
theorem okK_bare {x : Cl} (h : OkK x) : OkK (bareC x) := by
  unfold bareC
  split
  · exact ⟨h.k, h.c, h.a, ⟨(by omega : (0 : Int) ≤ 1), (by omega : (1 : Int) ≤ 18446744073709551615)⟩⟩
  · exact h
theorem set_self {α : Type} {l : List α} {j : Nat} {x : α} (h : l[j]? = some x) : l.set j x = l := by
  refine List.ext_getElem? (fun i => ?_)
  rw [List.getElem?_set]
  split
  · rename_i e
    subst e
    rw [if_pos (List.getElem?_eq_some_iff.1 h).1, h]
  · rfl
def BareR (h : List Cl) (e : Ending) (w' : World) : Prop := ∃ rv cv, e = .returned (.slice rv h.length cv) ∧ HR w' rv (bareM h)
set_option maxRecDepth 100000 in
set_option maxHeartbeats 4000000 in
theorem bare_any (h : List Cl) (ra : Option Addr) (ca : Nat) (w : World) (hl : h.length ≤ 1000000) (hH : HR w ra h) (hT : Tab w) :
    Calls Tryd.prog 29 #[.slice ra h.length ca] w fun e w' => BareR h e w' ∧ Below w.heap.size w w' := by
  have HM : Hid (Calls Tryd.prog 14 #[.int .u8 1, .int .i64 0] w fun e w' => e = .returned (.tuple #[.int .u64 1, .int .i64 0]) ∧ w' = w) := make_any 1 0 w (by omega) (by omega) hT
  have HC : Hid _ := clone_any h ra ca w hl hH
  have HK : Hid (∀ x ∈ h, OkK x) := hr_ok hH
  clear hH hT
  go_enter Tryd.func29, Tryd.ntmps29
  go_wp2_with fail
  refine Calls.mono HM.out ?_
  rintro e w1 ⟨rfl, hw1⟩
  rw [hw1]
  clear hw1 HM
  go_wp2_with fail
  refine Calls.mono HC.out ?_
  rintro e w1 ⟨⟨rv, cv, rfl, hor⟩, hb1⟩
  have HB1 : Hid (Below w.heap.size w w1) := hb1
  clear hb1 HC
  rcases hor with h0 | ⟨g, rfl, hg, hO⟩
  · have k0 : ¬ (0 : Int) < (h.length : Int) := by omega
    have HE : Hid (HR w1 rv (bareM h)) := ⟨0, 0, .inl (by rw [bare_len]; exact h0), fun j x hx => by
      have := (List.getElem?_eq_some_iff.1 hx).1
      rw [bare_len] at this; omega⟩
    go_wp2
    go_loopw [15, 6] (fun i _ wr => i = .int .i64 0 ∧ wr = w1) (fun _ _ _ => 0)
    case atStart => exact ⟨rfl, rfl⟩
    case round =>
      obtain ⟨rfl, rfl⟩ := hrel
      go_wp2
      go_ret
      exact ⟨⟨rv, cv, by rw [h0]; rfl, HE.out⟩, HB1.out⟩
  · have HO : Hid (OwnH w1 g (cv * 4) (bt 0 h)) := by
      have e : bt 0 h = h := by unfold bt; simp
      show OwnH ..
      rw [e]; exact hO
    clear hO
    go_wp2
    go_loopw [15, 6] (fun i _ wr => ∃ j : Nat, i = .int .i64 j ∧ j ≤ h.length ∧ Hid (OwnH wr g (cv * 4) (bt j h)) ∧ Hid (Below w.heap.size w wr)) (fun i _ _ => h.length - (intOf i).toNat)
    case atStart => exact ⟨0, rfl, Nat.zero_le _, HO, HB1⟩
    case round =>
      obtain ⟨j, rfl, hj, HOj, HB⟩ := hrel
      by_cases hlt : j < h.length
      · have k1 : (j : Int) < (h.length : Int) := by omega
        obtain ⟨x, hx⟩ : ∃ x, h[j]? = some x := ⟨_, List.getElem?_eq_getElem hlt⟩
        obtain ⟨hb1, hb2⟩ := bt_at hx
        obtain ⟨b', o', q1, q2⟩ := HOj.out.hx
        have e4 : (some ⟨g, 0, none⟩ : Option Addr) = some ⟨b', o', none⟩ := q1.resolve_left (by rw [bt_len j h hj]; omega)
        cases e4
        obtain ⟨l1, d0, d1, d2, d3⟩ := q2 j x hb1
        simp only [Nat.zero_add] at d0 d1 d2 d3
        have z3 := HOj.out.1.fz (j * 4 + 1 + 1 + 1)
        have HT2 := HOj.out.turnB hb1 1
        cases hk2 : (x.k == 2)
        · have HOn : Hid (OwnH wr g (cv * 4) (bt (j + 1) h)) := by
            show OwnH ..
            have e : bareC x = x := by unfold bareC; rw [if_neg (by simpa using hk2)]
            rw [hb2, e, set_self hb1]
            exact HOj.out
          clear hb1 hb2 q1 q2 hx HT2
          go_wp2
          go_roundw
          case rel => exact ⟨j + 1, by go_num, by omega, HOn, HB⟩
          case measure => simp [intOf]; omega
        · have HOn : Hid (OwnH (wr.setCell ⟨g, j * 4 + 1 + 1 + 1, none⟩ (.int .u64 1)) g (cv * 4) (bt (j + 1) h)) := by
            show OwnH ..
            have e : bareC x = ⟨x.k, x.c, x.a, 1⟩ := by unfold bareC; rw [if_pos (by simpa using hk2)]
            rw [hb2, e]; exact HT2
          have HBn : Hid (Below w.heap.size w (wr.setCell ⟨g, j * 4 + 1 + 1 + 1, none⟩ (.int .u64 1))) := HB.out.setCell (p := ⟨g, j * 4 + 1 + 1 + 1, none⟩) hg _
          clear hb1 hb2 q1 q2 hx HT2
          go_wp2
          go_roundw
          case rel => exact ⟨j + 1, by go_num, by omega, HOn, HBn⟩
          case measure => simp [intOf]; omega
      · have k1 : ¬ (j : Int) < (h.length : Int) := by omega
        have hje : j = h.length := by omega
        subst hje
        have HE : Hid (HR wr (some ⟨g, 0, none⟩) (bareM h)) := by
          show HR ..
          have h9 := HOj.out.hx
          rw [bt_all] at h9
          refine h9.hr (fun y hy => ?_)
          unfold bareM at hy
          obtain ⟨z, hz, rfl⟩ := List.mem_map.1 hy
          exact okK_bare (HK.out z hz)
        go_wp2
        go_ret
        exact ⟨⟨_, cv, rfl, HE.out⟩, HB.out⟩
end Go.Proofs.YtejmoopgfnjaaaaDoor

/- What is seen of a heap from a word. -/
namespace Go.Proofs.YtejmoopgfnjaaaaDoor
open Go.RowKit

/-- The word as what is seen names it. -/
def fromM (h : List Cl) (x : Int) : Int := movedM ((walkM (bareM h) false [x]).map (·.1)) x
abbrev sightV (v : Value) (f : Int) : Value := .agg #[v, .int .u64 f]
def LookR' (h : List Cl) (x : Int) (e : Ending) (w' : World) : Prop :=
  (fitsB h x = false ∧ e = .returned (.tuple #[sightV (.slice none 0 0) 0, .bool false])) ∨
  (fitsB h x = true ∧ ∃ g, e = .returned (.tuple #[sightV (.slice (some ⟨g, 0, none⟩) (fH (bareM h) [x]).length (fH (bareM h) [x]).length) (fromM h x), .bool true]) ∧ HR w' (some ⟨g, 0, none⟩) (fH (bareM h) [x]))
theorem wr_one (w : World) (x : Int) (hx : Rng x) : WR (w.alloc (.cells #[.int .u64 x] 25)) (some ⟨w.heap.size, 0, none⟩) [x] :=
  ⟨w.heap.size, 0, .inr rfl, fun j y hy => by
    have hy2 : j = 0 ∧ y = x := by
      match j, hy with
      | 0, hy => exact ⟨rfl, by simpa using hy.symm⟩
      | j + 1, hy => simp at hy
    obtain ⟨rfl, rfl⟩ := hy2
    exact ⟨by simp, new_cell _ _ _ 0 _ rfl, hx⟩⟩
theorem fR_one (h : List Cl) (x : Int) : fR (bareM h) [x] = [fromM h x] := rfl
abbrev SO : Obj := .cells #[.slice none 0 0, .int .u64 0] 54
/-- The result's block. -/
def SB (w : World) (b : Nat) (u v : Value) : Prop := w.heap[b]? = some (.cells #[u, v] 54 (0, 0))
theorem SB.set {w : World} {b : Nat} {u v : Value} (h : SB w b u v) (u' v' : Value) : SB ((w.setCell ⟨b, 0, none⟩ u').setCell ⟨b, 1, none⟩ v') b u' v' := by
  have h1 := set_atC (j := 0) h u'
  have h2 := set_atC (j := 1) h1 v'
  exact h2
theorem cell_setO {w : World} {b o k q : Nat} {v : Value} (h : k ≠ b) : (w.setCell ⟨b, o, none⟩ v).cell? ⟨k, q, none⟩ = w.cell? ⟨k, q, none⟩ := by
  have e : (w.setCell ⟨b, o, none⟩ v).heap[k]? = w.heap[k]? := Below.heap_setCell _ _ _ k h
  simp only [World.cell?, e]
theorem hr_set {w : World} {g q b : Nat} {l : List Cl} (h : HR w (some ⟨g, q, none⟩) l) (hb : l.length = 0 ∨ g ≠ b) (o : Nat) (v : Value) : HR (w.setCell ⟨b, o, none⟩ v) (some ⟨g, q, none⟩) l := by
  rcases hb with h0 | hb
  · exact ⟨0, 0, .inl h0, fun j x hx => by have := (List.getElem?_eq_some_iff.1 hx).1; omega⟩
  · obtain ⟨b', o', h1, h2⟩ := h
    refine ⟨b', o', h1, fun j x hx => ?_⟩
    have hl := (List.getElem?_eq_some_iff.1 hx).1
    have e : (some ⟨g, q, none⟩ : Option Addr) = some ⟨b', o', none⟩ := h1.resolve_left (by omega)
    cases e
    obtain ⟨l1, ⟨d0, d1, d2, d3⟩, hk⟩ := h2 j x hx
    rw [World.size_setCell, cell_setO hb, cell_setO hb, cell_setO hb, cell_setO hb]
    exact ⟨l1, ⟨d0, d1, d2, d3⟩, hk⟩
set_option maxRecDepth 100000 in
set_option maxHeartbeats 8000000 in
theorem look_sight (h : List Cl) (x : Int) (ra : Option Addr) (ca : Nat) (w : World) (hl : h.length ≤ 1000000) (hH : HR w ra h) (hx : Rng x) (hT : Tab w) :
    Calls Tryd.prog 17 #[.slice ra h.length ca, .int .u64 x] w fun e w' => LookR' h x e w' ∧ Below w.heap.size w w' := by
  have a0 := (Below.refl _ w).alloc (Nat.le_refl w.heap.size) SO
  have HS0 : Hid (SB (w.alloc SO) w.heap.size (.slice none 0 0) (.int .u64 0)) := heap_alloc_new _ _
  have HB0 : Hid (Below w.heap.size w (w.alloc SO)) := a0
  have z0 : w.heap.size < (w.alloc SO).heap.size := by simp
  have HH : Hid (HR (w.alloc SO) ra h ∧ Tab (w.alloc SO)) := ⟨hH.below a0, hT.below a0⟩
  have HC : Hid _ := check_any h ra ca (w.alloc SO) (hH.below a0) (by omega) (hT.below a0)
  clear hH hT a0
  cases hbad : badC h.length h 0 with
  | some i =>
    have HF : Hid (fitsB h x = false) := by show _ = _; unfold fitsB; rw [hbad]; rfl
    unfold chkV at HC
    rw [hbad] at HC
    clear hbad
    go_enter Tryd.func17, Tryd.ntmps17
    go_upto_region 1 with fail
    generalize w.alloc SO = W0 at *
    go_wp2_with fail
    refine Calls.mono HC.out ?_
    rintro e w1 ⟨rfl, hb1⟩
    have hs9 : SB w1 w.heap.size (.slice none 0 0) (.int .u64 0) := (hb1.block _ z0).trans HS0.out
    have hB9 : Below w.heap.size w w1 := HB0.out.trans (hb1.mono HB0.out.size)
    obtain ⟨w9, rfl⟩ : ∃ w9, w9 = w1 := ⟨_, rfl⟩
    have c0 := heap_cell (j := 0) hs9 rfl
    have c1 := heap_cell (j := 1) hs9 rfl
    have f0 : w9.frozen? ⟨w.heap.size, 0, none⟩ = false := by simp [World.frozen?, show w9.heap[w.heap.size]? = _ from hs9]
    have f1 : w9.frozen? ⟨w.heap.size, 1, none⟩ = false := by simp [World.frozen?, show w9.heap[w.heap.size]? = _ from hs9]
    have l9 := heap_lt hs9
    have HS2 : Hid (SB ((w9.setCell ⟨w.heap.size, 0, none⟩ (.slice none 0 0)).setCell ⟨w.heap.size, 1, none⟩ (.int .u64 0)) w.heap.size (.slice none 0 0) (.int .u64 0)) := hs9.set _ _
    have HB2 : Hid (Below w.heap.size w ((w9.setCell ⟨w.heap.size, 0, none⟩ (.slice none 0 0)).setCell ⟨w.heap.size, 1, none⟩ (.int .u64 0))) := (hB9.setCell (p := ⟨w.heap.size, 0, none⟩) (Nat.le_refl _) _).setCell (p := ⟨w.heap.size, 1, none⟩) (Nat.le_refl _) _
    clear hb1 hs9 hB9 HC
    go_wp2
    have x0 := heap_cell (j := 0) HS2.out rfl
    have x1 := heap_cell (j := 1) HS2.out rfl
    generalize (w9.setCell ⟨w.heap.size, 0, none⟩ (.slice none 0 0)).setCell ⟨w.heap.size, 1, none⟩ (.int .u64 0) = wE at *
    exact bodyPost_ret (v := .tuple #[sightV (.slice none 0 0) (0), .bool false]) (by simp [results, Tryd.results17, go_sem] at *; simp [x0, x1]) rfl ⟨.inl ⟨HF.out, rfl⟩, HB2.out⟩
  | none =>
    unfold chkV at HC
    rw [hbad] at HC
    have HN : Hid (badC h.length h 0 = none) := hbad
    clear hbad
    go_enter Tryd.func17, Tryd.ntmps17
    go_upto_region 1 with fail
    generalize w.alloc SO = W0 at *
    go_wp2_with fail
    refine Calls.mono HC.out ?_
    rintro e w1 ⟨rfl, hb1⟩
    have HS1 : Hid (SB w1 w.heap.size (.slice none 0 0) (.int .u64 0)) := (hb1.block _ z0).trans HS0.out
    have HB1 : Hid (Below w.heap.size w w1) := HB0.out.trans (hb1.mono HB0.out.size)
    have z1 : w.heap.size < w1.heap.size := Nat.lt_of_lt_of_le z0 hb1.size
    have HH1 : Hid (HR w1 ra h ∧ Tab w1) := ⟨HH.out.1.below hb1, HH.out.2.below hb1⟩
    clear hb1 HC HS0 HB0 HH z0
    go_wp2_with fail
    refine Calls.mono (bare_any h ra ca w1 hl HH1.out.1 HH1.out.2) ?_
    rintro e w2 ⟨⟨rv, cv, rfl, hr2⟩, hb2⟩
    have a2 := (Below.refl _ w2).alloc (Nat.le_refl w2.heap.size) (.cells #[.int .u64 x] 25)
    have hb3 := hb2.trans (a2.mono hb2.size)
    have HS3 : Hid (SB (w2.alloc (.cells #[.int .u64 x] 25)) w.heap.size (.slice none 0 0) (.int .u64 0)) := (hb3.block _ z1).trans HS1.out
    have HB3 : Hid (Below w.heap.size w (w2.alloc (.cells #[.int .u64 x] 25))) := HB1.out.trans (hb3.mono HB1.out.size)
    have z3 : w.heap.size < (w2.alloc (.cells #[.int .u64 x] 25)).heap.size := Nat.lt_of_lt_of_le z1 hb3.size
    have HT3 : Hid (Tab (w2.alloc (.cells #[.int .u64 x] 25))) := HH1.out.2.below hb3
    have hH3 : HR (w2.alloc (.cells #[.int .u64 x] 25)) rv (bareM h) := hr2.below a2
    have hW3 := wr_one w2 x hx
    have hbl : (bareM h).length ≤ 1000000 := by rw [bare_len]; exact hl
    cases hB : heapB (bareM h) [x]
    · have HF : Hid (fitsB h x = false) := by show _ = _; unfold fitsB; rw [HN.out, hB]; rfl
      have HFo := form_bad (bareM h) [x] rv _ cv 1 _ hH3 hW3 HT3.out hbl (by simp) hB
      rw [bare_len] at HFo
      have HFh : Hid _ := HFo
      clear HFo hH3 hW3 hB hbl hr2 hb2 hb3 a2
      go_wp2_with fail
      refine Calls.mono HFh.out ?_
      rintro e w4 ⟨rfl, hb4⟩
      have hs9 : SB w4 w.heap.size (.slice none 0 0) (.int .u64 0) := (hb4.block _ z3).trans HS3.out
      have hB9 : Below w.heap.size w w4 := HB3.out.trans (hb4.mono HB3.out.size)
      obtain ⟨w9, rfl⟩ : ∃ w9, w9 = w4 := ⟨_, rfl⟩
      have c0 := heap_cell (j := 0) hs9 rfl
      have c1 := heap_cell (j := 1) hs9 rfl
      have f0 : w9.frozen? ⟨w.heap.size, 0, none⟩ = false := by simp [World.frozen?, show w9.heap[w.heap.size]? = _ from hs9]
      have f1 : w9.frozen? ⟨w.heap.size, 1, none⟩ = false := by simp [World.frozen?, show w9.heap[w.heap.size]? = _ from hs9]
      have l9 := heap_lt hs9
      have HS2 : Hid (SB ((w9.setCell ⟨w.heap.size, 0, none⟩ (.slice none 0 0)).setCell ⟨w.heap.size, 1, none⟩ (.int .u64 0)) w.heap.size (.slice none 0 0) (.int .u64 0)) := hs9.set _ _
      have HB2 : Hid (Below w.heap.size w ((w9.setCell ⟨w.heap.size, 0, none⟩ (.slice none 0 0)).setCell ⟨w.heap.size, 1, none⟩ (.int .u64 0))) := (hB9.setCell (p := ⟨w.heap.size, 0, none⟩) (Nat.le_refl _) _).setCell (p := ⟨w.heap.size, 1, none⟩) (Nat.le_refl _) _
      clear hb4 hs9 hB9 HFh
      go_wp2
      have x0 := heap_cell (j := 0) HS2.out rfl
      have x1 := heap_cell (j := 1) HS2.out rfl
      generalize (w9.setCell ⟨w.heap.size, 0, none⟩ (.slice none 0 0)).setCell ⟨w.heap.size, 1, none⟩ (.int .u64 0) = wE at *
      exact bodyPost_ret (v := .tuple #[sightV (.slice none 0 0) (0), .bool false]) (by simp [results, Tryd.results17, go_sem] at *; simp [x0, x1]) rfl ⟨.inl ⟨HF.out, rfl⟩, HB2.out⟩
    · have HFo := form_ok (bareM h) [x] rv _ cv 1 _ hH3 hW3 HT3.out hbl (by simp) hB
      rw [bare_len] at HFo
      have hXl : (fH (bareM h) [x]).length ≤ 1000000 := by
        rw [fH_len]
        have := (walk_ok false hB).len
        omega
      have HBq : Hid (heapB (bareM h) [x] = true) := hB
      have HFh : Hid _ := HFo
      clear HFo hH3 hW3 hB hbl hr2 hb2 hb3 a2
      go_wp2_with fail
      refine Calls.mono HFh.out ?_
      rintro e w4 ⟨⟨g1, g2, rfl, hX, hY⟩, hb4⟩
      rw [fR_one] at hY
      have HS4 : Hid (SB w4 w.heap.size (.slice none 0 0) (.int .u64 0)) := (hb4.block _ z3).trans HS3.out
      have HB4 : Hid (Below w.heap.size w w4) := HB3.out.trans (hb4.mono HB3.out.size)
      have z4 : w.heap.size < w4.heap.size := Nat.lt_of_lt_of_le z3 hb4.size
      have HX4 : Hid (HR w4 (some ⟨g1, 0, none⟩) (fH (bareM h) [x]) ∧ WR w4 (some ⟨g2, 0, none⟩) [fromM h x]) := ⟨hX, hY⟩
      have HA : Hid _ := anyWrong_any (fH (bareM h) [x]) (some ⟨g1, 0, none⟩) (fH (bareM h) [x]).length w4 hXl hX (HT3.out.below hb4)
      clear hX hY hb4 HFh HS3 HB3 HT3
      rw [fR_len]
      cases hwr : (fH (bareM h) [x]).any wrongC
      · have HF : Hid (fitsB h x = true) := by show _ = _; unfold fitsB; rw [HN.out, HBq.out, hwr]; rfl
        rw [hwr] at HA
        clear hwr
        go_wp2_with fail
        refine Calls.mono HA.out ?_
        rintro e w5 ⟨rfl, hb5⟩
        have hs9 : SB w5 w.heap.size (.slice none 0 0) (.int .u64 0) := (hb5.block _ z4).trans HS4.out
        have hB9 : Below w.heap.size w w5 := HB4.out.trans (hb5.mono HB4.out.size)
        obtain ⟨b', o', q1, q2⟩ := HX4.out.2.below hb5
        have e4 : (some ⟨g2, 0, none⟩ : Option Addr) = some ⟨b', o', none⟩ := q1.resolve_left (by simp)
        cases e4
        obtain ⟨ly, cy, _⟩ := q2 0 (fromM h x) rfl
        rw [Nat.add_zero] at cy
        have hX5 := HX4.out.1.below hb5
        have hgX : (fH (bareM h) [x]).length = 0 ∨ g1 ≠ w.heap.size := by
          by_cases h0 : (fH (bareM h) [x]).length = 0
          · exact .inl h0
          · refine .inr (fun e => ?_)
            obtain ⟨bb, oo, r1, r2⟩ := hX5
            have e5 : (some ⟨g1, 0, none⟩ : Option Addr) = some ⟨bb, oo, none⟩ := r1.resolve_left h0
            cases e5
            obtain ⟨y, hy⟩ : ∃ y, (fH (bareM h) [x])[0]? = some y := ⟨_, List.getElem?_eq_getElem (by omega)⟩
            have h6 := (r2 0 y hy).2.1.1
            rw [e] at h6
            have h7 := heap_cell (j := 0) hs9 rfl
            simp only [Nat.zero_mul, Nat.add_zero] at h6
            rw [h6] at h7
            cases h7
        have HX6 : Hid (HR ((w5.setCell ⟨w.heap.size, 0, none⟩ (.slice (some ⟨g1, 0, none⟩) (fH (bareM h) [x]).length (fH (bareM h) [x]).length)).setCell ⟨w.heap.size, 1, none⟩ (.int .u64 (fromM h x))) (some ⟨g1, 0, none⟩) (fH (bareM h) [x])) := hr_set (hr_set hX5 hgX _ _) hgX _ _
        have HFr : Hid (∀ e w', (e = .returned (.tuple #[sightV (.slice (some ⟨g1, 0, none⟩) (fH (bareM h) [x]).length (fH (bareM h) [x]).length) (fromM h x), .bool true]) ∧ HR w' (some ⟨g1, 0, none⟩) (fH (bareM h) [x])) → LookR' h x e w') := fun e w' hh => .inr ⟨HF.out, g1, hh.1, hh.2⟩
        generalize fH (bareM h) [x] = X at *
        generalize fromM h x = F at *
        obtain ⟨w9, rfl⟩ : ∃ w9, w9 = w5 := ⟨_, rfl⟩
        have c0 := heap_cell (j := 0) hs9 rfl
        have c1 := heap_cell (j := 1) hs9 rfl
        have f0 : w9.frozen? ⟨w.heap.size, 0, none⟩ = false := by simp [World.frozen?, show w9.heap[w.heap.size]? = _ from hs9]
        have f1 : w9.frozen? ⟨w.heap.size, 1, none⟩ = false := by simp [World.frozen?, show w9.heap[w.heap.size]? = _ from hs9]
        have l9 := heap_lt hs9
        have HS2 : Hid (SB ((w9.setCell ⟨w.heap.size, 0, none⟩ (.slice (some ⟨g1, 0, none⟩) X.length X.length)).setCell ⟨w.heap.size, 1, none⟩ (.int .u64 F)) w.heap.size (.slice (some ⟨g1, 0, none⟩) X.length X.length) (.int .u64 F)) := hs9.set _ _
        have HB2 : Hid (Below w.heap.size w ((w9.setCell ⟨w.heap.size, 0, none⟩ (.slice (some ⟨g1, 0, none⟩) X.length X.length)).setCell ⟨w.heap.size, 1, none⟩ (.int .u64 F))) := (hB9.setCell (p := ⟨w.heap.size, 0, none⟩) (Nat.le_refl _) _).setCell (p := ⟨w.heap.size, 1, none⟩) (Nat.le_refl _) _
        clear hb5 hs9 hB9 HA q1 q2 hX5 hgX
        go_wp2
        have x0 := heap_cell (j := 0) HS2.out rfl
        have x1 := heap_cell (j := 1) HS2.out rfl
        generalize (w9.setCell ⟨w.heap.size, 0, none⟩ (.slice (some ⟨g1, 0, none⟩) X.length X.length)).setCell ⟨w.heap.size, 1, none⟩ (.int .u64 F) = wE at *
        exact bodyPost_ret (v := .tuple #[sightV (.slice (some ⟨g1, 0, none⟩) X.length X.length) (F), .bool true]) (by simp [results, Tryd.results17, go_sem] at *; simp [x0, x1]) rfl ⟨HFr.out _ _ ⟨rfl, HX6.out⟩, HB2.out⟩
      · have HF : Hid (fitsB h x = false) := by show _ = _; unfold fitsB; rw [HN.out, HBq.out, hwr]; rfl
        rw [hwr] at HA
        clear hwr
        go_wp2_with fail
        refine Calls.mono HA.out ?_
        rintro e w5 ⟨rfl, hb5⟩
        have hs9 : SB w5 w.heap.size (.slice none 0 0) (.int .u64 0) := (hb5.block _ z4).trans HS4.out
        have hB9 : Below w.heap.size w w5 := HB4.out.trans (hb5.mono HB4.out.size)
        obtain ⟨w9, rfl⟩ : ∃ w9, w9 = w5 := ⟨_, rfl⟩
        have c0 := heap_cell (j := 0) hs9 rfl
        have c1 := heap_cell (j := 1) hs9 rfl
        have f0 : w9.frozen? ⟨w.heap.size, 0, none⟩ = false := by simp [World.frozen?, show w9.heap[w.heap.size]? = _ from hs9]
        have f1 : w9.frozen? ⟨w.heap.size, 1, none⟩ = false := by simp [World.frozen?, show w9.heap[w.heap.size]? = _ from hs9]
        have l9 := heap_lt hs9
        have HS2 : Hid (SB ((w9.setCell ⟨w.heap.size, 0, none⟩ (.slice none 0 0)).setCell ⟨w.heap.size, 1, none⟩ (.int .u64 0)) w.heap.size (.slice none 0 0) (.int .u64 0)) := hs9.set _ _
        have HB2 : Hid (Below w.heap.size w ((w9.setCell ⟨w.heap.size, 0, none⟩ (.slice none 0 0)).setCell ⟨w.heap.size, 1, none⟩ (.int .u64 0))) := (hB9.setCell (p := ⟨w.heap.size, 0, none⟩) (Nat.le_refl _) _).setCell (p := ⟨w.heap.size, 1, none⟩) (Nat.le_refl _) _
        clear hb5 hs9 hB9 HA
        go_wp2
        have x0 := heap_cell (j := 0) HS2.out rfl
        have x1 := heap_cell (j := 1) HS2.out rfl
        generalize (w9.setCell ⟨w.heap.size, 0, none⟩ (.slice none 0 0)).setCell ⟨w.heap.size, 1, none⟩ (.int .u64 0) = wE at *
        exact bodyPost_ret (v := .tuple #[sightV (.slice none 0 0) (0), .bool false]) (by simp [results, Tryd.results17, go_sem] at *; simp [x0, x1]) rfl ⟨.inl ⟨HF.out, rfl⟩, HB2.out⟩
end Go.Proofs.YtejmoopgfnjaaaaDoor
