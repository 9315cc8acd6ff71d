/- What is seen of a heap from a word. -/
import Derived.Test.YtinijcmnojlphaaDoorHSBare
namespace Go.Proofs.YtinijcmnojlphaaDoor
open Go.RowKit

/-- The word as what is seen names it. -/
def fromM (h : List Cl) (x : Int) : Int := movedM ((walkM (bareM h) false [x]).map (·.1)) x
abbrev sightV (v : Value) (f : Int) : Value := .agg #[v, .int .u64 f]
def LookR' (h : List Cl) (x : Int) (e : Ending) (w' : World) : Prop :=
  (fitsB h x = false ∧ e = .returned (.tuple #[sightV (.slice none 0 0) 0, .bool false])) ∨
  (fitsB h x = true ∧ ∃ g, e = .returned (.tuple #[sightV (.slice (some ⟨g, 0, none⟩) (fH (bareM h) [x]).length (fH (bareM h) [x]).length) (fromM h x), .bool true]) ∧ HR w' (some ⟨g, 0, none⟩) (fH (bareM h) [x]))
theorem wr_one (w : World) (x : Int) (hx : Rng x) : WR (w.alloc (.cells #[.int .u64 x] 24)) (some ⟨w.heap.size, 0, none⟩) [x] :=
  ⟨w.heap.size, 0, .inr rfl, fun j y hy => by
    have hy2 : j = 0 ∧ y = x := by
      match j, hy with
      | 0, hy => exact ⟨rfl, by simpa using hy.symm⟩
      | j + 1, hy => simp at hy
    obtain ⟨rfl, rfl⟩ := hy2
    exact ⟨by simp, new_cell _ _ _ 0 _ rfl, hx⟩⟩
theorem fR_one (h : List Cl) (x : Int) : fR (bareM h) [x] = [fromM h x] := rfl
abbrev SO : Obj := .cells #[.slice none 0 0, .int .u64 0] 44
/-- The result's block. -/
def SB (w : World) (b : Nat) (u v : Value) : Prop := w.heap[b]? = some (.cells #[u, v] 44 (0, 0))
theorem SB.set {w : World} {b : Nat} {u v : Value} (h : SB w b u v) (u' v' : Value) : SB ((w.setCell ⟨b, 0, none⟩ u').setCell ⟨b, 1, none⟩ v') b u' v' := by
  have h1 := set_atC (j := 0) h u'
  have h2 := set_atC (j := 1) h1 v'
  exact h2
theorem cell_setO {w : World} {b o k q : Nat} {v : Value} (h : k ≠ b) : (w.setCell ⟨b, o, none⟩ v).cell? ⟨k, q, none⟩ = w.cell? ⟨k, q, none⟩ := by
  have e : (w.setCell ⟨b, o, none⟩ v).heap[k]? = w.heap[k]? := Below.heap_setCell _ _ _ k h
  simp only [World.cell?, e]
theorem hr_set {w : World} {g q b : Nat} {l : List Cl} (h : HR w (some ⟨g, q, none⟩) l) (hb : l.length = 0 ∨ g ≠ b) (o : Nat) (v : Value) : HR (w.setCell ⟨b, o, none⟩ v) (some ⟨g, q, none⟩) l := by
  rcases hb with h0 | hb
  · exact ⟨0, 0, .inl h0, fun j x hx => by have := (List.getElem?_eq_some_iff.1 hx).1; omega⟩
  · obtain ⟨b', o', h1, h2⟩ := h
    refine ⟨b', o', h1, fun j x hx => ?_⟩
    have hl := (List.getElem?_eq_some_iff.1 hx).1
    have e : (some ⟨g, q, none⟩ : Option Addr) = some ⟨b', o', none⟩ := h1.resolve_left (by omega)
    cases e
    obtain ⟨l1, ⟨d0, d1, d2, d3⟩, hk⟩ := h2 j x hx
    rw [World.size_setCell, cell_setO hb, cell_setO hb, cell_setO hb, cell_setO hb]
    exact ⟨l1, ⟨d0, d1, d2, d3⟩, hk⟩
set_option maxRecDepth 100000 in
set_option maxHeartbeats 8000000 in
theorem look_sight (h : List Cl) (x : Int) (ra : Option Addr) (ca : Nat) (w : World) (hl : h.length ≤ 1000000) (hH : HR w ra h) (hx : Rng x) (hT : Tab w) :
    Calls Tryd.prog 11 #[.slice ra h.length ca, .int .u64 x] w fun e w' => LookR' h x e w' ∧ Below w.heap.size w w' := by
  have a0 := (Below.refl _ w).alloc (Nat.le_refl w.heap.size) SO
  have HS0 : Hid (SB (w.alloc SO) w.heap.size (.slice none 0 0) (.int .u64 0)) := heap_alloc_new _ _
  have HB0 : Hid (Below w.heap.size w (w.alloc SO)) := a0
  have z0 : w.heap.size < (w.alloc SO).heap.size := by simp
  have HH : Hid (HR (w.alloc SO) ra h ∧ Tab (w.alloc SO)) := ⟨hH.below a0, hT.below a0⟩
  have HC : Hid _ := check_any h ra ca (w.alloc SO) (hH.below a0) (by omega) (hT.below a0)
  clear hH hT a0
  cases hbad : badC h.length h 0 with
  | some i =>
    have HF : Hid (fitsB h x = false) := by show _ = _; unfold fitsB; rw [hbad]; rfl
    unfold chkV at HC
    rw [hbad] at HC
    clear hbad
    go_enter Tryd.func11, Tryd.ntmps11
    go_upto_region 1 with fail
    generalize w.alloc SO = W0 at *
    go_wp2_with fail
    refine Calls.mono HC.out ?_
    rintro e w1 ⟨rfl, hb1⟩
    have hs9 : SB w1 w.heap.size (.slice none 0 0) (.int .u64 0) := (hb1.block _ z0).trans HS0.out
    have hB9 : Below w.heap.size w w1 := HB0.out.trans (hb1.mono HB0.out.size)
    obtain ⟨w9, rfl⟩ : ∃ w9, w9 = w1 := ⟨_, rfl⟩
    have c0 := heap_cell (j := 0) hs9 rfl
    have c1 := heap_cell (j := 1) hs9 rfl
    have f0 : w9.frozen? ⟨w.heap.size, 0, none⟩ = false := by simp [World.frozen?, show w9.heap[w.heap.size]? = _ from hs9]
    have f1 : w9.frozen? ⟨w.heap.size, 1, none⟩ = false := by simp [World.frozen?, show w9.heap[w.heap.size]? = _ from hs9]
    have l9 := heap_lt hs9
    have HS2 : Hid (SB ((w9.setCell ⟨w.heap.size, 0, none⟩ (.slice none 0 0)).setCell ⟨w.heap.size, 1, none⟩ (.int .u64 0)) w.heap.size (.slice none 0 0) (.int .u64 0)) := hs9.set _ _
    have HB2 : Hid (Below w.heap.size w ((w9.setCell ⟨w.heap.size, 0, none⟩ (.slice none 0 0)).setCell ⟨w.heap.size, 1, none⟩ (.int .u64 0))) := (hB9.setCell (p := ⟨w.heap.size, 0, none⟩) (Nat.le_refl _) _).setCell (p := ⟨w.heap.size, 1, none⟩) (Nat.le_refl _) _
    clear hb1 hs9 hB9 HC
    go_wp2
    have x0 := heap_cell (j := 0) HS2.out rfl
    have x1 := heap_cell (j := 1) HS2.out rfl
    generalize (w9.setCell ⟨w.heap.size, 0, none⟩ (.slice none 0 0)).setCell ⟨w.heap.size, 1, none⟩ (.int .u64 0) = wE at *
    exact bodyPost_ret (v := .tuple #[sightV (.slice none 0 0) (0), .bool false]) (by simp [results, Tryd.results11, go_sem] at *; simp [x0, x1]) rfl ⟨.inl ⟨HF.out, rfl⟩, HB2.out⟩
  | none =>
    unfold chkV at HC
    rw [hbad] at HC
    have HN : Hid (badC h.length h 0 = none) := hbad
    clear hbad
    go_enter Tryd.func11, Tryd.ntmps11
    go_upto_region 1 with fail
    generalize w.alloc SO = W0 at *
    go_wp2_with fail
    refine Calls.mono HC.out ?_
    rintro e w1 ⟨rfl, hb1⟩
    have HS1 : Hid (SB w1 w.heap.size (.slice none 0 0) (.int .u64 0)) := (hb1.block _ z0).trans HS0.out
    have HB1 : Hid (Below w.heap.size w w1) := HB0.out.trans (hb1.mono HB0.out.size)
    have z1 : w.heap.size < w1.heap.size := Nat.lt_of_lt_of_le z0 hb1.size
    have HH1 : Hid (HR w1 ra h ∧ Tab w1) := ⟨HH.out.1.below hb1, HH.out.2.below hb1⟩
    clear hb1 HC HS0 HB0 HH z0
    go_wp2_with fail
    refine Calls.mono (bare_any h ra ca w1 hl HH1.out.1 HH1.out.2) ?_
    rintro e w2 ⟨⟨rv, cv, rfl, hr2⟩, hb2⟩
    have a2 := (Below.refl _ w2).alloc (Nat.le_refl w2.heap.size) (.cells #[.int .u64 x] 24)
    have hb3 := hb2.trans (a2.mono hb2.size)
    have HS3 : Hid (SB (w2.alloc (.cells #[.int .u64 x] 24)) w.heap.size (.slice none 0 0) (.int .u64 0)) := (hb3.block _ z1).trans HS1.out
    have HB3 : Hid (Below w.heap.size w (w2.alloc (.cells #[.int .u64 x] 24))) := HB1.out.trans (hb3.mono HB1.out.size)
    have z3 : w.heap.size < (w2.alloc (.cells #[.int .u64 x] 24)).heap.size := Nat.lt_of_lt_of_le z1 hb3.size
    have HT3 : Hid (Tab (w2.alloc (.cells #[.int .u64 x] 24))) := HH1.out.2.below hb3
    have hH3 : HR (w2.alloc (.cells #[.int .u64 x] 24)) rv (bareM h) := hr2.below a2
    have hW3 := wr_one w2 x hx
    have hbl : (bareM h).length ≤ 1000000 := by rw [bare_len]; exact hl
    cases hB : heapB (bareM h) [x]
    · have HF : Hid (fitsB h x = false) := by show _ = _; unfold fitsB; rw [HN.out, hB]; rfl
      have HFo := form_bad (bareM h) [x] rv _ cv 1 _ hH3 hW3 HT3.out hbl (by simp) hB
      rw [bare_len] at HFo
      have HFh : Hid _ := HFo
      clear HFo hH3 hW3 hB hbl hr2 hb2 hb3 a2
      go_wp2_with fail
      refine Calls.mono HFh.out ?_
      rintro e w4 ⟨rfl, hb4⟩
      have hs9 : SB w4 w.heap.size (.slice none 0 0) (.int .u64 0) := (hb4.block _ z3).trans HS3.out
      have hB9 : Below w.heap.size w w4 := HB3.out.trans (hb4.mono HB3.out.size)
      obtain ⟨w9, rfl⟩ : ∃ w9, w9 = w4 := ⟨_, rfl⟩
      have c0 := heap_cell (j := 0) hs9 rfl
      have c1 := heap_cell (j := 1) hs9 rfl
      have f0 : w9.frozen? ⟨w.heap.size, 0, none⟩ = false := by simp [World.frozen?, show w9.heap[w.heap.size]? = _ from hs9]
      have f1 : w9.frozen? ⟨w.heap.size, 1, none⟩ = false := by simp [World.frozen?, show w9.heap[w.heap.size]? = _ from hs9]
      have l9 := heap_lt hs9
      have HS2 : Hid (SB ((w9.setCell ⟨w.heap.size, 0, none⟩ (.slice none 0 0)).setCell ⟨w.heap.size, 1, none⟩ (.int .u64 0)) w.heap.size (.slice none 0 0) (.int .u64 0)) := hs9.set _ _
      have HB2 : Hid (Below w.heap.size w ((w9.setCell ⟨w.heap.size, 0, none⟩ (.slice none 0 0)).setCell ⟨w.heap.size, 1, none⟩ (.int .u64 0))) := (hB9.setCell (p := ⟨w.heap.size, 0, none⟩) (Nat.le_refl _) _).setCell (p := ⟨w.heap.size, 1, none⟩) (Nat.le_refl _) _
      clear hb4 hs9 hB9 HFh
      go_wp2
      have x0 := heap_cell (j := 0) HS2.out rfl
      have x1 := heap_cell (j := 1) HS2.out rfl
      generalize (w9.setCell ⟨w.heap.size, 0, none⟩ (.slice none 0 0)).setCell ⟨w.heap.size, 1, none⟩ (.int .u64 0) = wE at *
      exact bodyPost_ret (v := .tuple #[sightV (.slice none 0 0) (0), .bool false]) (by simp [results, Tryd.results11, go_sem] at *; simp [x0, x1]) rfl ⟨.inl ⟨HF.out, rfl⟩, HB2.out⟩
    · have HFo := form_ok (bareM h) [x] rv _ cv 1 _ hH3 hW3 HT3.out hbl (by simp) hB
      rw [bare_len] at HFo
      have hXl : (fH (bareM h) [x]).length ≤ 1000000 := by
        rw [fH_len]
        have := (walk_ok false hB).len
        omega
      have HBq : Hid (heapB (bareM h) [x] = true) := hB
      have HFh : Hid _ := HFo
      clear HFo hH3 hW3 hB hbl hr2 hb2 hb3 a2
      go_wp2_with fail
      refine Calls.mono HFh.out ?_
      rintro e w4 ⟨⟨g1, g2, rfl, hX, hY⟩, hb4⟩
      rw [fR_one] at hY
      have HS4 : Hid (SB w4 w.heap.size (.slice none 0 0) (.int .u64 0)) := (hb4.block _ z3).trans HS3.out
      have HB4 : Hid (Below w.heap.size w w4) := HB3.out.trans (hb4.mono HB3.out.size)
      have z4 : w.heap.size < w4.heap.size := Nat.lt_of_lt_of_le z3 hb4.size
      have HX4 : Hid (HR w4 (some ⟨g1, 0, none⟩) (fH (bareM h) [x]) ∧ WR w4 (some ⟨g2, 0, none⟩) [fromM h x]) := ⟨hX, hY⟩
      have HA : Hid _ := anyWrong_any (fH (bareM h) [x]) (some ⟨g1, 0, none⟩) (fH (bareM h) [x]).length w4 hXl hX (HT3.out.below hb4)
      clear hX hY hb4 HFh HS3 HB3 HT3
      rw [fR_len]
      cases hwr : (fH (bareM h) [x]).any wrongC
      · have HF : Hid (fitsB h x = true) := by show _ = _; unfold fitsB; rw [HN.out, HBq.out, hwr]; rfl
        rw [hwr] at HA
        clear hwr
        go_wp2_with fail
        refine Calls.mono HA.out ?_
        rintro e w5 ⟨rfl, hb5⟩
        have hs9 : SB w5 w.heap.size (.slice none 0 0) (.int .u64 0) := (hb5.block _ z4).trans HS4.out
        have hB9 : Below w.heap.size w w5 := HB4.out.trans (hb5.mono HB4.out.size)
        obtain ⟨b', o', q1, q2⟩ := HX4.out.2.below hb5
        have e4 : (some ⟨g2, 0, none⟩ : Option Addr) = some ⟨b', o', none⟩ := q1.resolve_left (by simp)
        cases e4
        obtain ⟨ly, cy, _⟩ := q2 0 (fromM h x) rfl
        rw [Nat.add_zero] at cy
        have hX5 := HX4.out.1.below hb5
        have hgX : (fH (bareM h) [x]).length = 0 ∨ g1 ≠ w.heap.size := by
          by_cases h0 : (fH (bareM h) [x]).length = 0
          · exact .inl h0
          · refine .inr (fun e => ?_)
            obtain ⟨bb, oo, r1, r2⟩ := hX5
            have e5 : (some ⟨g1, 0, none⟩ : Option Addr) = some ⟨bb, oo, none⟩ := r1.resolve_left h0
            cases e5
            obtain ⟨y, hy⟩ : ∃ y, (fH (bareM h) [x])[0]? = some y := ⟨_, List.getElem?_eq_getElem (by omega)⟩
            have h6 := (r2 0 y hy).2.1.1
            rw [e] at h6
            have h7 := heap_cell (j := 0) hs9 rfl
            simp only [Nat.zero_mul, Nat.add_zero] at h6
            rw [h6] at h7
            cases h7
        have HX6 : Hid (HR ((w5.setCell ⟨w.heap.size, 0, none⟩ (.slice (some ⟨g1, 0, none⟩) (fH (bareM h) [x]).length (fH (bareM h) [x]).length)).setCell ⟨w.heap.size, 1, none⟩ (.int .u64 (fromM h x))) (some ⟨g1, 0, none⟩) (fH (bareM h) [x])) := hr_set (hr_set hX5 hgX _ _) hgX _ _
        have HFr : Hid (∀ e w', (e = .returned (.tuple #[sightV (.slice (some ⟨g1, 0, none⟩) (fH (bareM h) [x]).length (fH (bareM h) [x]).length) (fromM h x), .bool true]) ∧ HR w' (some ⟨g1, 0, none⟩) (fH (bareM h) [x])) → LookR' h x e w') := fun e w' hh => .inr ⟨HF.out, g1, hh.1, hh.2⟩
        generalize fH (bareM h) [x] = X at *
        generalize fromM h x = F at *
        obtain ⟨w9, rfl⟩ : ∃ w9, w9 = w5 := ⟨_, rfl⟩
        have c0 := heap_cell (j := 0) hs9 rfl
        have c1 := heap_cell (j := 1) hs9 rfl
        have f0 : w9.frozen? ⟨w.heap.size, 0, none⟩ = false := by simp [World.frozen?, show w9.heap[w.heap.size]? = _ from hs9]
        have f1 : w9.frozen? ⟨w.heap.size, 1, none⟩ = false := by simp [World.frozen?, show w9.heap[w.heap.size]? = _ from hs9]
        have l9 := heap_lt hs9
        have HS2 : Hid (SB ((w9.setCell ⟨w.heap.size, 0, none⟩ (.slice (some ⟨g1, 0, none⟩) X.length X.length)).setCell ⟨w.heap.size, 1, none⟩ (.int .u64 F)) w.heap.size (.slice (some ⟨g1, 0, none⟩) X.length X.length) (.int .u64 F)) := hs9.set _ _
        have HB2 : Hid (Below w.heap.size w ((w9.setCell ⟨w.heap.size, 0, none⟩ (.slice (some ⟨g1, 0, none⟩) X.length X.length)).setCell ⟨w.heap.size, 1, none⟩ (.int .u64 F))) := (hB9.setCell (p := ⟨w.heap.size, 0, none⟩) (Nat.le_refl _) _).setCell (p := ⟨w.heap.size, 1, none⟩) (Nat.le_refl _) _
        clear hb5 hs9 hB9 HA q1 q2 hX5 hgX
        go_wp2
        have x0 := heap_cell (j := 0) HS2.out rfl
        have x1 := heap_cell (j := 1) HS2.out rfl
        generalize (w9.setCell ⟨w.heap.size, 0, none⟩ (.slice (some ⟨g1, 0, none⟩) X.length X.length)).setCell ⟨w.heap.size, 1, none⟩ (.int .u64 F) = wE at *
        exact bodyPost_ret (v := .tuple #[sightV (.slice (some ⟨g1, 0, none⟩) X.length X.length) (F), .bool true]) (by simp [results, Tryd.results11, go_sem] at *; simp [x0, x1]) rfl ⟨HFr.out _ _ ⟨rfl, HX6.out⟩, HB2.out⟩
      · have HF : Hid (fitsB h x = false) := by show _ = _; unfold fitsB; rw [HN.out, HBq.out, hwr]; rfl
        rw [hwr] at HA
        clear hwr
        go_wp2_with fail
        refine Calls.mono HA.out ?_
        rintro e w5 ⟨rfl, hb5⟩
        have hs9 : SB w5 w.heap.size (.slice none 0 0) (.int .u64 0) := (hb5.block _ z4).trans HS4.out
        have hB9 : Below w.heap.size w w5 := HB4.out.trans (hb5.mono HB4.out.size)
        obtain ⟨w9, rfl⟩ : ∃ w9, w9 = w5 := ⟨_, rfl⟩
        have c0 := heap_cell (j := 0) hs9 rfl
        have c1 := heap_cell (j := 1) hs9 rfl
        have f0 : w9.frozen? ⟨w.heap.size, 0, none⟩ = false := by simp [World.frozen?, show w9.heap[w.heap.size]? = _ from hs9]
        have f1 : w9.frozen? ⟨w.heap.size, 1, none⟩ = false := by simp [World.frozen?, show w9.heap[w.heap.size]? = _ from hs9]
        have l9 := heap_lt hs9
        have HS2 : Hid (SB ((w9.setCell ⟨w.heap.size, 0, none⟩ (.slice none 0 0)).setCell ⟨w.heap.size, 1, none⟩ (.int .u64 0)) w.heap.size (.slice none 0 0) (.int .u64 0)) := hs9.set _ _
        have HB2 : Hid (Below w.heap.size w ((w9.setCell ⟨w.heap.size, 0, none⟩ (.slice none 0 0)).setCell ⟨w.heap.size, 1, none⟩ (.int .u64 0))) := (hB9.setCell (p := ⟨w.heap.size, 0, none⟩) (Nat.le_refl _) _).setCell (p := ⟨w.heap.size, 1, none⟩) (Nat.le_refl _) _
        clear hb5 hs9 hB9 HA
        go_wp2
        have x0 := heap_cell (j := 0) HS2.out rfl
        have x1 := heap_cell (j := 1) HS2.out rfl
        generalize (w9.setCell ⟨w.heap.size, 0, none⟩ (.slice none 0 0)).setCell ⟨w.heap.size, 1, none⟩ (.int .u64 0) = wE at *
        exact bodyPost_ret (v := .tuple #[sightV (.slice none 0 0) (0), .bool false]) (by simp [results, Tryd.results11, go_sem] at *; simp [x0, x1]) rfl ⟨.inl ⟨HF.out, rfl⟩, HB2.out⟩
end Go.Proofs.YtinijcmnojlphaaDoor
