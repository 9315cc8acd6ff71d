/- Are rows of cells the same?; Alike. -/
import Derived.Test.YtejmoopgfnjaaaaDoorK08
/- Are rows of cells the same? -/
namespace Go.Proofs.YtejmoopgfnjaaaaDoor
open Go.RowKit

theorem neqCl_any (x y : Cl) (w : World) : (binOp .neq 39 (.agg #[.int .u8 x.k, .int .u8 x.c, .int .u64 x.a, .int .u64 x.b]) (.agg #[.int .u8 y.k, .int .u8 y.c, .int .u64 y.a, .int .u64 y.b])).run Tryd.prog w = .ok (.bool (!sameCl x y)) w := by
  have u1 := Tryd.underlying36
  have u2 := Tryd.underlying37
  have u3 := Tryd.underlying25
  have hS : Tryd.prog.underlying 39 = some (.struct (Tryd.prog.fieldsOf 39)) := by kernel_rfl
  have hp : Tryd.prog.stoodInHeld 39 = false := by kernel_rfl
  rw [run_neq_struct, show (10000 : Nat) = 9999 + 1 from rfl, run_equalIn_agg w 9999 39 _ _ hS hp]
  simp only [Program.fieldsOf, Tryd.underlying39]
  unfold sameCl
  cases h1 : (x.k == y.k) <;> cases h2 : (x.c == y.c) <;> cases h3 : (x.a == y.a) <;> cases h4 : (x.b == y.b)
  all_goals go_simp
theorem neqCl_same (x : Cl) (w : World) : (binOp .neq 39 (.agg #[.int .u8 x.k, .int .u8 x.c, .int .u64 x.a, .int .u64 x.b]) (.agg #[.int .u8 x.k, .int .u8 x.c, .int .u64 x.a, .int .u64 x.b])).run Tryd.prog w = .ok (.bool false) w := by
  rw [neqCl_any, sameCl_iff.2 rfl]; rfl
theorem neqCl_ne (x y : Cl) (h : x ≠ y) (w : World) : (binOp .neq 39 (.agg #[.int .u8 x.k, .int .u8 x.c, .int .u64 x.a, .int .u64 x.b]) (.agg #[.int .u8 y.k, .int .u8 y.c, .int .u64 y.a, .int .u64 y.b])).run Tryd.prog w = .ok (.bool true) w := by
  rw [neqCl_any, Bool.eq_false_iff.2 (fun e => h (sameCl_iff.1 e))]; rfl
set_option maxRecDepth 100000 in
set_option maxHeartbeats 4000000 in
theorem equalK_any (l m : List Cl) (ra rb : Option Addr) (ca cb : Nat) (w : World) (hl : l.length ≤ maxLen) (_ : m.length ≤ maxLen) (hR : HX w ra l) (hS : HX w rb m) :
    Calls Tryd.prog 23 #[.slice ra l.length ca, .slice rb m.length cb] w fun e w' => e = .returned (.bool (decide (l = m))) ∧ Below w.heap.size w w' := by
  unfold maxLen at hl
  by_cases hlen : l.length = m.length
  · obtain ⟨b, o, h1, h2⟩ := HX.at hR
    obtain ⟨b', o', h1', h2'⟩ := HX.at hS
    rw [← hlen] at h1' ⊢
    have H1 : Hid _ := h1
    have H2 : Hid _ := h2
    have H1' : Hid _ := h1'
    have H2' : Hid _ := h2'
    have Hlen : Hid (l.length = m.length) := hlen
    have z : ((l.length : Int) == (l.length : Int)) = true := by simp
    clear h1 h2 h1' h2' hR hS hlen
    go_enter Tryd.func23, Tryd.ntmps23
    go_wp2
    go_loopw [13, 5] (fun i _ wr => ∃ j : Nat, i = .int .i64 j ∧ j ≤ l.length ∧ Hid (l.take j = m.take j) ∧ Hid (Below w.heap.size w wr)) (fun i _ _ => l.length - (intOf i).toNat)
    case atStart => exact ⟨0, rfl, Nat.zero_le _, by show _ = _; simp, Below.refl _ _⟩
    case round =>
      obtain ⟨j, rfl, hj, HN, HW⟩ := hrel
      by_cases hlt : j < l.length
      · have i1 : (j : Int) < (l.length : Int) := by omega
        have hra := H1.out (by omega)
        subst hra
        have hrb := H1'.out (by omega)
        subst hrb
        obtain ⟨x, hx⟩ : ∃ x, l[j]? = some x := ⟨_, List.getElem?_eq_getElem hlt⟩
        obtain ⟨y, hy⟩ : ∃ y, m[j]? = some y := ⟨_, List.getElem?_eq_getElem (by rw [← Hlen.out]; exact hlt)⟩
        obtain ⟨hb, c0, c1, c2, c3⟩ := H2.out j x hx
        obtain ⟨hb', d0, d1, d2, d3⟩ := H2'.out j y hy
        have e := fun q => HW.out.cell (p := ⟨b, q, none⟩) hb
        have e' := fun q => HW.out.cell (p := ⟨b', q, none⟩) hb'
        have f10 := (e _).trans c0
        have f11 := (e _).trans c1
        have f12 := (e _).trans c2
        have f13 := (e _).trans c3
        have f20 := (e' _).trans d0
        have f21 := (e' _).trans d1
        have f22 := (e' _).trans d2
        have f23 := (e' _).trans d3
        clear e e' c0 c1 c2 c3 d0 d1 d2 d3
        have f3 : b < wr.heap.size := Nat.lt_of_lt_of_le hb HW.out.size
        have f4 : b' < wr.heap.size := Nat.lt_of_lt_of_le hb' HW.out.size
        have HX : Hid (l[j]? = some x) := hx
        have HY : Hid (m[j]? = some y) := hy
        clear hx hy hb hb'
        by_cases he : x = y
        · subst he
          have hq := fun wx => neqCl_same x wx
          go_wp2_with fail
          go_quiet (fail)
          go_wp2
          go_roundw
          case rel =>
            refine ⟨j + 1, by go_num, by omega, ?_, below_drewM HW.out _⟩
            show _ = _
            rw [List.take_add_one, List.take_add_one, HN.out, HX.out, HY.out]
          case measure => simp [intOf]; omega
        · have HE : Hid (decide (l = m) = false) := decide_eq_false (eq_drop Hlen.out HX.out HY.out he)
          have hq := fun wx => neqCl_ne x y he wx
          clear he
          go_wp2_with fail
          go_quiet (fail)
          go_wp2
          go_ret
          exact ⟨by rw [HE.out]; rfl, below_drewM HW.out _⟩
      · have i1 : ¬ (j : Int) < (l.length : Int) := by omega
        have HE : Hid (decide (l = m) = true) := decide_eq_true (eq_of_take Hlen.out hlt HN.out)
        go_wp2
        go_ret
        exact ⟨by rw [HE.out]; rfl, HW.out⟩
  · have HE : Hid (decide (l = m) = false) := decide_eq_false (fun e => hlen (by rw [e]))
    have z : ((l.length : Int) == (m.length : Int)) = false := by simp; omega
    clear hlen hR hS
    go_enter Tryd.func23, Tryd.ntmps23
    go_wp2
    go_ret
    exact ⟨by rw [HE.out]; rfl, Below.refl _ _⟩
end Go.Proofs.YtejmoopgfnjaaaaDoor

/- Alike. -/
namespace Go.Proofs.YtejmoopgfnjaaaaDoor
open Go.RowKit

/-- Do two words look the same? -/
def alikeB (h : List Cl) (x : Int) (g : List Cl) (y : Int) : Bool := decide (fromM h x = fromM g y) && decide (fH (bareM h) [x] = fH (bareM g) [y])
def AlikeR (h : List Cl) (x : Int) (g : List Cl) (y : Int) (e : Ending) : Prop :=
  ((fitsB h x && fitsB g y) = false ∧ e = .returned (.tuple #[.bool false, .int .i64 110])) ∨ ((fitsB h x && fitsB g y) = true ∧ e = .returned (.tuple #[.bool (alikeB h x g y), .int .i64 0]))
theorem sight_new (w : World) (u v : Value) : SB (w.alloc (.cells #[u, v] 54)) w.heap.size u v := heap_alloc_new _ _
set_option maxRecDepth 100000 in
set_option maxHeartbeats 8000000 in
theorem alike_any (h g : List Cl) (x y : Int) (ra rb : Option Addr) (ca cb : Nat) (w : World) (hl : h.length ≤ 1000000) (hl2 : g.length ≤ 1000000) (hH : HR w ra h) (hG : HR w rb g) (hx : Rng x) (hy : Rng y) (hT : Tab w) :
    Calls Tryd.prog 9 #[.slice ra h.length ca, .int .u64 x, .slice rb g.length cb, .int .u64 y] w fun e w' => AlikeR h x g y e ∧ Below w.heap.size w w' := by
  have HL : Hid _ := look_sight h x ra ca w hl hH hx hT
  have HH : Hid (HR w rb g ∧ Tab w) := ⟨hG, hT⟩
  clear hH hG hT
  go_enter Tryd.func9, Tryd.ntmps9
  go_wp2_with fail
  refine Calls.mono HL.out ?_
  rintro e w1 ⟨hr1, hb1⟩
  rcases hr1 with ⟨hf1, rfl⟩ | ⟨hf1, g1, rfl, hX1⟩
  · have a1 := (Below.refl _ w1).alloc (Nat.le_refl w1.heap.size) (.cells #[.slice none 0 0, .int .u64 0] 54)
    have hb2 := hb1.trans (a1.mono hb1.size)
    have HB2 : Hid (Below w.heap.size w (w1.alloc (.cells #[.slice none 0 0, .int .u64 0] 54))) := hb2
    have HL2 : Hid _ := look_sight g y rb cb (w1.alloc (.cells #[.slice none 0 0, .int .u64 0] 54)) hl2 (HH.out.1.below hb2) hy (HH.out.2.below hb2)
    have HF : Hid ((fitsB h x && fitsB g y) = false) := by show _ = _; rw [hf1]; rfl
    clear hf1 hb1 hb2 a1 HL
    go_wp2_with fail
    generalize w1.alloc (.cells #[.slice none 0 0, .int .u64 0] 54) = W2 at *
    refine Calls.mono HL2.out ?_
    rintro e w3 ⟨hr3, hb3⟩
    have HB3 : Hid (∀ o, Below w.heap.size w (w3.alloc o)) := fun o => (HB2.out.trans (hb3.mono HB2.out.size)).alloc ((HB2.out.trans (hb3.mono HB2.out.size)).size) o
    clear hb3 HL2
    rcases hr3 with ⟨_, rfl⟩ | ⟨_, g3, rfl, _⟩
    · go_wp2
      go_ret2
      exact ⟨.inl ⟨HF.out, rfl⟩, HB3.out _⟩
    · generalize fH (bareM g) [y] = Y at *
      generalize fromM g y = F at *
      go_wp2
      go_ret2
      exact ⟨.inl ⟨HF.out, rfl⟩, HB3.out _⟩
  · have hXl : (fH (bareM h) [x]).length ≤ 1000000 := by
      rw [fH_len]
      have hq : heapB (bareM h) [x] = true := by
        unfold fitsB at hf1
        rw [Bool.and_eq_true, Bool.and_eq_true] at hf1
        exact hf1.2.1
      have := (walk_ok false hq).len
      rw [bare_len] at this; omega
    have HA : Hid (∀ b, (decide (fromM h x = fromM g y) && decide (fH (bareM h) [x] = fH (bareM g) [y])) = b → alikeB h x g y = b) := fun b hb => hb
    generalize hXq : fH (bareM h) [x] = X at *
    generalize fromM h x = F1 at *
    have HXq : Hid (fH (bareM h) [x] = X) := hXq
    clear hXq
    have a1 := (Below.refl _ w1).alloc (Nat.le_refl w1.heap.size) (.cells #[.slice (some ⟨g1, 0, none⟩) X.length X.length, .int .u64 F1] 54)
    have hb2 := hb1.trans (a1.mono hb1.size)
    have HB2 : Hid (Below w.heap.size w (w1.alloc (.cells #[.slice (some ⟨g1, 0, none⟩) X.length X.length, .int .u64 F1] 54))) := hb2
    have HS2 : Hid (SB (w1.alloc (.cells #[.slice (some ⟨g1, 0, none⟩) X.length X.length, .int .u64 F1] 54)) w1.heap.size (.slice (some ⟨g1, 0, none⟩) X.length X.length) (.int .u64 F1)) := sight_new _ _ _
    have HX2 : Hid (HR (w1.alloc (.cells #[.slice (some ⟨g1, 0, none⟩) X.length X.length, .int .u64 F1] 54)) (some ⟨g1, 0, none⟩) X) := hX1.below a1
    have z2 : w1.heap.size < (w1.alloc (.cells #[.slice (some ⟨g1, 0, none⟩) X.length X.length, .int .u64 F1] 54)).heap.size := by simp
    have HL2 : Hid _ := look_sight g y rb cb (w1.alloc (.cells #[.slice (some ⟨g1, 0, none⟩) X.length X.length, .int .u64 F1] 54)) hl2 (HH.out.1.below hb2) hy (HH.out.2.below hb2)
    have HF1 : Hid (fitsB h x = true) := hf1
    clear hf1 hb1 hb2 a1 HL hX1
    go_wp2_with fail
    generalize w1.alloc (.cells #[.slice (some ⟨g1, 0, none⟩) X.length X.length, .int .u64 F1] 54) = W2 at *
    refine Calls.mono HL2.out ?_
    rintro e w3 ⟨hr3, hb3⟩
    have hB3 := HB2.out.trans (hb3.mono HB2.out.size)
    rcases hr3 with ⟨hf3, rfl⟩ | ⟨hf3, g3, rfl, hX3⟩
    · have HB4 : Hid (∀ o, Below w.heap.size w (w3.alloc o)) := fun o => hB3.alloc hB3.size o
      have HF : Hid ((fitsB h x && fitsB g y) = false) := by show _ = _; rw [HF1.out, hf3]; rfl
      clear hb3 HL2 hB3 hf3
      go_wp2
      go_ret2
      exact ⟨.inl ⟨HF.out, rfl⟩, HB4.out _⟩
    · have hYl : (fH (bareM g) [y]).length ≤ 1000000 := by
        rw [fH_len]
        have hq : heapB (bareM g) [y] = true := by
          unfold fitsB at hf3
          rw [Bool.and_eq_true, Bool.and_eq_true] at hf3
          exact hf3.2.1
        have := (walk_ok false hq).len
        rw [bare_len] at this; omega
      generalize fH (bareM g) [y] = Y at *
      generalize fromM g y = F2 at *
      have a3 := (Below.refl _ w3).alloc (Nat.le_refl w3.heap.size) (.cells #[.slice (some ⟨g3, 0, none⟩) Y.length Y.length, .int .u64 F2] 54)
      have hb4 := hb3.trans (a3.mono hb3.size)
      have hs1 : SB (w3.alloc (.cells #[.slice (some ⟨g3, 0, none⟩) Y.length Y.length, .int .u64 F2] 54)) w1.heap.size (.slice (some ⟨g1, 0, none⟩) X.length X.length) (.int .u64 F1) := (hb4.block _ z2).trans HS2.out
      have hs3 : SB (w3.alloc (.cells #[.slice (some ⟨g3, 0, none⟩) Y.length Y.length, .int .u64 F2] 54)) w3.heap.size (.slice (some ⟨g3, 0, none⟩) Y.length Y.length) (.int .u64 F2) := sight_new _ _ _
      have HB4 : Hid (Below w.heap.size w (w3.alloc (.cells #[.slice (some ⟨g3, 0, none⟩) Y.length Y.length, .int .u64 F2] 54))) := hB3.trans (a3.mono hB3.size)
      have HE : Hid _ := equalK_any X Y (some ⟨g1, 0, none⟩) (some ⟨g3, 0, none⟩) X.length Y.length (w3.alloc (.cells #[.slice (some ⟨g3, 0, none⟩) Y.length Y.length, .int .u64 F2] 54)) (by unfold maxLen; omega) (by unfold maxLen; omega) (HX2.out.below hb4).hx (hX3.below a3).hx
      have c10 := heap_cell (j := 0) hs1 rfl
      have c11 := heap_cell (j := 1) hs1 rfl
      have c30 := heap_cell (j := 0) hs3 rfl
      have c31 := heap_cell (j := 1) hs3 rfl
      have l1 := heap_lt hs1
      have l3 := heap_lt hs3
      have HF : Hid ((fitsB h x && fitsB g y) = true) := by show _ = _; rw [HF1.out, hf3]; rfl
      clear hb3 hb4 HL2 hB3 hf3 hs1 hs3 a3 hX3 HS2 HX2
      go_upto_region 3 with fail
      generalize w3.alloc (.cells #[.slice (some ⟨g3, 0, none⟩) Y.length Y.length, .int .u64 F2] 54) = W4 at *
      cases hff : (F1 == F2)
      · have hne : ¬ F1 = F2 := by simpa using hff
        have HAl : Hid (alikeB h x g y = false) := HA.out false (by simp [hne])
        clear HE hne
        go_wp2
        go_ret2
        exact ⟨.inr ⟨HF.out, by rw [HAl.out]; rfl⟩, HB4.out⟩
      · have he : F1 = F2 := by simpa using hff
        have HAl : Hid (alikeB h x g y = decide (X = Y)) := HA.out _ (by simp [he])
        clear he
        go_wp2_with fail
        refine Calls.mono HE.out ?_
        rintro e w5 ⟨rfl, hb5⟩
        have HB5 : Hid (Below w.heap.size w w5) := HB4.out.trans (hb5.mono HB4.out.size)
        clear hb5 HE
        go_wp2
        go_ret2
        exact ⟨.inr ⟨HF.out, by rw [HAl.out]; rfl⟩, HB5.out⟩
end Go.Proofs.YtejmoopgfnjaaaaDoor
