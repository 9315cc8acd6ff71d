/- Alike. -/
import Derived.Test.YtinijcmnojlphaaDoorHSEqual
namespace Go.Proofs.YtinijcmnojlphaaDoor
open Go.RowKit

/-- Do two words look the same? -/
def alikeB (h : List Cl) (x : Int) (g : List Cl) (y : Int) : Bool := decide (fromM h x = fromM g y) && decide (fH (bareM h) [x] = fH (bareM g) [y])
def AlikeR (h : List Cl) (x : Int) (g : List Cl) (y : Int) (e : Ending) : Prop :=
  ((fitsB h x && fitsB g y) = false ∧ e = .returned (.tuple #[.bool false, .int .i64 110])) ∨ ((fitsB h x && fitsB g y) = true ∧ e = .returned (.tuple #[.bool (alikeB h x g y), .int .i64 0]))
theorem sight_new (w : World) (u v : Value) : SB (w.alloc (.cells #[u, v] 44)) w.heap.size u v := heap_alloc_new _ _
set_option maxRecDepth 100000 in
set_option maxHeartbeats 8000000 in
theorem alike_any (h g : List Cl) (x y : Int) (ra rb : Option Addr) (ca cb : Nat) (w : World) (hl : h.length ≤ 1000000) (hl2 : g.length ≤ 1000000) (hH : HR w ra h) (hG : HR w rb g) (hx : Rng x) (hy : Rng y) (hT : Tab w) :
    Calls Tryd.prog 8 #[.slice ra h.length ca, .int .u64 x, .slice rb g.length cb, .int .u64 y] w fun e w' => AlikeR h x g y e ∧ Below w.heap.size w w' := by
  have HL : Hid _ := look_sight h x ra ca w hl hH hx hT
  have HH : Hid (HR w rb g ∧ Tab w) := ⟨hG, hT⟩
  clear hH hG hT
  go_enter Tryd.func8, Tryd.ntmps8
  go_wp2_with fail
  refine Calls.mono HL.out ?_
  rintro e w1 ⟨hr1, hb1⟩
  rcases hr1 with ⟨hf1, rfl⟩ | ⟨hf1, g1, rfl, hX1⟩
  · have a1 := (Below.refl _ w1).alloc (Nat.le_refl w1.heap.size) (.cells #[.slice none 0 0, .int .u64 0] 44)
    have hb2 := hb1.trans (a1.mono hb1.size)
    have HB2 : Hid (Below w.heap.size w (w1.alloc (.cells #[.slice none 0 0, .int .u64 0] 44))) := hb2
    have HL2 : Hid _ := look_sight g y rb cb (w1.alloc (.cells #[.slice none 0 0, .int .u64 0] 44)) hl2 (HH.out.1.below hb2) hy (HH.out.2.below hb2)
    have HF : Hid ((fitsB h x && fitsB g y) = false) := by show _ = _; rw [hf1]; rfl
    clear hf1 hb1 hb2 a1 HL
    go_wp2_with fail
    generalize w1.alloc (.cells #[.slice none 0 0, .int .u64 0] 44) = W2 at *
    refine Calls.mono HL2.out ?_
    rintro e w3 ⟨hr3, hb3⟩
    have HB3 : Hid (∀ o, Below w.heap.size w (w3.alloc o)) := fun o => (HB2.out.trans (hb3.mono HB2.out.size)).alloc ((HB2.out.trans (hb3.mono HB2.out.size)).size) o
    clear hb3 HL2
    rcases hr3 with ⟨_, rfl⟩ | ⟨_, g3, rfl, _⟩
    · go_wp2
      go_ret2
      exact ⟨.inl ⟨HF.out, rfl⟩, HB3.out _⟩
    · generalize fH (bareM g) [y] = Y at *
      generalize fromM g y = F at *
      go_wp2
      go_ret2
      exact ⟨.inl ⟨HF.out, rfl⟩, HB3.out _⟩
  · have hXl : (fH (bareM h) [x]).length ≤ 1000000 := by
      rw [fH_len]
      have hq : heapB (bareM h) [x] = true := by
        unfold fitsB at hf1
        rw [Bool.and_eq_true, Bool.and_eq_true] at hf1
        exact hf1.2.1
      have := (walk_ok false hq).len
      rw [bare_len] at this; omega
    have HA : Hid (∀ b, (decide (fromM h x = fromM g y) && decide (fH (bareM h) [x] = fH (bareM g) [y])) = b → alikeB h x g y = b) := fun b hb => hb
    generalize hXq : fH (bareM h) [x] = X at *
    generalize fromM h x = F1 at *
    have HXq : Hid (fH (bareM h) [x] = X) := hXq
    clear hXq
    have a1 := (Below.refl _ w1).alloc (Nat.le_refl w1.heap.size) (.cells #[.slice (some ⟨g1, 0, none⟩) X.length X.length, .int .u64 F1] 44)
    have hb2 := hb1.trans (a1.mono hb1.size)
    have HB2 : Hid (Below w.heap.size w (w1.alloc (.cells #[.slice (some ⟨g1, 0, none⟩) X.length X.length, .int .u64 F1] 44))) := hb2
    have HS2 : Hid (SB (w1.alloc (.cells #[.slice (some ⟨g1, 0, none⟩) X.length X.length, .int .u64 F1] 44)) w1.heap.size (.slice (some ⟨g1, 0, none⟩) X.length X.length) (.int .u64 F1)) := sight_new _ _ _
    have HX2 : Hid (HR (w1.alloc (.cells #[.slice (some ⟨g1, 0, none⟩) X.length X.length, .int .u64 F1] 44)) (some ⟨g1, 0, none⟩) X) := hX1.below a1
    have z2 : w1.heap.size < (w1.alloc (.cells #[.slice (some ⟨g1, 0, none⟩) X.length X.length, .int .u64 F1] 44)).heap.size := by simp
    have HL2 : Hid _ := look_sight g y rb cb (w1.alloc (.cells #[.slice (some ⟨g1, 0, none⟩) X.length X.length, .int .u64 F1] 44)) hl2 (HH.out.1.below hb2) hy (HH.out.2.below hb2)
    have HF1 : Hid (fitsB h x = true) := hf1
    clear hf1 hb1 hb2 a1 HL hX1
    go_wp2_with fail
    generalize w1.alloc (.cells #[.slice (some ⟨g1, 0, none⟩) X.length X.length, .int .u64 F1] 44) = W2 at *
    refine Calls.mono HL2.out ?_
    rintro e w3 ⟨hr3, hb3⟩
    have hB3 := HB2.out.trans (hb3.mono HB2.out.size)
    rcases hr3 with ⟨hf3, rfl⟩ | ⟨hf3, g3, rfl, hX3⟩
    · have HB4 : Hid (∀ o, Below w.heap.size w (w3.alloc o)) := fun o => hB3.alloc hB3.size o
      have HF : Hid ((fitsB h x && fitsB g y) = false) := by show _ = _; rw [HF1.out, hf3]; rfl
      clear hb3 HL2 hB3 hf3
      go_wp2
      go_ret2
      exact ⟨.inl ⟨HF.out, rfl⟩, HB4.out _⟩
    · have hYl : (fH (bareM g) [y]).length ≤ 1000000 := by
        rw [fH_len]
        have hq : heapB (bareM g) [y] = true := by
          unfold fitsB at hf3
          rw [Bool.and_eq_true, Bool.and_eq_true] at hf3
          exact hf3.2.1
        have := (walk_ok false hq).len
        rw [bare_len] at this; omega
      generalize fH (bareM g) [y] = Y at *
      generalize fromM g y = F2 at *
      have a3 := (Below.refl _ w3).alloc (Nat.le_refl w3.heap.size) (.cells #[.slice (some ⟨g3, 0, none⟩) Y.length Y.length, .int .u64 F2] 44)
      have hb4 := hb3.trans (a3.mono hb3.size)
      have hs1 : SB (w3.alloc (.cells #[.slice (some ⟨g3, 0, none⟩) Y.length Y.length, .int .u64 F2] 44)) w1.heap.size (.slice (some ⟨g1, 0, none⟩) X.length X.length) (.int .u64 F1) := (hb4.block _ z2).trans HS2.out
      have hs3 : SB (w3.alloc (.cells #[.slice (some ⟨g3, 0, none⟩) Y.length Y.length, .int .u64 F2] 44)) w3.heap.size (.slice (some ⟨g3, 0, none⟩) Y.length Y.length) (.int .u64 F2) := sight_new _ _ _
      have HB4 : Hid (Below w.heap.size w (w3.alloc (.cells #[.slice (some ⟨g3, 0, none⟩) Y.length Y.length, .int .u64 F2] 44))) := hB3.trans (a3.mono hB3.size)
      have HE : Hid _ := equalK_any X Y (some ⟨g1, 0, none⟩) (some ⟨g3, 0, none⟩) X.length Y.length (w3.alloc (.cells #[.slice (some ⟨g3, 0, none⟩) Y.length Y.length, .int .u64 F2] 44)) (by unfold maxLen; omega) (by unfold maxLen; omega) (HX2.out.below hb4).hx (hX3.below a3).hx
      have c10 := heap_cell (j := 0) hs1 rfl
      have c11 := heap_cell (j := 1) hs1 rfl
      have c30 := heap_cell (j := 0) hs3 rfl
      have c31 := heap_cell (j := 1) hs3 rfl
      have l1 := heap_lt hs1
      have l3 := heap_lt hs3
      have HF : Hid ((fitsB h x && fitsB g y) = true) := by show _ = _; rw [HF1.out, hf3]; rfl
      clear hb3 hb4 HL2 hB3 hf3 hs1 hs3 a3 hX3 HS2 HX2
      go_upto_region 3 with fail
      generalize w3.alloc (.cells #[.slice (some ⟨g3, 0, none⟩) Y.length Y.length, .int .u64 F2] 44) = W4 at *
      cases hff : (F1 == F2)
      · have hne : ¬ F1 = F2 := by simpa using hff
        have HAl : Hid (alikeB h x g y = false) := HA.out false (by simp [hne])
        clear HE hne
        go_wp2
        go_ret2
        exact ⟨.inr ⟨HF.out, by rw [HAl.out]; rfl⟩, HB4.out⟩
      · have he : F1 = F2 := by simpa using hff
        have HAl : Hid (alikeB h x g y = decide (X = Y)) := HA.out _ (by simp [he])
        clear he
        go_wp2_with fail
        refine Calls.mono HE.out ?_
        rintro e w5 ⟨rfl, hb5⟩
        have HB5 : Hid (Below w.heap.size w w5) := HB4.out.trans (hb5.mono HB4.out.size)
        clear hb5 HE
        go_wp2
        go_ret2
        exact ⟨.inr ⟨HF.out, by rw [HAl.out]; rfl⟩, HB5.out⟩
end Go.Proofs.YtinijcmnojlphaaDoor
