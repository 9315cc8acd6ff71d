/- Does a list go on?; What a teller tells, as mathematics: words (true) and tails (false), with the labels and how many have come. -/
import Derived.Test.YtejmoopgfnjaaaaDoorK17
/- Does a list go on? -/
namespace Go.Proofs.YtejmoopgfnjaaaaDoor
open Go.RowKit Go.Maps Go.ChangeMaps

/-- With which pair does a list go on? -/
def goesM (X : List Cl) (f : Nat → Lab) (x : Int) : Option Cl :=
  match refN x with
  | none => none
  | some c => match X[c]? with
    | none => none
    | some y => if y.k = 1 then (if 1 < (f c).met then none else some y) else none
def goV : Option Cl → Value
  | none => .tuple #[.agg #[.int .u8 0, .int .u8 0, .int .u64 0, .int .u64 0], .bool false]
  | some y => .tuple #[cV y, .bool true]
set_option maxRecDepth 100000 in
set_option maxHeartbeats 4000000 in
theorem goesOn_any (B b mb n : Nat) (X : List Cl) (rx : Option Addr) (cx : Nat) (a1 a2 a4 : Value) (f : Nat → Lab) (l : List UInt8) (x : Int) (w : World) (h : Tl B b (.slice rx X.length cx) a1 a2 (.map (some mb)) a4 l w) (hH : HR w rx X) (hM : LM w mb n f) (hTa : Tab w) (hx : Rng x) (hfx : ∀ c, refN x = some c → c < X.length) (_ : X.length ≤ 1000000) :
    Calls Tryd.prog 52 #[.pointer (some ⟨b, 0, none⟩), .int .u64 x] w fun e w' => e = .returned (goV (goesM X f x)) ∧ Below w.heap.size w w' := by
  have a0 := (Below.refl _ w).alloc (Nat.le_refl w.heap.size) (KO ⟨0, 0, 0, 0⟩)
  have hnew := heap_alloc_new w (KO ⟨0, 0, 0, 0⟩)
  have hT0 := h.kept a0
  have hM0 := hM.kept (a0.block _ hM.lt)
  have hH0 := hH.below a0
  have HC : Hid (Calls Tryd.prog 12 #[.int .u64 x] (w.alloc (KO ⟨0, 0, 0, 0⟩)) fun e w' => e = .returned (.tuple #[.int .i64 (cellV x), .bool (refB x)]) ∧ w' = w.alloc (KO ⟨0, 0, 0, 0⟩)) := cell_any x _ hx (hTa.below a0)
  have HB0 : Hid (Below w.heap.size w (w.alloc (KO ⟨0, 0, 0, 0⟩))) := a0
  obtain ⟨⟨c0, _, _, c3, _⟩, l0⟩ := hT0.at2
  have n0 := heap_cell (j := 0) hnew rfl
  have n1 := heap_cell (j := 1) hnew rfl
  have n2 := heap_cell (j := 2) hnew rfl
  have n3 := heap_cell (j := 3) hnew rfl
  have ln := heap_lt hnew
  have f0 := Lib.frozen_of_heap hnew 0
  have f1 := Lib.frozen_of_heap hnew 1
  have f2 := Lib.frozen_of_heap hnew 2
  have f3 := Lib.frozen_of_heap hnew 3
  clear a0 h hH hM hTa hx hT0
  cases hrb : refB x
  · have HG : Hid (goesM X f x = none) := by
      show _ = _
      have h2 : ¬ ofT x = 8 := by unfold refB at hrb; simpa using hrb
      unfold goesM refN; rw [if_neg h2]
    rw [hrb] at HC
    rw [HG.out]
    clear hrb HG hM0 hH0
    unfold goV
    go_enter Tryd.func52, Tryd.ntmps52
    go_upto_region 1 with fail
    generalize w.alloc (KO ⟨0, 0, 0, 0⟩) = W at *
    go_wp2_with fail
    refine Calls.mono HC.out ?_
    rintro e w1 ⟨rfl, hw1⟩
    rw [hw1]
    clear hw1 HC
    go_wp2
    refine bodyPost_ret (v := .tuple #[.agg #[.int .u8 0, .int .u8 0, .int .u64 0, .int .u64 0], .bool false]) (by simp [results, Tryd.results52, go_sem, n0, n1, n2, n3]) rfl ⟨rfl, below4 HB0.out (Nat.le_refl _) _ _ _ _⟩
  · obtain ⟨c, hc, hcv, hcb⟩ : ∃ c : Nat, refN x = some c ∧ cellV x = c ∧ c ≤ 2147483647 := by
      have h1 := ofN_ref hrb
      have h2 : ofT x = 8 := by unfold refB at hrb; simpa using hrb
      refine ⟨(ofN x).toNat, by unfold refN; rw [if_pos h2], ?_, by omega⟩
      unfold cellV; rw [if_pos h2]; omega
    have hlt := hfx c hc
    have k1 : (c : Int) < (X.length : Int) := by omega
    obtain ⟨y, hy⟩ : ∃ y, X[c]? = some y := ⟨_, List.getElem?_eq_getElem hlt⟩
    obtain ⟨bb, o, q1, q2⟩ := hH0
    obtain rfl : rx = some ⟨bb, o, none⟩ := q1.resolve_left (by omega)
    obtain ⟨l1, ⟨d0, d1, d2, d3⟩, hkx⟩ := q2 c y hy
    have hlk := hM0.look (c := c) (by omega)
    have fq := labField (f c)
    have HG : Hid (goesM X f x = if y.k = 1 then (if 1 < (f c).met then none else some y) else none) := by
      show _ = _
      unfold goesM; rw [hc]; simp only [hy]
    rw [hrb, hcv] at HC
    rw [HG.out]
    clear hrb HG hM0 q1 q2 hc hcv hfx hkx hnew hy
    generalize labV (f c) = LV at *
    generalize (f c).met = m at *
    by_cases hk : y.k = 1
    · rw [if_pos hk]
      by_cases hm : 1 < m
      · rw [if_pos hm]
        unfold goV
        go_enter Tryd.func52, Tryd.ntmps52
        go_upto_region 1 with fail
        generalize w.alloc (KO ⟨0, 0, 0, 0⟩) = W at *
        go_wp2_with fail
        refine Calls.mono HC.out ?_
        rintro e w1 ⟨rfl, hw1⟩
        rw [hw1]
        clear hw1 HC
        go_wp2
        refine bodyPost_ret (v := .tuple #[.agg #[.int .u8 0, .int .u8 0, .int .u64 0, .int .u64 0], .bool false]) (by simp [results, Tryd.results52, go_sem, n0, n1, n2, n3]) rfl ⟨rfl, below4 HB0.out (Nat.le_refl _) _ _ _ _⟩
      · rw [if_neg hm]
        unfold goV
        go_enter Tryd.func52, Tryd.ntmps52
        go_upto_region 1 with fail
        generalize w.alloc (KO ⟨0, 0, 0, 0⟩) = W at *
        go_wp2_with fail
        refine Calls.mono HC.out ?_
        rintro e w1 ⟨rfl, hw1⟩
        rw [hw1]
        clear hw1 HC
        go_wp2
        refine bodyPost_ret (v := .tuple #[cV y, .bool true]) (by simp [results, Tryd.results52, go_sem, n0, n1, n2, n3, hk]) rfl ⟨rfl, below4 HB0.out (Nat.le_refl _) _ _ _ _⟩
    · rw [if_neg hk]
      have hk1 : (y.k == 1) = false := by simpa using hk
      unfold goV
      go_enter Tryd.func52, Tryd.ntmps52
      go_upto_region 1 with fail
      generalize w.alloc (KO ⟨0, 0, 0, 0⟩) = W at *
      go_wp2_with fail
      refine Calls.mono HC.out ?_
      rintro e w1 ⟨rfl, hw1⟩
      rw [hw1]
      clear hw1 HC
      go_wp2
      refine bodyPost_ret (v := .tuple #[.agg #[.int .u8 0, .int .u8 0, .int .u64 0, .int .u64 0], .bool false]) (by simp [results, Tryd.results52, go_sem, n0, n1, n2, n3]) rfl ⟨rfl, below4 HB0.out (Nat.le_refl _) _ _ _ _⟩
end Go.Proofs.YtejmoopgfnjaaaaDoor

/- What a teller tells, as mathematics: words (true) and tails (false), with the labels and how many have come. -/
namespace Go.Proofs.YtejmoopgfnjaaaaDoor
open Go.RowKit Go.Maps Go.ChangeMaps

abbrev Res := List UInt8 × (Nat → Lab) × Nat
/-- A cell's label ahead of it; labels and count behind. -/
def preT (f : Nat → Lab) (k c : Nat) : List UInt8 := if (f c).met = 1 then [] else betw [35] k [61]
def preF (f : Nat → Lab) (k c : Nat) : Nat → Lab := if (f c).met = 1 then f else getL f c (f c).met k
def preK (f : Nat → Lab) (k c : Nat) : Nat := if (f c).met = 1 then k else k + 1
def tell (X : List Cl) (N : List (List UInt8)) : Nat → Bool → (Nat → Lab) → Nat → Int → Option Res
  | 0, _, _, _, _ => none
  | fu + 1, true, f, k, x => match refN x with
    | none => some (plainT N x, f, k)
    | some c => if (f c).met ≠ 1 ∧ (f c).came = true then some (betw [35] (f c).num [35], f, k) else
      match X[c]? with
      | none => none
      | some y =>
        if y.k = 1 then (tell X N fu true (preF f k c) (preK f k c) y.a).bind fun r => (tell X N fu false r.2.1 r.2.2 y.b).bind fun q => some (preT f k c ++ ([40] ++ (r.1 ++ (q.1 ++ [41]))), q.2)
        else if y.k = 2 then (tell X N fu true (preF f k c) (preK f k c) y.a).bind fun r => some (preT f k c ++ ([35, 98, 111, 120, 40] ++ (r.1 ++ [41])), r.2)
        else (tell X N fu true (preF f k c) (preK f k c) y.b).bind fun r => some (preT f k c ++ (betw [35, 112, 114, 111, 99] (ofN y.a) [40] ++ (r.1 ++ [41])), r.2)
  | fu + 1, false, f, k, x => match goesM X f x with
    | some y => (tell X N fu true f k y.a).bind fun r => (tell X N fu false r.2.1 r.2.2 y.b).bind fun q => some ([32] ++ (r.1 ++ q.1), q.2)
    | none => if ofT x = 1 then some ([], f, k) else (tell X N fu true f k x).bind fun r => some ([32, 46, 32] ++ r.1, r.2)
theorem preK_le (f : Nat → Lab) (k c : Nat) : k ≤ preK f k c := by unfold preK; split <;> omega
/-- More and more labels come. -/
theorem tell_mono (X : List Cl) (N : List (List UInt8)) : ∀ (fu : Nat) (m : Bool) (f : Nat → Lab) (k : Nat) (x : Int) (r : Res), tell X N fu m f k x = some r → k ≤ r.2.2
  | 0, _, _, _, _, _, h => by cases h
  | fu + 1, true, f, k, x, r, h => by
    unfold tell at h
    split at h
    · cases h; exact Nat.le_refl _
    · rename_i c _
      split at h
      · cases h; exact Nat.le_refl _
      · split at h
        · cases h
        · rename_i y _
          split at h
          · obtain ⟨r1, h1, h2⟩ := Option.bind_eq_some_iff.1 h
            obtain ⟨r2, h3, h4⟩ := Option.bind_eq_some_iff.1 h2
            have := tell_mono X N fu _ _ _ _ _ h1
            have := tell_mono X N fu _ _ _ _ _ h3
            have := preK_le f k c
            cases h4
            simp only
            omega
          · split at h
            · obtain ⟨r1, h1, h2⟩ := Option.bind_eq_some_iff.1 h
              have := tell_mono X N fu _ _ _ _ _ h1
              have := preK_le f k c
              cases h2
              simp only
              omega
            · obtain ⟨r1, h1, h2⟩ := Option.bind_eq_some_iff.1 h
              have := tell_mono X N fu _ _ _ _ _ h1
              have := preK_le f k c
              cases h2
              simp only
              omega
  | fu + 1, false, f, k, x, r, h => by
    unfold tell at h
    split at h
    · obtain ⟨r1, h1, h2⟩ := Option.bind_eq_some_iff.1 h
      obtain ⟨r2, h3, h4⟩ := Option.bind_eq_some_iff.1 h2
      have := tell_mono X N fu _ _ _ _ _ h1
      have := tell_mono X N fu _ _ _ _ _ h3
      cases h4
      simp only
      omega
    · split at h
      · cases h; exact Nat.le_refl _
      · obtain ⟨r1, h1, h2⟩ := Option.bind_eq_some_iff.1 h
        have := tell_mono X N fu _ _ _ _ _ h1
        cases h2
        simp only
        omega
end Go.Proofs.YtejmoopgfnjaaaaDoor
