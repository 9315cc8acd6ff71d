/- plain: cells that stand still. -/
import Derived.Test.YtiglmffnhbegiaaDoorHXMath2
import Derived.Test.YtiglmffnhbegiaaDoorHRLent
namespace Go.Proofs.YtiglmffnhbegiaaDoor
open Go.RowKit

/-- A word that fits, or nil. -/
def plW (w : Int) : Int := if (!wd w || (refB w && decide (16 ≤ cellV w))) = true then mkW 1 0 else w
def plC (l : List Cl) (i : Nat) : Cl := match l[i]? with
  | some x => if 1 ≤ x.k ∧ x.k ≤ 3 then ⟨x.k, 0, plW x.a, plW x.b⟩ else c0
  | none => c0
def plH (l : List Cl) (n : Nat) : List Cl := (List.range n).map (plC l)
theorem plH_succ (l : List Cl) (n : Nat) : plH l (n + 1) = plH l n ++ [plC l n] := by unfold plH; rw [List.range_succ]; simp
theorem plH_len (l : List Cl) (n : Nat) : (plH l n).length = n := by simp [plH]
theorem plW_rng {w : Int} (h : Rng w) : Rng (plW w) := by
  unfold plW
  split
  · exact mkW_rng 1 0
  · exact h
theorem plW_fits {w : Int} : fitsW 16 (plW w) = true := by
  unfold plW
  split
  · kernel_rfl
  · rename_i h
    rw [fits_is]
    cases h1 : wd w
    · simp [h1] at h
    · cases h2 : refB w
      · simp
      · simp [h1, h2] at h ⊢
        omega
theorem plC_ok {l : List Cl} (hl : ∀ x ∈ l, OkK x) (i : Nat) : OkK (plC l i) := by
  unfold plC
  split
  · rename_i x hx
    have := hl x (List.mem_of_getElem? hx)
    split
    · exact ⟨this.k, ⟨Int.le_refl 0, by show (0 : Int) ≤ 255; decide⟩, plW_rng this.a, plW_rng this.b⟩
    · exact c0_ok
  · exact c0_ok
theorem plH_at {l : List Cl} {n i : Nat} (h : i < n) : (plH l n)[i]? = some (plC l i) := by simp [plH, h]
theorem plH_pl (l : List Cl) : Pl (plH l 16) := fun i x hx => by
  have hi : i < 16 := by have := (List.getElem?_eq_some_iff.1 hx).1; rwa [plH_len] at this
  rw [plH_at hi] at hx
  cases hx
  rw [plH_len]
  unfold plC
  split
  · split
    · rename_i h
      exact .inr ⟨h.1, h.2, rfl, plW_fits, plW_fits⟩
    · exact .inl rfl
  · exact .inl rfl
theorem cl_app (a b : List Cl) : clCells (a ++ b) = clCells a ++ clCells b := by
  induction a with
  | nil => rfl
  | cons x a ih => simp [clCells, ih]
theorem new_cell' (W : World) (B : Nat) (hB : W.heap.size = B) (cs : Array Value) (t : TypeId) (j : Nat) (u : Value) (h : cs.toList[j]? = some u) : (W.alloc (.cells cs t)).cell? ⟨B, j, none⟩ = some u := by
  subst hB
  exact new_cell W cs t j u h
structure PlI (w wr : World) (v : Value) (l : List Cl) (j : Nat) : Prop where
  o : wr.ownsRow w.heap.size 86 4 v j (clCells (plH l j))
  b : Below w.heap.size w wr
def PlR (l : List Cl) (w : World) (e : Ending) (w' : World) : Prop := ∃ ra c, e = .returned (.slice ra 16 c) ∧ w'.ownsRow w.heap.size 86 4 (.slice ra 16 c) 16 (clCells (plH l 16)) ∧ Below w.heap.size w w'
/-- What is known of a word, spelt for a walk. -/
inductive PlW (w : Int) : Prop
  | bad (e : wd w = false) (r : plW w = mkW 1 0) : PlW w
  | plain (e : wd w = true) (e2 : refB w = false) (r : plW w = w) : PlW w
  | near (e : wd w = true) (e2 : refB w = true) (g : decide (cellV w ≥ 16) = false) (g' : decide (16 ≤ cellV w) = false) (r : plW w = w) : PlW w
  | far (e : wd w = true) (e2 : refB w = true) (g : decide (cellV w ≥ 16) = true) (g' : decide (16 ≤ cellV w) = true) (r : plW w = mkW 1 0) : PlW w
theorem pl_w (w : Int) : PlW w := by
  cases e : wd w
  · exact .bad e (by unfold plW; rw [e]; rfl)
  · cases e2 : refB w
    · exact .plain e e2 (by unfold plW; rw [e, e2]; rfl)
    · by_cases g : 16 ≤ cellV w
      · exact .far e e2 (by simpa using g) (by simpa using g) (by unfold plW; rw [e, e2]; simp [g])
      · exact .near e e2 (by simpa using g) (by simpa using g) (by unfold plW; rw [e, e2]; simp [g])
theorem plC_zero {l : List Cl} {j : Nat} (h : ∀ x, l[j]? = some x → ¬ (1 ≤ x.k ∧ x.k ≤ 3)) : plC l j = c0 := by
  unfold plC
  split
  · rename_i x hx
    rw [if_neg (h x hx)]
  · rfl
theorem plC_some {l : List Cl} {j : Nat} {x : Cl} (hx : l[j]? = some x) (h : 1 ≤ x.k ∧ x.k ≤ 3) : plC l j = ⟨x.k, 0, plW x.a, plW x.b⟩ := by
  unfold plC
  rw [hx]
  dsimp only
  rw [if_pos h]
theorem PlI.step {w wr wc w2 : World} {v v' : Value} {l : List Cl} {j : Nat} {ob : Obj} (H : PlI w wr v l j) (hb : Below wr.heap.size wr wc) (hown : w2.ownsRow w.heap.size 86 4 v' (j + 1) (clCells (plH l j) ++ cells4 (plC l j))) (hgr : (wc.alloc ob).grownBy w2 v.ownBlock) : PlI w w2 v' l (j + 1) := by
  refine ⟨?_, ?_⟩
  · rw [plH_succ, cl_app]
    exact hown
  · have hs := H.b.size
    have hs2 := hb.size
    refine ((H.b.trans (hb.mono hs)).alloc (by omega) ob).grown hgr (by rw [World.size_alloc]; omega) (fun g hg => (H.o.lt g hg).1)
set_option maxRecDepth 100000 in
set_option maxHeartbeats 32000000 in
theorem plain_any (l : List Cl) (ra : Option Addr) (ca : Nat) (w : World) (hH : HR w ra l) (_ : l.length ≤ 281474976710656) (hT : Tab w) :
    Calls Tryd.prog 11 #[.slice ra l.length ca] w fun e w' => PlR l w e w' := by
  obtain ⟨b, o, hor, hcs⟩ := hH
  have HCS : Hid (∀ (j : Nat) (x : Cl), l[j]? = some x → b < w.heap.size ∧ (w.cell? ⟨b, o + j * 4, none⟩ = some (.int .u8 x.k) ∧ w.cell? ⟨b, o + j * 4 + 1, none⟩ = some (.int .u8 x.c) ∧ w.cell? ⟨b, o + j * 4 + 1 + 1, none⟩ = some (.int .u64 x.a) ∧ w.cell? ⟨b, o + j * 4 + 1 + 1 + 1, none⟩ = some (.int .u64 x.b)) ∧ OkK x) := hcs
  have HOR : Hid (l.length = 0 ∨ ra = some ⟨b, o, none⟩) := hor
  have HT : Hid (Tab w) := hT
  have H0 : Hid (PlI w w (.slice none 0 0) l 0) := ⟨⟨rfl, .inl ⟨rfl, rfl⟩⟩, Below.refl _ _⟩
  clear hor hcs hT
  obtain ⟨i0, hi0, hz0, hz1, hz2⟩ := info_parts infoK
  have hone : ∀ x : Cl, ∀ u ∈ cells4 x, u.oneCell' = true := fun x u hu => by
    unfold cells4 at hu
    simp at hu
    rcases hu with rfl | rfl | rfl | rfl <;> rfl
  have HOne : Hid (∀ x : Cl, ∀ u ∈ cells4 x, u.oneCell' = true) := hone
  clear hone
  go_enter Tryd.func11, Tryd.ntmps11
  go_wp2_with fail
  refine Calls.mono (make_any 1 0 w (by decide) (by decide) HT.out) ?_
  rintro e w' ⟨rfl, hw'⟩
  rw [hw']
  clear hw'
  go_wp2_with fail
  go_loopw [5, 6, 7, 8, 9, 10, 11, 12, 13, 14, 15, 16, 17] (fun v i _ _ _ _ _ _ _ _ _ _ _ wr => ∃ (j : Nat) (r : Option Addr) (c' : Nat), i = .int .i64 j ∧ v = .slice r j c' ∧ j ≤ 16 ∧ Hid (PlI w wr (.slice r j c') l j)) (fun _ i _ _ _ _ _ _ _ _ _ _ _ _ => 16 - (intOf i).toNat)
  case atStart => exact ⟨0, none, 0, rfl, rfl, Nat.zero_le _, H0⟩
  case round =>
    clear H0
    obtain ⟨j, r, c', rfl, rfl, hj, HI⟩ := hrel
    by_cases hj6 : j < 16
    · have k6 : (j : Int) < 16 := by omega
      have hs : w.heap.size ≤ wr.heap.size := HI.out.b.size
      by_cases hjl : j < l.length
      · have k1' : decide ((j : Int) < (l.length : Int)) = true := by simpa using hjl
        have k1 : (j : Int) < (l.length : Int) := by omega
        obtain ⟨x, hx⟩ : ∃ x, l[j]? = some x := ⟨_, List.getElem?_eq_getElem hjl⟩
        obtain ⟨g1, ⟨y1, y2, y3, y4⟩, hok⟩ := HCS.out j x hx
        have hra : ra = some ⟨b, o, none⟩ := HOR.out.resolve_left (by omega)
        have bb := HI.out.b
        have u1 := (bb.cell (p := ⟨b, o + j * 4, none⟩) g1).trans y1
        have u3 := (bb.cell (p := ⟨b, o + j * 4 + 1 + 1, none⟩) g1).trans y3
        have u4 := (bb.cell (p := ⟨b, o + j * 4 + 1 + 1 + 1, none⟩) g1).trans y4
        have lb : b < wr.heap.size := by omega
        have nb : b ≠ wr.heap.size := by omega
        rw [hra]
        by_cases c1 : x.k ≥ 1
        · have z1 : decide (x.k ≥ 1) = true := by simpa using c1
          have z1' : decide (1 ≤ x.k) = true := by simpa using c1
          by_cases c3 : x.k ≤ 3
          · have z3 : decide (x.k ≤ 3) = true := by simpa using c3
            have HE : Hid (plC l j = ⟨x.k, 0, plW x.a, plW x.b⟩) := plC_some hx ⟨c1, c3⟩
            clear hx y1 y2 y3 y4 hra bb c1 c3
            go_wp2_with fail
            go_region
            obtain ⟨w3, hw3⟩ : ∃ w3, w3 = (wr.alloc (.cells #[.int .u8 x.k, .int .u8 0, .int .u64 x.a, .int .u64 x.b] 86)).drew := ⟨_, rfl⟩
            rw [← hw3]
            have h3 : w3.heap[wr.heap.size]? = some (.cells #[.int .u8 x.k, .int .u8 0, .int .u64 x.a, .int .u64 x.b] 86 (0, 0)) := hw3 ▸ heap_alloc_new wr _
            have HB3 : Hid (Below wr.heap.size wr w3) := hw3 ▸ ((Below.refl _ wr).alloc (Nat.le_refl _) _).drew
            have HT3 : Hid (Tab w3) := (HT.out.below HI.out.b).below HB3.out
            have s3 : wr.heap.size < w3.heap.size := heap_lt h3
            have e0 : w3.cell? ⟨wr.heap.size, 0, none⟩ = some (.int .u8 x.k) := heap_cell h3 rfl
            have e1 : w3.cell? ⟨wr.heap.size, 1, none⟩ = some (.int .u8 0) := heap_cell h3 rfl
            have e2 : w3.cell? ⟨wr.heap.size, 2, none⟩ = some (.int .u64 x.a) := heap_cell h3 rfl
            have e3 : w3.cell? ⟨wr.heap.size, 3, none⟩ = some (.int .u64 x.b) := heap_cell h3 rfl
            have ef : ∀ q, w3.frozen? ⟨wr.heap.size, q, none⟩ = false := fun q => by simp [World.frozen?, h3]
            have HC1 : Hid (Calls Tryd.prog 62 #[.int .u64 x.a] w3 fun e w' => e = .returned (.tuple #[.int .u8 (ofT x.a), .int .i64 (ofN x.a), .bool (wd x.a)]) ∧ w' = w3) := of_any x.a w3 hok.a HT3.out
            have HC2 : Hid (Calls Tryd.prog 62 #[.int .u64 x.b] w3 fun e w' => e = .returned (.tuple #[.int .u8 (ofT x.b), .int .i64 (ofN x.b), .bool (wd x.b)]) ∧ w' = w3) := of_any x.b w3 hok.b HT3.out
            have HC3 : Hid (Calls Tryd.prog 63 #[.int .u64 x.a] w3 fun e w' => e = .returned (.tuple #[.int .i64 (cellV x.a), .bool (refB x.a)]) ∧ w' = w3) := cell_any x.a w3 hok.a HT3.out
            have HC4 : Hid (Calls Tryd.prog 63 #[.int .u64 x.b] w3 fun e w' => e = .returned (.tuple #[.int .i64 (cellV x.b), .bool (refB x.b)]) ∧ w' = w3) := cell_any x.b w3 hok.b HT3.out
            have wa := pl_w x.a
            have wb := pl_w x.b
            clear hw3 h3 u1 u3 u4 hok
            go_wp2_with fail
            refine Calls.mono HC1.out ?_
            rintro e w' ⟨rfl, hw'⟩
            rw [hw']
            clear hw'
            go_wp2_with fail
            refine Calls.mono HC2.out ?_
            rintro e w' ⟨rfl, hw'⟩
            rw [hw']
            clear hw'
            go_wp2_with fail
            refine Calls.mono HC3.out ?_
            rintro e w' ⟨rfl, hw'⟩
            rw [hw']
            clear hw'
            go_wp2_with fail
            refine Calls.mono HC4.out ?_
            rintro e w' ⟨rfl, hw'⟩
            rw [hw']
            clear hw'
            clear HC1 HC2 HC3 HC4
            rcases wa with ⟨a1, ar⟩ | ⟨a1, a2, ar⟩ | ⟨a1, a2, a3, a4, ar⟩ | ⟨a1, a2, a3, a4, ar⟩
            all_goals
              rcases wb with ⟨b1, br⟩ | ⟨b1, b2, br⟩ | ⟨b1, b2, b3, b4, br⟩ | ⟨b1, b2, b3, b4, br⟩
            all_goals
              rw [ar, br] at HE
              clear ar br
              rw [a1, b1]
              try rw [a2]
              try rw [b2]
              go_wp2_with (at_builtin; refine stop_of ?_)
              unfold Hid
              refine wpList_append_lies _ rfl _ _ 23 rfl w.heap.size 86 i0 (.agg #[.int .u8 0, .int .u8 0, .int .u64 0, .int .u64 0]) 4 24 Tryd.underlying23 hi0 hz0 hz1 hz2 (by kernel_rfl) (by decide) (.slice r j c') j (clCells (plH l j)) rfl (World.ownsRow.alloc (own_same HI.out.o (fun k hk => Below.block (by first | exact HB3.out | exact HB3.out.setCell (p := ⟨wr.heap.size, 2, none⟩) (Nat.le_refl _) _ | exact HB3.out.setCell (p := ⟨wr.heap.size, 3, none⟩) (Nat.le_refl _) _ | exact (HB3.out.setCell (p := ⟨wr.heap.size, 2, none⟩) (Nat.le_refl _) _).setCell (p := ⟨wr.heap.size, 3, none⟩) (Nat.le_refl _) _) k (HI.out.o.lt k hk).2)) _) ⟨_, 0, none⟩ 1 1 (cells4 (plC l j)) rfl rfl (fun q u hu => ?_) (HOne.out _) (by omega) (by unfold maxLen; omega) (by omega) (by simp only [World.size_alloc, World.size_setCell]; omega) _ rfl ?_
              · rw [ad_add, Nat.zero_add]
                rw [HE.out] at hu
                exact new_cell' _ _ (by first | rfl | simp only [World.size_setCell]) _ _ q u hu
              intro gg cap w2 hown hgr hat hlt2
              have HN : Hid (PlI w w2 (.slice (some ⟨gg, 0, none⟩) (j + 1) cap) l (j + 1)) := HI.out.step (by first | exact HB3.out | exact HB3.out.setCell (p := ⟨wr.heap.size, 2, none⟩) (Nat.le_refl _) _ | exact HB3.out.setCell (p := ⟨wr.heap.size, 3, none⟩) (Nat.le_refl _) _ | exact (HB3.out.setCell (p := ⟨wr.heap.size, 2, none⟩) (Nat.le_refl _) _).setCell (p := ⟨wr.heap.size, 3, none⟩) (Nat.le_refl _) _) hown hgr
              clear hown hgr hat hlt2
              go_wp2_with fail
              exact ⟨⟨j + 1, some ⟨gg, 0, none⟩, cap, by go_num, rfl, by omega, HN⟩, by simp [intOf]; omega⟩
          · have z3 : decide (x.k ≤ 3) = false := by simpa using c3
            have HE : Hid (plC l j = c0) := plC_zero (fun y hy => by rw [hx] at hy; cases hy; omega)
            clear hx y1 y2 y3 y4 hra bb c1 c3
            have HB3 : Hid (Below wr.heap.size wr (wr.alloc (.cells #[.int .u8 0, .int .u8 0, .int .u64 0, .int .u64 0] 86))) := (Below.refl _ wr).alloc (Nat.le_refl _) _
            go_wp2_with (at_builtin; refine stop_of ?_)
            unfold Hid
            refine wpList_append_lies _ rfl _ _ 23 rfl w.heap.size 86 i0 (.agg #[.int .u8 0, .int .u8 0, .int .u64 0, .int .u64 0]) 4 24 Tryd.underlying23 hi0 hz0 hz1 hz2 (by kernel_rfl) (by decide) (.slice r j c') j (clCells (plH l j)) rfl (World.ownsRow.alloc (own_same HI.out.o (fun k hk => Below.block (HB3.out) k (HI.out.o.lt k hk).2)) _) ⟨_, 0, none⟩ 1 1 (cells4 (plC l j)) rfl rfl (fun q u hu => ?_) (HOne.out _) (by omega) (by unfold maxLen; omega) (by omega) (by simp only [World.size_alloc]; omega) _ rfl ?_
            · rw [ad_add, Nat.zero_add]
              rw [HE.out] at hu
              exact new_cell' _ _ (by first | rfl | simp only [World.size_alloc]) _ _ q u hu
            intro gg cap w2 hown hgr hat hlt2
            have HN : Hid (PlI w w2 (.slice (some ⟨gg, 0, none⟩) (j + 1) cap) l (j + 1)) := HI.out.step (HB3.out) hown hgr
            clear hown hgr hat hlt2
            go_wp2_with fail
            exact ⟨⟨j + 1, some ⟨gg, 0, none⟩, cap, by go_num, rfl, by omega, HN⟩, by simp [intOf]; omega⟩
        · have z1 : decide (x.k ≥ 1) = false := by simpa using c1
          have z1' : decide (1 ≤ x.k) = false := by simpa using c1
          have HE : Hid (plC l j = c0) := plC_zero (fun y hy => by rw [hx] at hy; cases hy; omega)
          clear hx y1 y2 y3 y4 hra bb c1
          have HB3 : Hid (Below wr.heap.size wr (wr.alloc (.cells #[.int .u8 0, .int .u8 0, .int .u64 0, .int .u64 0] 86))) := (Below.refl _ wr).alloc (Nat.le_refl _) _
          go_wp2_with (at_builtin; refine stop_of ?_)
          unfold Hid
          refine wpList_append_lies _ rfl _ _ 23 rfl w.heap.size 86 i0 (.agg #[.int .u8 0, .int .u8 0, .int .u64 0, .int .u64 0]) 4 24 Tryd.underlying23 hi0 hz0 hz1 hz2 (by kernel_rfl) (by decide) (.slice r j c') j (clCells (plH l j)) rfl (World.ownsRow.alloc (own_same HI.out.o (fun k hk => Below.block (HB3.out) k (HI.out.o.lt k hk).2)) _) ⟨_, 0, none⟩ 1 1 (cells4 (plC l j)) rfl rfl (fun q u hu => ?_) (HOne.out _) (by omega) (by unfold maxLen; omega) (by omega) (by simp only [World.size_alloc]; omega) _ rfl ?_
          · rw [ad_add, Nat.zero_add]
            rw [HE.out] at hu
            exact new_cell' _ _ (by first | rfl | simp only [World.size_alloc]) _ _ q u hu
          intro gg cap w2 hown hgr hat hlt2
          have HN : Hid (PlI w w2 (.slice (some ⟨gg, 0, none⟩) (j + 1) cap) l (j + 1)) := HI.out.step (HB3.out) hown hgr
          clear hown hgr hat hlt2
          go_wp2_with fail
          exact ⟨⟨j + 1, some ⟨gg, 0, none⟩, cap, by go_num, rfl, by omega, HN⟩, by simp [intOf]; omega⟩
      · have k1' : decide ((j : Int) < (l.length : Int)) = false := by simp; omega
        have k1 : ¬ ((j : Int) < (l.length : Int)) := by omega
        have HE : Hid (plC l j = c0) := plC_zero (fun y hy => absurd (List.getElem?_eq_some_iff.1 hy).1 hjl)
        have HB3 : Hid (Below wr.heap.size wr (wr.alloc (.cells #[.int .u8 0, .int .u8 0, .int .u64 0, .int .u64 0] 86))) := (Below.refl _ wr).alloc (Nat.le_refl _) _
        go_wp2_with (at_builtin; refine stop_of ?_)
        unfold Hid
        refine wpList_append_lies _ rfl _ _ 23 rfl w.heap.size 86 i0 (.agg #[.int .u8 0, .int .u8 0, .int .u64 0, .int .u64 0]) 4 24 Tryd.underlying23 hi0 hz0 hz1 hz2 (by kernel_rfl) (by decide) (.slice r j c') j (clCells (plH l j)) rfl (World.ownsRow.alloc (own_same HI.out.o (fun k hk => Below.block (HB3.out) k (HI.out.o.lt k hk).2)) _) ⟨_, 0, none⟩ 1 1 (cells4 (plC l j)) rfl rfl (fun q u hu => ?_) (HOne.out _) (by omega) (by unfold maxLen; omega) (by omega) (by simp only [World.size_alloc]; omega) _ rfl ?_
        · rw [ad_add, Nat.zero_add]
          rw [HE.out] at hu
          exact new_cell' _ _ (by first | rfl | simp only [World.size_alloc]) _ _ q u hu
        intro gg cap w2 hown hgr hat hlt2
        have HN : Hid (PlI w w2 (.slice (some ⟨gg, 0, none⟩) (j + 1) cap) l (j + 1)) := HI.out.step (HB3.out) hown hgr
        clear hown hgr hat hlt2
        go_wp2_with fail
        exact ⟨⟨j + 1, some ⟨gg, 0, none⟩, cap, by go_num, rfl, by omega, HN⟩, by simp [intOf]; omega⟩
    · have e : j = 16 := by omega
      subst e
      have k1 : ¬ ((16 : Int) < 16) := by omega
      go_wp2_with fail
      go_ret
      exact ⟨_, _, rfl, HI.out.o, HI.out.b⟩
end Go.Proofs.YtiglmffnhbegiaaDoor
