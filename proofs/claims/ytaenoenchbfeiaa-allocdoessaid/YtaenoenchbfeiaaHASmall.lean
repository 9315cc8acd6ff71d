/- The small calls: a gift is taken, the least free one is taken; does a thread wait? -/
import Derived.Test.YtaenoenchbfeiaaHANew
namespace Go.Proofs.Ytaenoenchbfeiaa
open Go.RowKit

abbrev obV (va vf vr vm : Value) : Obj := .cells #[va, vf, vr, vm] 78 (0, 0)
/-- What turns but some blocks. -/
def Oth (p : Nat → Prop) (w w' : World) : Prop := (∀ k, k < w.heap.size → ¬ p k → w'.heap[k]? = w.heap[k]?) ∧ Below 0 w w'
theorem Oth.trans {p q : Nat → Prop} {w w' w'' : World} (h : Oth p w w') (k : Oth q w' w'') : Oth (fun g => p g ∨ q g) w w'' :=
  ⟨fun g hg hn => (k.1 g (Nat.lt_of_lt_of_le hg h.2.size) (fun hq => hn (.inr hq))).trans (h.1 g hg (fun hp => hn (.inl hp))), h.2.trans k.2⟩
set_option maxRecDepth 100000 in
set_option maxHeartbeats 4000000 in
theorem takeGift_any (a gm n : Nat) (va vf vr : Value) (f : Int → Option Nat) (t : Int) (w : World) (hob : w.heap[a]? = some (obV va vf vr (.map (some gm)))) (hg : GM w gm n f) (h1 : 1 ≤ t) (h8 : t ≤ 8) :
    Calls Try.prog 50 #[.pointer (some ⟨a, 0, none⟩), .int .i64 t] w fun e w' => e = .returned (.tuple #[.int .i64 (((f t).getD 0 : Nat) : Int), .bool (f t).isSome]) ∧ GM w' gm n (fun k => if k = t then none else f k) ∧ Oth (fun k => k = gm) w w' := by
  have c3 : w.cell? ⟨a, 3, none⟩ = some (.map (some gm)) := heap_cell hob rfl
  have lk := hg.look h1 h8
  obtain ⟨w', hd, hG, hgr, hs⟩ := hg.del h1 h8
  have HE : Hid (GM w' gm n (fun k => if k = t then none else f k) ∧ Oth (fun k => k = gm) w w') := ⟨hG, fun k hk hn => hgr.block k hk (fun e => hn (Option.some.inj e)), grown_low hgr (fun _ _ => Nat.zero_le _) (Nat.zero_le _)⟩
  have la := heap_lt hob
  clear hG hgr hg hob
  go_enter Try.func50, Try.ntmps50
  go_wp2
  go_ret2
  exact ⟨rfl, HE.out⟩
set_option maxRecDepth 100000 in
set_option maxHeartbeats 4000000 in
theorem takeLeast_none (a gf cf : Nat) (va vr vm : Value) (w : World) (hob : w.heap[a]? = some (obV va (.slice (some ⟨gf, 0, none⟩) 0 cf) vr vm)) :
    Calls Try.prog 51 #[.pointer (some ⟨a, 0, none⟩)] w fun e w' => e = .returned (.tuple #[.int .i64 0, .bool false]) ∧ w' = w := by
  have c1 : w.cell? ⟨a, 1, none⟩ = some (.slice (some ⟨gf, 0, none⟩) 0 cf) := heap_cell hob rfl
  have la := heap_lt hob
  clear hob
  go_enter Try.func51, Try.ntmps51
  go_wp2
  go_ret2
  exact ⟨rfl, rfl⟩
set_option maxRecDepth 100000 in
set_option maxHeartbeats 4000000 in
theorem takeLeast_some (a gf cf : Nat) (va vr vm : Value) (c : Int) (r : List Int) (w : World) (hob : w.heap[a]? = some (obV va (.slice (some ⟨gf, 0, none⟩) (r.length + 1) cf) vr vm)) (hne : a ≠ gf)
    (hO : w.ownsRow 0 3 1 (.slice (some ⟨gf, 0, none⟩) (r.length + 1) cf) (r.length + 1) ((c :: r).map (Value.int .i64))) :
    Calls Try.prog 51 #[.pointer (some ⟨a, 0, none⟩)] w fun e w' => e = .returned (.tuple #[.int .i64 c, .bool true]) ∧ w'.heap[a]? = some (obV va (.slice (some ⟨gf, 0, none⟩) r.length cf) vr vm) ∧ w'.ownsRow 0 3 1 (.slice (some ⟨gf, 0, none⟩) r.length cf) r.length (r.map (Value.int .i64)) ∧ Oth (fun k => k = a ∨ k = gf) w w' := by
  have c1 : w.cell? ⟨a, 1, none⟩ = some (.slice (some ⟨gf, 0, none⟩) (r.length + 1) cf) := heap_cell hob rfl
  have c0 : w.cell? ⟨gf, 0, none⟩ = some (.int .i64 c) := own_cell hO rfl
  have HD : Hid _ := delI ((c :: r).map (Value.int .i64)) gf r.length cf w hO (fun u hu => by obtain ⟨x, _, rfl⟩ := List.mem_map.1 hu; rfl)
  have la := heap_lt hob
  have HO : Hid _ := hob
  obtain ⟨cs, hcs⟩ := own_blk hO rfl
  have lg := heap_lt hcs
  have k1 : (0 : Int) < (r.length : Int) + 1 := by omega
  have k2 : ¬ (r.length : Int) + 1 = 0 := by omega
  clear hob hO hcs
  go_enter Try.func51, Try.ntmps51
  go_wp2_with fail
  refine Calls.mono HD.out ?_
  rintro e w1 ⟨rfl, hown, hk, hb, hs⟩
  have ho1 : w1.heap[a]? = some (obV va (.slice (some ⟨gf, 0, none⟩) (r.length + 1) cf) vr vm) := (hk a hne).trans HO.out
  have d1 : w1.cell? ⟨a, 1, none⟩ = some (.slice (some ⟨gf, 0, none⟩) (r.length + 1) cf) := heap_cell ho1 rfl
  have f1 : w1.frozen? ⟨a, 1, none⟩ = false := by simp [World.frozen?, ho1]
  have HE : Hid ((w1.setCell ⟨a, 1, none⟩ (.slice (some ⟨gf, 0, none⟩) r.length cf)).heap[a]? = some (obV va (.slice (some ⟨gf, 0, none⟩) r.length cf) vr vm) ∧ (w1.setCell ⟨a, 1, none⟩ (.slice (some ⟨gf, 0, none⟩) r.length cf)).ownsRow 0 3 1 (.slice (some ⟨gf, 0, none⟩) r.length cf) r.length (r.map (Value.int .i64)) ∧ Oth (fun k => k = a ∨ k = gf) w (w1.setCell ⟨a, 1, none⟩ (.slice (some ⟨gf, 0, none⟩) r.length cf))) := by
    refine ⟨set_atC ho1 _, own_same (show w1.ownsRow 0 3 1 _ _ _ from hown) (fun g hg => by cases hg; exact Below.heap_setCell _ _ _ _ (fun e => hne e.symm)), fun k _ hn => ?_, hb.setCell (p := ⟨a, 1, none⟩) (Nat.zero_le _) _⟩
    rw [Below.heap_setCell _ _ _ _ (show k ≠ a from fun e => hn (.inl e)), hk k (fun e => hn (.inr e))]
  have la1 := heap_lt ho1
  clear hown hk hb hs ho1 HO HD
  go_wp2
  go_ret2
  exact ⟨rfl, HE.out⟩
/-- A row of waiters that is read. -/
theorem row_at {w : World} {l : List (Int × Int)} {vr : Value} (h : w.ownsRow 0 103 2 vr l.length (rowCells l)) {j : Nat} {p : Int × Int} (hj : l[j]? = some p) : ∃ g c, vr = .slice (some ⟨g, 0, none⟩) l.length c ∧ g < w.heap.size ∧ w.cell? ⟨g, j * 2, none⟩ = some (.int .i64 p.1) ∧ w.cell? ⟨g, j * 2 + 1, none⟩ = some (.int .i64 p.2) := by
  have hl := (List.getElem?_eq_some_iff.1 hj).1
  rcases h.2 with ⟨_, h0⟩ | ⟨g, cap, cur, hv, r⟩
  · omega
  · subst hv
    obtain ⟨cs, hc⟩ := own_blk h rfl
    exact ⟨g, cap, rfl, heap_lt hc, own_cell h (rowCells_at hj).1, own_cell h (rowCells_at hj).2⟩
abbrev wV (p : Int × Int) : Value := .agg #[.int .i64 p.1, .int .i64 p.2]
set_option maxRecDepth 100000 in
set_option maxHeartbeats 4000000 in
theorem waits1_any (p : Int × Int) (t : Int) (tb : Nat) (w : World) (ht : w.cell? ⟨tb, 0, none⟩ = some (.int .i64 t)) (hlt : tb < w.heap.size) :
    Calls Try.prog 57 #[wV p, .pointer (some ⟨tb, 0, none⟩)] w fun e w' => e = .returned (.bool (p.1 == t)) ∧ Below w.heap.size w w' := by
  have b0 := heap_alloc_new w (.cells #[.int .i64 p.1, .int .i64 p.2] 103)
  have c0 : (w.alloc (.cells #[.int .i64 p.1, .int .i64 p.2] 103)).cell? ⟨w.heap.size, 0, none⟩ = some (.int .i64 p.1) := heap_cell b0 rfl
  have a0 := (Below.refl _ w).alloc (Nat.le_refl w.heap.size) (.cells #[.int .i64 p.1, .int .i64 p.2] 103)
  have ht2 : (w.alloc (.cells #[.int .i64 p.1, .int .i64 p.2] 103)).cell? ⟨tb, 0, none⟩ = some (.int .i64 t) := (a0.cell (p := ⟨tb, 0, none⟩) hlt).trans ht
  have HB : Hid _ := a0
  have l0 := heap_lt b0
  clear b0 a0
  unfold wV
  go_enter Try.func57, Try.ntmps57
  go_wp2
  go_ret
  exact ⟨rfl, HB.out⟩
theorem any_take {α : Type} {p : α → Bool} {l : List α} {j : Nat} {x : α} (h : (l.take j).any p = false) (hx : l[j]? = some x) : (l.take (j + 1)).any p = p x := by
  rw [List.take_add_one, hx, List.any_append, h]; simp
theorem any_at {α : Type} {p : α → Bool} {l : List α} {j : Nat} {x : α} (hx : l[j]? = some x) (h : p x = true) : l.any p = true := List.any_eq_true.2 ⟨x, List.mem_of_getElem? hx, h⟩
set_option maxRecDepth 100000 in
set_option maxHeartbeats 4000000 in
theorem indexW_any (l : List (Int × Int)) (vr : Value) (t : Int) (tb : Nat) (w : World) (hl : l.length ≤ 1000000) (hO : w.ownsRow 0 103 2 vr l.length (rowCells l)) (ht : w.cell? ⟨tb, 0, none⟩ = some (.int .i64 t)) (hlt : tb < w.heap.size) :
    Calls Try.prog 61 #[vr, .func (.func 57) #[] #[.pointer (some ⟨tb, 0, none⟩)]] w fun e w' => (∃ n : Int, e = .returned (.int .i64 n) ∧ (l.any (fun p => p.1 == t) = decide (0 ≤ n))) ∧ Below w.heap.size w w' := by
  obtain ⟨ra, ca, rfl⟩ := own_sl hO
  have HO : Hid _ := hO
  have HT : Hid (w.cell? ⟨tb, 0, none⟩ = some (.int .i64 t)) := ht
  have hen : ∀ (args : Array Value) (w : World), (callFunc 57 args).run Try.prog w = .ok (.enter 57 args) w := fun args w => by go_simp
  clear hO ht
  go_enter Try.func61, Try.ntmps61
  go_wp2
  go_loopw [8, 5] (fun i _ wr => ∃ j : Nat, i = .int .i64 j ∧ j ≤ l.length ∧ Hid ((l.take j).any (fun p => p.1 == t) = false) ∧ Hid (Below w.heap.size w wr)) (fun i _ _ => l.length - (intOf i).toNat)
  case atStart => exact ⟨0, rfl, Nat.zero_le _, rfl, Below.refl _ _⟩
  case round =>
    obtain ⟨j, rfl, hj, HN, HB⟩ := hrel
    by_cases hjl : j < l.length
    · have k1 : (j : Int) < (l.length : Int) := by omega
      obtain ⟨x, hx⟩ : ∃ x, l[j]? = some x := ⟨_, List.getElem?_eq_getElem hjl⟩
      obtain ⟨g, c, hv, hg, d0, d1⟩ := row_at HO.out hx
      cases hv
      have d0' := (HB.out.cell (p := ⟨g, j * 2, none⟩) hg).trans d0
      have d1' := (HB.out.cell (p := ⟨g, j * 2 + 1, none⟩) hg).trans d1
      have lg : g < wr.heap.size := Nat.lt_of_lt_of_le hg HB.out.size
      have HC : Hid (Calls Try.prog 57 #[wV x, .pointer (some ⟨tb, 0, none⟩)] wr fun e w' => e = .returned (.bool (x.1 == t)) ∧ Below wr.heap.size wr w') := waits1_any x t tb wr ((HB.out.cell (p := ⟨tb, 0, none⟩) hlt).trans HT.out) (Nat.lt_of_lt_of_le hlt HB.out.size)
      have HXx : Hid (l[j]? = some x) := hx
      clear d0 d1 hx
      cases hwr : (x.1 == t)
      · rw [hwr] at HC
        have HW : Hid ((fun p : Int × Int => p.1 == t) x = false) := hwr
        clear hwr
        go_wp2_with fail
        refine Calls.mono HC.out ?_
        rintro e w1 ⟨rfl, hb1⟩
        have HB1 : Hid (Below w.heap.size w w1) := HB.out.trans (hb1.mono HB.out.size)
        clear hb1 HC
        go_wp2
        go_roundw
        case rel => exact ⟨j + 1, by go_num, by omega, (any_take HN.out HXx.out).trans HW.out, HB1⟩
        case measure => simp [intOf]; omega
      · rw [hwr] at HC
        have HW : Hid ((fun p : Int × Int => p.1 == t) x = true) := hwr
        clear hwr
        go_wp2_with fail
        refine Calls.mono HC.out ?_
        rintro e w1 ⟨rfl, hb1⟩
        have HB1 : Hid (Below w.heap.size w w1) := HB.out.trans (hb1.mono HB.out.size)
        clear hb1 HC
        go_wp2
        go_ret
        exact ⟨⟨j, rfl, by rw [any_at HXx.out HW.out]; simp⟩, HB1.out⟩
    · have k1 : ¬ (j : Int) < (l.length : Int) := by omega
      have HE : Hid (l.any (fun p => p.1 == t) = false) := by have := HN.out; rwa [List.take_of_length_le (by omega)] at this
      go_wp2
      go_ret
      exact ⟨⟨-1, rfl, by rw [HE.out]; rfl⟩, HB.out⟩
set_option maxRecDepth 100000 in
set_option maxHeartbeats 4000000 in
theorem waits_any (a : Nat) (va vf vr vm : Value) (l : List (Int × Int)) (t : Int) (w : World) (hob : w.heap[a]? = some (obV va vf vr vm)) (hl : l.length ≤ 1000000) (hO : w.ownsRow 0 103 2 vr l.length (rowCells l)) :
    Calls Try.prog 49 #[.pointer (some ⟨a, 0, none⟩), .int .i64 t] w fun e w' => e = .returned (.bool (l.any (fun p => p.1 == t))) ∧ Below w.heap.size w w' := by
  have a0 := (Below.refl _ w).alloc (Nat.le_refl w.heap.size) (.cells #[.int .i64 t] 3)
  have b0 := heap_alloc_new w (.cells #[.int .i64 t] 3)
  have la := heap_lt hob
  have c2 : (w.alloc (.cells #[.int .i64 t] 3)).cell? ⟨a, 2, none⟩ = some vr := (a0.cell (p := ⟨a, 2, none⟩) la).trans (heap_cell hob rfl)
  have HI : Hid _ := indexW_any l vr t w.heap.size _ hl (own_same hO (fun g hg => by obtain ⟨cs, hc⟩ := own_blk hO hg; exact a0.block g (heap_lt hc))) (heap_cell b0 rfl) (heap_lt b0)
  have HB : Hid _ := a0
  have s0 : (w.alloc (.cells #[.int .i64 t] 3)).heap.size = w.heap.size + 1 := World.size_alloc ..
  have la2 : a < (w.alloc (.cells #[.int .i64 t] 3)).heap.size := by omega
  have HCo : Hid (Calls Try.prog 56 #[vr, .func (.func 57) #[] #[.pointer (some ⟨w.heap.size, 0, none⟩)]] (w.alloc (.cells #[.int .i64 t] 3)) fun e w' => e = .returned (.bool (l.any (fun p => p.1 == t))) ∧ Below (w.heap.size + 1) (w.alloc (.cells #[.int .i64 t] 3)) w') := by
    obtain ⟨ra, ca, rfl⟩ := own_sl hO
    clear hO hob b0 a0 c2 HB
    show Calls _ _ _ _ _
    go_enter Try.func56, Try.ntmps56
    go_wp2_with fail
    refine Calls.mono HI.out ?_
    rintro e w1 ⟨⟨n, rfl, hn⟩, hb1⟩
    have HN : Hid (l.any (fun p => p.1 == t) = decide (0 ≤ n)) := hn
    rw [s0] at hb1
    have HB1 : Hid _ := hb1
    clear hn hb1 HI
    go_wp2
    go_ret
    exact ⟨by rw [HN.out]; rfl, HB1.out⟩
  clear hO b0 a0 HI
  go_enter Try.func49, Try.ntmps49
  go_wp2_with fail
  refine Calls.mono HCo.out ?_
  rintro e w1 ⟨rfl, hb1⟩
  have HB1 : Hid (Below w.heap.size w w1) := HB.out.trans (hb1.mono (by omega))
  clear hb1 HCo
  go_wp2
  go_ret
  exact ⟨rfl, HB1.out⟩
end Go.Proofs.Ytaenoenchbfeiaa
