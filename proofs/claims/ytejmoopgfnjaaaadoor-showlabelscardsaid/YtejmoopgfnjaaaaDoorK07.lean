/- isWrong; does a cell that may not be met stand in a row?; Rows of cells of their own. -/
import Derived.Test.YtejmoopgfnjaaaaDoorK06
/- isWrong; does a cell that may not be met stand in a row? -/
namespace Go.Proofs.YtejmoopgfnjaaaaDoor
open Go.RowKit

abbrev cV (x : Cl) : Value := .agg #[.int .u8 x.k, .int .u8 x.c, .int .u64 x.a, .int .u64 x.b]
set_option maxRecDepth 100000 in
set_option maxHeartbeats 4000000 in
theorem isWrong_any (x : Cl) (w : World) (hx : OkK x) (hT : Tab w) :
    Calls Tryd.prog 31 #[cV x] w fun e w' => e = .returned (.bool (wrongC x)) ∧ Below w.heap.size w w' := by
  have a0 := (Below.refl _ w).alloc (Nat.le_refl w.heap.size) (KO x)
  have b0 := heap_alloc_new w (KO x)
  have c0 := heap_cell (j := 0) b0 rfl
  have c2 := heap_cell (j := 2) b0 rfl
  have l0 := heap_lt b0
  have HB : Hid (Below w.heap.size w (w.alloc (KO x))) := a0
  have HOf : Hid (Calls Tryd.prog 24 #[.int .u64 x.a] (w.alloc (KO x)) fun e w' => e = .returned (.tuple #[.int .u8 (ofT x.a), .int .i64 (ofN x.a), .bool (wd x.a)]) ∧ w' = w.alloc (KO x)) := of_any x.a _ hx.a (hT.below a0)
  clear a0 b0 hT
  unfold cV
  cases h0 : (x.k == 0)
  · cases h3 : (x.k == 3)
    · have HE : Hid (wrongC x = false) := by show _ = _; unfold wrongC; rw [h0, h3]; rfl
      go_enter Tryd.func31, Tryd.ntmps31
      go_wp2
      go_ret
      exact ⟨by rw [HE.out]; rfl, HB.out⟩
    · cases h5 : (ofT x.a == 5)
      · have HE : Hid (wrongC x = true) := by show _ = _; unfold wrongC; rw [h0, h3, bne, h5]; rfl
        go_enter Tryd.func31, Tryd.ntmps31
        go_wp2_with fail
        refine Calls.mono HOf.out ?_
        rintro e w1 ⟨rfl, hw1⟩
        rw [hw1]
        clear hw1 HOf
        have h5' : ofT x.a ≠ 5 := by simpa using h5
        generalize ofT x.a = t5 at *
        generalize ofN x.a = n5 at *
        go_wp2
        all_goals
          go_ret
          first
            | exact ⟨by rw [HE.out]; rfl, HB.out⟩
            | exact absurd rfl h5'
      · have HE : Hid (wrongC x = decide (ofN x.a < 0)) := by show _ = _; unfold wrongC; rw [h0, h3, bne, h5]; rfl
        have h5' : ofT x.a = 5 := by simpa using h5
        rw [HE.out]
        rw [h5'] at HOf
        clear HE h5 h5'
        generalize ofN x.a = n5 at *
        go_enter Tryd.func31, Tryd.ntmps31
        go_wp2_with fail
        refine Calls.mono HOf.out ?_
        rintro e w1 ⟨rfl, hw1⟩
        rw [hw1]
        clear hw1 HOf
        go_wp2
        go_ret
        exact ⟨rfl, HB.out⟩
  · have HE : Hid (wrongC x = true) := by show _ = _; unfold wrongC; rw [h0]; rfl
    go_enter Tryd.func31, Tryd.ntmps31
    go_wp2
    go_ret
    exact ⟨by rw [HE.out]; rfl, HB.out⟩
theorem any_take {α : Type} {p : α → Bool} {l : List α} {j : Nat} {x : α} (h : (l.take j).any p = false) (hx : l[j]? = some x) : (l.take (j + 1)).any p = p x := by
  rw [List.take_add_one, hx, List.any_append, h]; simp
theorem any_at {α : Type} {p : α → Bool} {l : List α} {j : Nat} {x : α} (hx : l[j]? = some x) (h : p x = true) : l.any p = true := List.any_eq_true.2 ⟨x, List.mem_of_getElem? hx, h⟩
set_option maxRecDepth 100000 in
set_option maxHeartbeats 4000000 in
theorem indexWrong_any (l : List Cl) (ra : Option Addr) (ca : Nat) (w : World) (hl : l.length ≤ 1000000) (hH : HR w ra l) (hT : Tab w) :
    Calls Tryd.prog 47 #[.slice ra l.length ca, .func (.func 31) #[] #[]] w fun e w' => (∃ n : Int, e = .returned (.int .i64 n) ∧ (l.any wrongC = decide (0 ≤ n))) ∧ Below w.heap.size w w' := by
  have HH : Hid (HR w ra l ∧ Tab w) := ⟨hH, hT⟩
  clear hH hT
  have hen : ∀ (args : Array Value) (w : World), (callFunc 31 args).run Tryd.prog w = .ok (.enter 31 args) w := fun args w => by go_simp
  go_enter Tryd.func47, Tryd.ntmps47
  go_wp2
  go_loopw [8, 5] (fun i _ wr => ∃ j : Nat, i = .int .i64 j ∧ j ≤ l.length ∧ Hid ((l.take j).any wrongC = false) ∧ Hid (Below w.heap.size w wr)) (fun i _ _ => l.length - (intOf i).toNat)
  case atStart => exact ⟨0, rfl, Nat.zero_le _, rfl, Below.refl _ _⟩
  case round =>
    obtain ⟨j, rfl, hj, HN, HB⟩ := hrel
    by_cases hlt : j < l.length
    · have k1 : (j : Int) < (l.length : Int) := by omega
      obtain ⟨x, hx⟩ : ∃ x, l[j]? = some x := ⟨_, List.getElem?_eq_getElem hlt⟩
      obtain ⟨b, o, q1, q2⟩ := HH.out.1.below HB.out
      obtain rfl : ra = some ⟨b, o, none⟩ := q1.resolve_left (by omega)
      obtain ⟨l1, ⟨d0, d1, d2, d3⟩, hkx⟩ := q2 j x hx
      have HC : Hid (Calls Tryd.prog 31 #[cV x] wr fun e w' => e = .returned (.bool (wrongC x)) ∧ Below wr.heap.size wr w') := isWrong_any x wr hkx (HH.out.2.below HB.out)
      have HXx : Hid (l[j]? = some x) := hx
      clear q1 q2 hx hkx
      cases hwr : wrongC x
      · rw [hwr] at HC
        have HW : Hid (wrongC x = false) := hwr
        clear hwr
        go_wp2_with fail
        refine Calls.mono HC.out ?_
        rintro e w1 ⟨rfl, hb1⟩
        have HB1 : Hid (Below w.heap.size w w1) := HB.out.trans (hb1.mono HB.out.size)
        clear hb1 HC
        go_wp2
        go_roundw
        case rel => exact ⟨j + 1, by go_num, by omega, (any_take HN.out HXx.out).trans HW.out, HB1⟩
        case measure => simp [intOf]; omega
      · rw [hwr] at HC
        have HW : Hid (wrongC x = true) := hwr
        clear hwr
        go_wp2_with fail
        refine Calls.mono HC.out ?_
        rintro e w1 ⟨rfl, hb1⟩
        have HB1 : Hid (Below w.heap.size w w1) := HB.out.trans (hb1.mono HB.out.size)
        clear hb1 HC
        go_wp2
        go_ret
        exact ⟨⟨j, rfl, by rw [any_at HXx.out HW.out]; simp⟩, HB1.out⟩
    · have k1 : ¬ (j : Int) < (l.length : Int) := by omega
      have HE : Hid (l.any wrongC = false) := by have := HN.out; rwa [List.take_of_length_le (by omega)] at this
      go_wp2
      go_ret
      exact ⟨⟨-1, rfl, by rw [HE.out]; rfl⟩, HB.out⟩
set_option maxRecDepth 100000 in
set_option maxHeartbeats 4000000 in
theorem anyWrong_any (l : List Cl) (ra : Option Addr) (ca : Nat) (w : World) (hl : l.length ≤ 1000000) (hH : HR w ra l) (hT : Tab w) :
    Calls Tryd.prog 30 #[.slice ra l.length ca, .func (.func 31) #[] #[]] w fun e w' => e = .returned (.bool (l.any wrongC)) ∧ Below w.heap.size w w' := by
  have HI : Hid _ := indexWrong_any l ra ca w hl hH hT
  clear hH hT
  go_enter Tryd.func30, Tryd.ntmps30
  go_wp2_with fail
  refine Calls.mono HI.out ?_
  rintro e w1 ⟨⟨n, rfl, hn⟩, hb1⟩
  have HB1 : Hid (Below w.heap.size w w1) := hb1
  have HN : Hid (l.any wrongC = decide (0 ≤ n)) := hn
  clear hb1 hn HI
  go_wp2
  go_ret
  exact ⟨by rw [HN.out]; rfl, HB1.out⟩
end Go.Proofs.YtejmoopgfnjaaaaDoor

/- Rows of cells of their own. -/
namespace Go.Proofs.YtejmoopgfnjaaaaDoor
open Go.RowKit

def cells4 (x : Cl) : List Value := [.int .u8 x.k, .int .u8 x.c, .int .u64 x.a, .int .u64 x.b]
theorem clCells_eq : ∀ (l : List Cl) (k : Nat), (clCells l)[k]? = (l[k / 4]?).bind fun x => (cells4 x)[k % 4]?
  | [], k => by simp [clCells]
  | x :: l, 0 => rfl
  | x :: l, 1 => rfl
  | x :: l, 2 => rfl
  | x :: l, 3 => rfl
  | x :: l, k + 4 => by
    rw [show (k + 4) / 4 = k / 4 + 1 by omega, show (k + 4) % 4 = k % 4 by omega]
    show (clCells l)[k]? = _
    rw [clCells_eq l k]; rfl
/-- All cells of a row that is read. -/
theorem hr_all {w : World} {b o : Nat} {l : List Cl} (h : HX w (some ⟨b, o, none⟩) l) : ∀ (j : Nat) (u : Value), (clCells l)[j]? = some u → w.cell? ((⟨b, o, none⟩ : Addr).add j) = some u := by
  intro j u hj
  obtain ⟨b', o', h1, h2⟩ := h
  rw [clCells_eq] at hj
  obtain ⟨x, hx, hv⟩ := Option.bind_eq_some_iff.1 hj
  have hl := (List.getElem?_eq_some_iff.1 hx).1
  have e : (some ⟨b, o, none⟩ : Option Addr) = some ⟨b', o', none⟩ := h1.resolve_left (by omega)
  cases e
  obtain ⟨_, a0, a1, a2, a3⟩ := h2 _ x hx
  rw [ad_add]
  have hm : j % 4 = 0 ∨ j % 4 = 1 ∨ j % 4 = 2 ∨ j % 4 = 3 := by omega
  rcases hm with hm | hm | hm | hm <;> rw [hm] at hv <;> have hv2 := Option.some.inj hv <;> subst hv2
  · rw [show o + j = o + j / 4 * 4 by omega]; exact a0
  · rw [show o + j = o + j / 4 * 4 + 1 by omega]; exact a1
  · rw [show o + j = o + j / 4 * 4 + 1 + 1 by omega]; exact a2
  · rw [show o + j = o + j / 4 * 4 + 1 + 1 + 1 by omega]; exact a3
theorem clCells_one (l : List Cl) : ∀ u ∈ clCells l, u.oneCell' = true := by
  induction l with
  | nil => intro u hu; cases hu
  | cons x l ih =>
    intro u hu
    simp only [clCells, List.mem_cons] at hu
    rcases hu with rfl | rfl | rfl | rfl | hu
    · rfl
    · rfl
    · rfl
    · rfl
    · exact ih u hu
/-- A row of cells of its own. -/
def OwnH (w : World) (g N : Nat) (l : List Cl) : Prop := DR w 39 g N (fun k u => ∀ v, (clCells l)[k]? = some v → u = v) ∧ l.length * 4 ≤ N
theorem own_h {w : World} {B g n cap : Nat} {l : List Cl} (h : w.ownsRow B 39 4 (.slice (some ⟨g, 0, none⟩) n cap) n (clCells l)) (hl : l.length = n) : OwnH w g (cap * 4) l := by
  rcases h.2 with ⟨h0, _⟩ | ⟨g', cap', cur, hv, _, hh, hc, _, hsz, ht⟩
  · cases h0
  · cases hv
    refine ⟨⟨cur, hh, hsz, fun k u hk v hv => ?_⟩, by omega⟩
    have hkl := (List.getElem?_eq_some_iff.1 hv).1
    rw [clCells_len] at hkl
    rw [← ht, List.getElem?_take_of_lt (by omega), Array.getElem?_toList, hk] at hv
    exact Option.some.inj hv
theorem OwnH.hx {w : World} {g N : Nat} {l : List Cl} (h : OwnH w g N l) : HX w (some ⟨g, 0, none⟩) l := by
  refine ⟨g, 0, .inr rfl, fun j x hx => ⟨h.1.lt, ?_⟩⟩
  obtain ⟨h0, h1, h2, h3⟩ := clCells_at l j x hx
  simp only [Nat.zero_add]
  have e := fun q (v : Value) (hq : (clCells l)[q]? = some v) => show w.cell? ⟨g, q, none⟩ = some v by
    obtain ⟨u, hu, hu2⟩ := h.1.cell (j := q) (by have := (List.getElem?_eq_some_iff.1 hq).1; have h9 := h.2; rw [clCells_len] at this; omega)
    rw [hu, hu2 v hq]
  exact ⟨e _ _ h0, e _ _ h1, e _ _ h2, e _ _ h3⟩
end Go.Proofs.YtejmoopgfnjaaaaDoor
