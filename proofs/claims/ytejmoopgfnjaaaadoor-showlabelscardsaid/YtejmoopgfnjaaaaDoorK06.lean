/- Rows that are read; Form, as it is read.; What is seen from a word: plain mathematics. -/
import Derived.Test.YtejmoopgfnjaaaaDoorK05
import Derived.BigQuiet
import Derived.Laws.StructEq
/- Rows that are read; Form, as it is read. -/
namespace Go.Proofs.YtejmoopgfnjaaaaDoor
open Go.RowKit

theorem below_drewM {n : Nat} {w0 w : World} (h : Below n w0 w) (k : Nat) : Below n w0 (w.drewN k) := by
  induction k generalizing w with
  | zero => exact h
  | succ k ih => exact (ih h).drew
theorem eq_drop {α : Type} {l m : List α} (_ : l.length = m.length) {j : Nat} {x y : α} (hx : l[j]? = some x) (hy : m[j]? = some y) (h : x ≠ y) : l ≠ m := fun e => by subst e; rw [hx] at hy; exact h (Option.some.inj hy)
theorem eq_of_take {α : Type} {l m : List α} (hlen : l.length = m.length) {j : Nat} (hj : ¬ j < l.length) (h : l.take j = m.take j) : l = m := by
  rwa [List.take_of_length_le (by omega), List.take_of_length_le (by omega)] at h
/-- A row that is read. -/
def RX {α : Type} (enc : α → Value) (w : World) (ra : Option Addr) (l : List α) : Prop := ∃ b o, (l.length = 0 ∨ ra = some ⟨b, o, none⟩) ∧ ∀ (j : Nat) (x : α), l[j]? = some x → b < w.heap.size ∧ w.cell? ⟨b, o + j, none⟩ = some (enc x)
theorem RX.at {α : Type} {enc : α → Value} {w : World} {ra : Option Addr} {l : List α} (h : RX enc w ra l) : ∃ b o, (l.length ≠ 0 → ra = some ⟨b, o, none⟩) ∧ ∀ (j : Nat) (x : α), l[j]? = some x → b < w.heap.size ∧ w.cell? ⟨b, o + j, none⟩ = some (enc x) := by
  obtain ⟨b, o, h1, h2⟩ := h
  exact ⟨b, o, fun q => h1.resolve_left q, h2⟩
theorem RX.below {α : Type} {enc : α → Value} {w w' : World} {ra : Option Addr} {l : List α} (h : RX enc w ra l) (hb : Below w.heap.size w w') : RX enc w' ra l := by
  obtain ⟨b, o, h1, h2⟩ := h
  exact ⟨b, o, h1, fun j x hx => ⟨Nat.lt_of_lt_of_le (h2 j x hx).1 hb.size, (hb.cell (p := ⟨b, o + j, none⟩) (h2 j x hx).1).trans (h2 j x hx).2⟩⟩
theorem WR.rx {w : World} {ra : Option Addr} {l : List Int} (h : WR w ra l) : RX (Value.int .u64) w ra l := by
  obtain ⟨b, o, h1, h2⟩ := h
  exact ⟨b, o, h1, fun j x hx => ⟨(h2 j x hx).1, (h2 j x hx).2.1⟩⟩
/-- A row of cells that is read, whatever stands in it. -/
def HX (w : World) (ra : Option Addr) (l : List Cl) : Prop := ∃ b o, (l.length = 0 ∨ ra = some ⟨b, o, none⟩) ∧ ∀ (j : Nat) (x : Cl), l[j]? = some x → b < w.heap.size ∧ (w.cell? ⟨b, o + j * 4, none⟩ = some (.int .u8 x.k) ∧ w.cell? ⟨b, o + j * 4 + 1, none⟩ = some (.int .u8 x.c) ∧ w.cell? ⟨b, o + j * 4 + 1 + 1, none⟩ = some (.int .u64 x.a) ∧ w.cell? ⟨b, o + j * 4 + 1 + 1 + 1, none⟩ = some (.int .u64 x.b))
theorem HX.at {w : World} {ra : Option Addr} {l : List Cl} (h : HX w ra l) : ∃ b o, (l.length ≠ 0 → ra = some ⟨b, o, none⟩) ∧ ∀ (j : Nat) (x : Cl), l[j]? = some x → b < w.heap.size ∧ (w.cell? ⟨b, o + j * 4, none⟩ = some (.int .u8 x.k) ∧ w.cell? ⟨b, o + j * 4 + 1, none⟩ = some (.int .u8 x.c) ∧ w.cell? ⟨b, o + j * 4 + 1 + 1, none⟩ = some (.int .u64 x.a) ∧ w.cell? ⟨b, o + j * 4 + 1 + 1 + 1, none⟩ = some (.int .u64 x.b)) := by
  obtain ⟨b, o, h1, h2⟩ := h
  exact ⟨b, o, fun q => h1.resolve_left q, h2⟩
theorem HR.hx {w : World} {ra : Option Addr} {l : List Cl} (h : HR w ra l) : HX w ra l := by
  obtain ⟨b, o, h1, h2⟩ := h
  exact ⟨b, o, h1, fun j x hx => ⟨(h2 j x hx).1, (h2 j x hx).2.1⟩⟩
theorem HX.below {w w' : World} {ra : Option Addr} {l : List Cl} (h : HX w ra l) (hb : Below w.heap.size w w') : HX w' ra l := by
  obtain ⟨b, o, h1, h2⟩ := h
  refine ⟨b, o, h1, fun j x hx => ?_⟩
  obtain ⟨g, a0, a1, a2, a3⟩ := h2 j x hx
  have e := fun q => hb.cell (p := ⟨b, q, none⟩) g
  exact ⟨Nat.lt_of_lt_of_le g hb.size, (e _).trans a0, (e _).trans a1, (e _).trans a2, (e _).trans a3⟩
def sameCl (x y : Cl) : Bool := ((x.k == y.k && x.c == y.c) && x.a == y.a) && x.b == y.b
theorem sameCl_iff {x y : Cl} : sameCl x y = true ↔ x = y := by
  obtain ⟨a, b, c, d⟩ := x
  obtain ⟨a', b', c', d'⟩ := y
  unfold sameCl
  simp only [Bool.and_eq_true, beq_iff_eq, Cl.mk.injEq]
  constructor
  · rintro ⟨⟨⟨h1, h2⟩, h3⟩, h4⟩; exact ⟨h1, h2, h3, h4⟩
  · rintro ⟨h1, h2, h3, h4⟩; exact ⟨⟨⟨h1, h2⟩, h3⟩, h4⟩
instance : DecidableEq Cl := fun x y => if h : sameCl x y = true then isTrue (sameCl_iff.1 h) else isFalse (fun e => h (sameCl_iff.2 e))
theorem HX.hr {w : World} {ra : Option Addr} {l : List Cl} (h : HX w ra l) (hk : ∀ x ∈ l, OkK x) : HR w ra l := by
  obtain ⟨b, o, h1, h2⟩ := h
  exact ⟨b, o, h1, fun j x hx => ⟨(h2 j x hx).1, (h2 j x hx).2, hk x (List.mem_of_getElem? hx)⟩⟩
theorem wr_rng {w : World} {rb : Option Addr} {l : List Int} (h : WR w rb l) : ∀ x ∈ l, Rng x := fun x hx => by
  obtain ⟨j, hj⟩ := List.getElem?_of_mem hx
  obtain ⟨b, o, _, h2⟩ := h
  exact (h2 j x hj).2.2
theorem moved_rng {row : List Nat} {x : Int} (hx : Rng x) : Rng (movedM row x) := by
  unfold movedM
  split
  · exact mkW_rng ..
  · exact hx
theorem formed_ok {row : List Nat} {x : Cl} (hx : OkK x) : OkK (formedM row x) := by
  unfold formedM
  split
  · exact ⟨by decide, by decide, by unfold Rng; decide, by unfold Rng; decide⟩
  · exact ⟨hx.k, ⟨Int.le_refl 0, (by omega : (0 : Int) ≤ 255)⟩, moved_rng hx.a, moved_rng hx.b⟩
theorem hr_ok {w : World} {ra : Option Addr} {l : List Cl} (h : HR w ra l) : ∀ x ∈ l, OkK x := fun x hx => by
  obtain ⟨j, hj⟩ := List.getElem?_of_mem hx
  obtain ⟨b, o, _, h2⟩ := h
  exact (h2 j x hj).2.2
theorem formH_ok {h : List Cl} {r : St} (hk : ∀ x ∈ h, OkK x) : ∀ x ∈ formH h r, OkK x := fun x hx => by
  unfold formH at hx
  obtain ⟨p, _, rfl⟩ := List.mem_map.1 hx
  refine formed_ok ?_
  rw [List.getD_eq_getElem?_getD]
  cases hc : h[p.1]? with
  | none => exact ⟨by decide, by decide, by unfold Rng; decide, by unfold Rng; decide⟩
  | some x => exact hk x (List.mem_of_getElem? hc)
/-- Form's heap and roots of a heap and its roots. -/
def fH (h : List Cl) (l : List Int) : List Cl := formH h (walkM h false l)
def fR (h : List Cl) (l : List Int) : List Int := l.map (movedM ((walkM h false l).map (·.1)))
theorem fH_len (h : List Cl) (l : List Int) : (fH h l).length = (walkM h false l).length := by unfold fH formH; simp
theorem fR_len (h : List Cl) (l : List Int) : (fR h l).length = l.length := by unfold fR; simp
theorem dr_hx {w : World} {t g n : Nat} {l : List Cl} (hd : DR w t g n (fun k u => (clCells l)[k]? = some u)) (hn : l.length * 4 = n) : HX w (some ⟨g, 0, none⟩) l := by
  refine ⟨g, 0, .inr rfl, fun j x hx => ⟨hd.lt, ?_⟩⟩
  obtain ⟨h0, h1, h2, h3⟩ := clCells_at l j x hx
  simp only [Nat.zero_add]
  have e := fun q (v : Value) (hq : (clCells l)[q]? = some v) => show w.cell? ⟨g, q, none⟩ = some v by
    obtain ⟨u, hu, hu2⟩ := hd.cell (j := q) (by have := (List.getElem?_eq_some_iff.1 hq).1; rw [clCells_len] at this; omega)
    rw [hu]; rw [hq] at hu2; exact hu2.symm
  exact ⟨e _ _ h0, e _ _ h1, e _ _ h2, e _ _ h3⟩
theorem form_ok (h : List Cl) (l : List Int) (ra rb : Option Addr) (ca cb : Nat) (w : World) (hH : HR w ra h) (hR : WR w rb l) (hT : Tab w) (hn : h.length ≤ 1000000) (hl : l.length ≤ 1000000) (hB : heapB h l = true) :
    Calls Tryd.prog 28 #[.slice ra h.length ca, .slice rb l.length cb] w fun e w' => (∃ g1 g2, e = .returned (.tuple #[.slice (some ⟨g1, 0, none⟩) (fH h l).length (fH h l).length, .slice (some ⟨g2, 0, none⟩) (fR h l).length (fR h l).length, .int .i64 0]) ∧ HR w' (some ⟨g1, 0, none⟩) (fH h l) ∧ WR w' (some ⟨g2, 0, none⟩) (fR h l)) ∧ Below w.heap.size w w' := by
  refine (form_any h l ra rb ca cb w hH hR hT hn hl).mono ?_
  rintro e w' ⟨hr, hb⟩
  refine ⟨?_, hb⟩
  rcases hr with ⟨h1, _⟩ | ⟨_, g1, g2, _, rfl, hd1, hd2⟩
  · rw [hB] at h1; cases h1
  · rw [fH_len, fR_len]
    refine ⟨g1, g2, rfl, (dr_hx hd1 (by rw [← fH_len]; rfl)).hr (formH_ok (hr_ok hH)), ?_⟩
    refine ⟨g2, 0, .inr rfl, fun j x hx => ?_⟩
    have hj := (List.getElem?_eq_some_iff.1 hx).1
    rw [fR_len] at hj
    unfold fR at hx
    rw [List.getElem?_map] at hx
    obtain ⟨y, hy, rfl⟩ := Option.map_eq_some_iff.1 hx
    obtain ⟨u, hu, hu2⟩ := hd2.cell hj
    refine ⟨hd2.lt, ?_, moved_rng (wr_rng hR y (List.mem_of_getElem? hy))⟩
    rw [Nat.zero_add, hu, hu2 y hy]
theorem form_bad (h : List Cl) (l : List Int) (ra rb : Option Addr) (ca cb : Nat) (w : World) (hH : HR w ra h) (hR : WR w rb l) (hT : Tab w) (hn : h.length ≤ 1000000) (hl : l.length ≤ 1000000) (hB : heapB h l = false) :
    Calls Tryd.prog 28 #[.slice ra h.length ca, .slice rb l.length cb] w fun e w' => e = .returned (.tuple #[.slice none 0 0, .slice none 0 0, .int .i64 100]) ∧ Below w.heap.size w w' := by
  refine (form_any h l ra rb ca cb w hH hR hT hn hl).mono ?_
  rintro e w' ⟨hr, hb⟩
  refine ⟨?_, hb⟩
  rcases hr with ⟨_, h1⟩ | ⟨h1, _⟩
  · exact h1
  · rw [hB] at h1; cases h1
end Go.Proofs.YtejmoopgfnjaaaaDoor

/- What is seen from a word: plain mathematics. -/
namespace Go.Proofs.YtejmoopgfnjaaaaDoor

/-- A heap with nothing in its boxes' second words. -/
def bareC (x : Cl) : Cl := if x.k = 2 then ⟨x.k, x.c, x.a, 1⟩ else x
def bareM (h : List Cl) : List Cl := h.map bareC
/-- May a cell not be met? -/
def wrongC (x : Cl) : Bool := (x.k == 0) || ((x.k == 3) && ((ofT x.a != 5) || decide (ofN x.a < 0)))
/-- Does a word fit a heap? -/
def fitsB (h : List Cl) (x : Int) : Bool := (badC h.length h 0).isNone && (heapB (bareM h) [x] && !((fH (bareM h) [x]).any wrongC))
theorem bare_len (h : List Cl) : (bareM h).length = h.length := by unfold bareM; simp
theorem bare_get {h : List Cl} {j : Nat} {x : Cl} (hx : h[j]? = some x) : (bareM h)[j]? = some (bareC x) := by unfold bareM; rw [List.getElem?_map, hx]; rfl
theorem fits1 (n : Nat) : fitsW n 1 = true := by
  have h1 : wd 1 = true := by kernel_rfl
  have h2 : refN 1 = none := by kernel_rfl
  unfold fitsW; rw [h1, h2]; rfl
theorem bare_ok {n : Nat} {x : Cl} (h : okCl n x = true) : okCl n (bareC x) = true := by
  unfold bareC
  split
  · rename_i hk
    have hp := okCl_parts h
    refine okCl_of ⟨hp.1, .inr ⟨?_, fits1 n⟩⟩
    rcases hp.2 with h0 | h0
    · omega
    · exact h0.1
  · exact h
end Go.Proofs.YtejmoopgfnjaaaaDoor
