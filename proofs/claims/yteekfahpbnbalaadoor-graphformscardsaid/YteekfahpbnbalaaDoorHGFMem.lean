/- Cells that are written, one by one. -/
import Derived.Test.YteekfahpbnbalaaDoorHGFLib
namespace Go.Proofs.YteekfahpbnbalaaDoor
open Go.RowKit

def cells4 (x : Cl) : List Value := [.int .u8 x.k, .int .u8 x.c, .int .u64 x.a, .int .u64 x.b]
theorem clCells_eq : ∀ (l : List Cl) (k : Nat), (clCells l)[k]? = (l[k / 4]?).bind fun x => (cells4 x)[k % 4]?
  | [], k => by simp [clCells]
  | x :: l, 0 => rfl
  | x :: l, 1 => rfl
  | x :: l, 2 => rfl
  | x :: l, 3 => rfl
  | x :: l, k + 4 => by
    rw [show (k + 4) / 4 = k / 4 + 1 by omega, show (k + 4) % 4 = k % 4 by omega]
    show (clCells l)[k]? = _
    rw [clCells_eq l k]; rfl
theorem dr_set4 {W : World} {t g N : Nat} {P : Nat → Value → Prop} (m : Nat) (x : Cl) (h : DR W t g N P) : DR ((((W.setCell ⟨g, m * 4, none⟩ (.int .u8 x.k)).setCell ⟨g, m * 4 + 1, none⟩ (.int .u8 x.c)).setCell ⟨g, m * 4 + 1 + 1, none⟩ (.int .u64 x.a)).setCell ⟨g, m * 4 + 1 + 1 + 1, none⟩ (.int .u64 x.b)) t g N (fun k u => (k / 4 = m → (cells4 x)[k % 4]? = some u) ∧ (k / 4 ≠ m → P k u)) := by
  have q1 := h.set (j := m * 4) (P' := fun k u => (k / 4 = m → k % 4 < 1 → (cells4 x)[k % 4]? = some u) ∧ (k / 4 ≠ m → P k u)) (v := .int .u8 x.k) (fun k u hk hh => ⟨fun h1 h2 => by omega, fun _ => hh⟩) ⟨fun h1 h2 => by rw [show m * 4 % 4 = 0 by omega]; rfl, fun h1 => absurd (by omega) h1⟩
  have q2 := q1.set (j := m * 4 + 1) (P' := fun k u => (k / 4 = m → k % 4 < 2 → (cells4 x)[k % 4]? = some u) ∧ (k / 4 ≠ m → P k u)) (v := .int .u8 x.c) (fun k u hk hh => ⟨fun h1 h2 => hh.1 h1 (by omega), hh.2⟩) ⟨fun h1 h2 => by rw [show (m * 4 + 1) % 4 = 1 by omega]; rfl, fun h1 => absurd (by omega) h1⟩
  have q3 := q2.set (j := m * 4 + 1 + 1) (P' := fun k u => (k / 4 = m → k % 4 < 3 → (cells4 x)[k % 4]? = some u) ∧ (k / 4 ≠ m → P k u)) (v := .int .u64 x.a) (fun k u hk hh => ⟨fun h1 h2 => hh.1 h1 (by omega), hh.2⟩) ⟨fun h1 h2 => by rw [show (m * 4 + 1 + 1) % 4 = 2 by omega]; rfl, fun h1 => absurd (by omega) h1⟩
  exact q3.set (j := m * 4 + 1 + 1 + 1) (v := .int .u64 x.b) (fun k u hk hh => ⟨fun h1 => hh.1 h1 (by omega), hh.2⟩) ⟨fun h1 => by rw [show (m * 4 + 1 + 1 + 1) % 4 = 3 by omega]; rfl, fun h1 => absurd (by omega) h1⟩
theorem below_set4 {B : Nat} {w0 W : World} (g m : Nat) (x : Cl) (h : Below B w0 W) (hg : B ≤ g) : Below B w0 ((((W.setCell ⟨g, m * 4, none⟩ (.int .u8 x.k)).setCell ⟨g, m * 4 + 1, none⟩ (.int .u8 x.c)).setCell ⟨g, m * 4 + 1 + 1, none⟩ (.int .u64 x.a)).setCell ⟨g, m * 4 + 1 + 1 + 1, none⟩ (.int .u64 x.b)) :=
  (((h.setCell (p := ⟨g, m * 4, none⟩) hg _).setCell (p := ⟨g, m * 4 + 1, none⟩) hg _).setCell (p := ⟨g, m * 4 + 1 + 1, none⟩) hg _).setCell (p := ⟨g, m * 4 + 1 + 1 + 1, none⟩) hg _
/-- The other heap, as far as it is written: its first j cells. -/
def OthD (w : World) (g : Nat) (h : List Cl) (τ : Nat → Nat) (j : Nat) : Prop := DR w 39 g ((h.length + 1) * 4) (fun k u => ∀ i, i < j → k / 4 = τ i → (cells4 (othAt h τ i))[k % 4]? = some u)
theorem OthD.step {W : World} {g : Nat} {h : List Cl} {τ ρ : Nat → Nat} {j : Nat} (hp : Perm (h.length + 1) τ ρ) (hj : j < h.length + 1) (hd : OthD W g h τ j) {x : Cl} (hx : othAt h τ j = x) : OthD ((((W.setCell ⟨g, τ j * 4, none⟩ (.int .u8 x.k)).setCell ⟨g, τ j * 4 + 1, none⟩ (.int .u8 x.c)).setCell ⟨g, τ j * 4 + 1 + 1, none⟩ (.int .u64 x.a)).setCell ⟨g, τ j * 4 + 1 + 1 + 1, none⟩ (.int .u64 x.b)) g h τ (j + 1) := by
  refine (dr_set4 (τ j) x hd).mono (fun k u _ hh i hi hk => ?_)
  by_cases he : i = j
  · subst he; rw [hx]; exact hh.1 hk
  · refine hh.2 (fun e => he ?_) i (by omega) hk
    have h1 := hp.back i (by omega)
    have h2 := hp.back j (by omega)
    rw [← hk, e, h2] at h1
    exact h1.symm
theorem OthD.hx {w : World} {g : Nat} {h : List Cl} {τ ρ : Nat → Nat} (hp : Perm (h.length + 1) τ ρ) (hd : OthD w g h τ (h.length + 1)) : HX w (some ⟨g, 0, none⟩) (othH h τ ρ) := by
  refine ⟨g, 0, .inr rfl, fun j x hx => ⟨DR.lt hd, ?_⟩⟩
  have hj := (List.getElem?_eq_some_iff.1 hx).1
  rw [oth_len] at hj
  have h1 := oth_get hp (hp.lt' j hj)
  rw [hp.there j hj, hx] at h1
  have hxe := Option.some.inj h1
  have e := fun (q : Nat) (v : Value) (hq : q < 4) (hv : (cells4 x)[q]? = some v) => show w.cell? ⟨g, j * 4 + q, none⟩ = some v by
    obtain ⟨u, hu, hu2⟩ := DR.cell hd (j := j * 4 + q) (by omega)
    have := hu2 (ρ j) (hp.lt' j hj) (by rw [hp.there j hj]; omega)
    rw [← hxe, show (j * 4 + q) % 4 = q by omega, hv] at this
    rw [hu, Option.some.inj this]
  simp only [Nat.zero_add]
  exact ⟨e 0 _ (by omega) rfl, e 1 _ (by omega) rfl, e 2 _ (by omega) rfl, e 3 _ (by omega) rfl⟩
/-- All cells of a row that is read. -/
theorem hr_all {w : World} {b o : Nat} {l : List Cl} (h : HX w (some ⟨b, o, none⟩) l) : ∀ (j : Nat) (u : Value), (clCells l)[j]? = some u → w.cell? ((⟨b, o, none⟩ : Addr).add j) = some u := by
  intro j u hj
  obtain ⟨b', o', h1, h2⟩ := h
  rw [clCells_eq] at hj
  obtain ⟨x, hx, hv⟩ := Option.bind_eq_some_iff.1 hj
  have hl := (List.getElem?_eq_some_iff.1 hx).1
  have e : (some ⟨b, o, none⟩ : Option Addr) = some ⟨b', o', none⟩ := h1.resolve_left (by omega)
  cases e
  obtain ⟨_, a0, a1, a2, a3⟩ := h2 _ x hx
  rw [ad_add]
  have hm : j % 4 = 0 ∨ j % 4 = 1 ∨ j % 4 = 2 ∨ j % 4 = 3 := by omega
  rcases hm with hm | hm | hm | hm <;> rw [hm] at hv <;> have hv2 := Option.some.inj hv <;> subst hv2
  · rw [show o + j = o + j / 4 * 4 by omega]; exact a0
  · rw [show o + j = o + j / 4 * 4 + 1 by omega]; exact a1
  · rw [show o + j = o + j / 4 * 4 + 1 + 1 by omega]; exact a2
  · rw [show o + j = o + j / 4 * 4 + 1 + 1 + 1 by omega]; exact a3
theorem clCells_one (l : List Cl) : ∀ u ∈ clCells l, u.oneCell' = true := by
  induction l with
  | nil => intro u hu; cases hu
  | cons x l ih =>
    intro u hu
    simp only [clCells, List.mem_cons] at hu
    rcases hu with rfl | rfl | rfl | rfl | hu
    · rfl
    · rfl
    · rfl
    · rfl
    · exact ih u hu
/-- A row of cells of its own. -/
def OwnH (w : World) (g N : Nat) (l : List Cl) : Prop := DR w 39 g N (fun k u => ∀ v, (clCells l)[k]? = some v → u = v) ∧ l.length * 4 ≤ N
theorem own_h {w : World} {B g n cap : Nat} {l : List Cl} (h : w.ownsRow B 39 4 (.slice (some ⟨g, 0, none⟩) n cap) n (clCells l)) (hl : l.length = n) : OwnH w g (cap * 4) l := by
  rcases h.2 with ⟨h0, _⟩ | ⟨g', cap', cur, hv, _, hh, hc, _, hsz, ht⟩
  · cases h0
  · cases hv
    refine ⟨⟨cur, hh, hsz, fun k u hk v hv => ?_⟩, by omega⟩
    have hkl := (List.getElem?_eq_some_iff.1 hv).1
    rw [clCells_len] at hkl
    rw [← ht, List.getElem?_take_of_lt (by omega), Array.getElem?_toList, hk] at hv
    exact Option.some.inj hv
theorem OwnH.hx {w : World} {g N : Nat} {l : List Cl} (h : OwnH w g N l) : HX w (some ⟨g, 0, none⟩) l := by
  refine ⟨g, 0, .inr rfl, fun j x hx => ⟨h.1.lt, ?_⟩⟩
  obtain ⟨h0, h1, h2, h3⟩ := clCells_at l j x hx
  simp only [Nat.zero_add]
  have e := fun q (v : Value) (hq : (clCells l)[q]? = some v) => show w.cell? ⟨g, q, none⟩ = some v by
    obtain ⟨u, hu, hu2⟩ := h.1.cell (j := q) (by have := (List.getElem?_eq_some_iff.1 hq).1; have h9 := h.2; rw [clCells_len] at this; omega)
    rw [hu, hu2 v hq]
  exact ⟨e _ _ h0, e _ _ h1, e _ _ h2, e _ _ h3⟩
/-- One cell's first word turned. -/
theorem OwnH.turn {w : World} {g N c : Nat} {l : List Cl} {x : Cl} (h : OwnH w g N l) (hx : l[c]? = some x) (v : Int) : OwnH (w.setCell ⟨g, c * 4 + 1 + 1, none⟩ (.int .u64 v)) g N (l.set c ⟨x.k, x.c, v, x.b⟩) := by
  have hc := (List.getElem?_eq_some_iff.1 hx).1
  refine ⟨h.1.set (fun k u hk hh v' hv' => hh v' ?_) (fun v' hv' => ?_), by rw [List.length_set]; exact h.2⟩
  · rw [clCells_eq] at hv' ⊢
    rw [List.getElem?_set] at hv'
    split at hv'
    · rename_i he
      rw [← he, hx]
      have hm : k % 4 = 0 ∨ k % 4 = 1 ∨ k % 4 = 3 := by omega
      rcases hm with hm | hm | hm <;> rw [hm] at hv' ⊢ <;> exact hv'
    · exact hv'
  · rw [clCells_eq, show (c * 4 + 1 + 1) / 4 = c by omega, show (c * 4 + 1 + 1) % 4 = 2 by omega, List.getElem?_set] at hv'
    rw [if_pos rfl, if_pos hc] at hv'
    exact Option.some.inj hv'
end Go.Proofs.YteekfahpbnbalaaDoor
