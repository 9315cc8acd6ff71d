/- Rows of cells of their own. -/
import Derived.Test.YtinijcmnojlphaaDoorHSWrong
namespace Go.Proofs.YtinijcmnojlphaaDoor
open Go.RowKit

def cells4 (x : Cl) : List Value := [.int .u8 x.k, .int .u8 x.c, .int .u64 x.a, .int .u64 x.b]
theorem clCells_eq : ∀ (l : List Cl) (k : Nat), (clCells l)[k]? = (l[k / 4]?).bind fun x => (cells4 x)[k % 4]?
  | [], k => by simp [clCells]
  | x :: l, 0 => rfl
  | x :: l, 1 => rfl
  | x :: l, 2 => rfl
  | x :: l, 3 => rfl
  | x :: l, k + 4 => by
    rw [show (k + 4) / 4 = k / 4 + 1 by omega, show (k + 4) % 4 = k % 4 by omega]
    show (clCells l)[k]? = _
    rw [clCells_eq l k]; rfl
/-- All cells of a row that is read. -/
theorem hr_all {w : World} {b o : Nat} {l : List Cl} (h : HX w (some ⟨b, o, none⟩) l) : ∀ (j : Nat) (u : Value), (clCells l)[j]? = some u → w.cell? ((⟨b, o, none⟩ : Addr).add j) = some u := by
  intro j u hj
  obtain ⟨b', o', h1, h2⟩ := h
  rw [clCells_eq] at hj
  obtain ⟨x, hx, hv⟩ := Option.bind_eq_some_iff.1 hj
  have hl := (List.getElem?_eq_some_iff.1 hx).1
  have e : (some ⟨b, o, none⟩ : Option Addr) = some ⟨b', o', none⟩ := h1.resolve_left (by omega)
  cases e
  obtain ⟨_, a0, a1, a2, a3⟩ := h2 _ x hx
  rw [ad_add]
  have hm : j % 4 = 0 ∨ j % 4 = 1 ∨ j % 4 = 2 ∨ j % 4 = 3 := by omega
  rcases hm with hm | hm | hm | hm <;> rw [hm] at hv <;> have hv2 := Option.some.inj hv <;> subst hv2
  · rw [show o + j = o + j / 4 * 4 by omega]; exact a0
  · rw [show o + j = o + j / 4 * 4 + 1 by omega]; exact a1
  · rw [show o + j = o + j / 4 * 4 + 1 + 1 by omega]; exact a2
  · rw [show o + j = o + j / 4 * 4 + 1 + 1 + 1 by omega]; exact a3
theorem clCells_one (l : List Cl) : ∀ u ∈ clCells l, u.oneCell' = true := by
  induction l with
  | nil => intro u hu; cases hu
  | cons x l ih =>
    intro u hu
    simp only [clCells, List.mem_cons] at hu
    rcases hu with rfl | rfl | rfl | rfl | hu
    · rfl
    · rfl
    · rfl
    · rfl
    · exact ih u hu
/-- A row of cells of its own. -/
def OwnH (w : World) (g N : Nat) (l : List Cl) : Prop := DR w 36 g N (fun k u => ∀ v, (clCells l)[k]? = some v → u = v) ∧ l.length * 4 ≤ N
theorem own_h {w : World} {B g n cap : Nat} {l : List Cl} (h : w.ownsRow B 36 4 (.slice (some ⟨g, 0, none⟩) n cap) n (clCells l)) (hl : l.length = n) : OwnH w g (cap * 4) l := by
  rcases h.2 with ⟨h0, _⟩ | ⟨g', cap', cur, hv, _, hh, hc, _, hsz, ht⟩
  · cases h0
  · cases hv
    refine ⟨⟨cur, hh, hsz, fun k u hk v hv => ?_⟩, by omega⟩
    have hkl := (List.getElem?_eq_some_iff.1 hv).1
    rw [clCells_len] at hkl
    rw [← ht, List.getElem?_take_of_lt (by omega), Array.getElem?_toList, hk] at hv
    exact Option.some.inj hv
theorem OwnH.hx {w : World} {g N : Nat} {l : List Cl} (h : OwnH w g N l) : HX w (some ⟨g, 0, none⟩) l := by
  refine ⟨g, 0, .inr rfl, fun j x hx => ⟨h.1.lt, ?_⟩⟩
  obtain ⟨h0, h1, h2, h3⟩ := clCells_at l j x hx
  simp only [Nat.zero_add]
  have e := fun q (v : Value) (hq : (clCells l)[q]? = some v) => show w.cell? ⟨g, q, none⟩ = some v by
    obtain ⟨u, hu, hu2⟩ := h.1.cell (j := q) (by have := (List.getElem?_eq_some_iff.1 hq).1; have h9 := h.2; rw [clCells_len] at this; omega)
    rw [hu, hu2 v hq]
  exact ⟨e _ _ h0, e _ _ h1, e _ _ h2, e _ _ h3⟩
end Go.Proofs.YtinijcmnojlphaaDoor
