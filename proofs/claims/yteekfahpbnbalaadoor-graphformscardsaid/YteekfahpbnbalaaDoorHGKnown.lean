/- known: the chapter's first example. -/
import Derived.Test.YteekfahpbnbalaaDoorHGExM
import Derived.BigQuiet
namespace Go.Proofs.YteekfahpbnbalaaDoor
open Go.RowKit

/-- The example's heap lies there. -/
def ExW (w : World) (g : Nat) : Prop := w.heap[g]? = some (.cells (clCells exH).toArray 39 (0, 0)) ∧ Tab w
theorem ExW.below {w w' : World} {g : Nat} (h : ExW w g) (hb : Below w.heap.size w w') : ExW w' g := ⟨(hb.block _ (heap_lt h.1)).trans h.1, h.2.below hb⟩
theorem exOk : ∀ x ∈ exH, OkK x := by
  intro x hx
  simp only [exH, List.mem_cons, List.not_mem_nil, or_false] at hx
  rcases hx with rfl | rfl | rfl | rfl <;> exact ⟨by decide, by decide, by unfold Rng; decide, by unfold Rng; decide⟩
theorem hr_cells {w : World} {g : Nat} {l : List Cl} (h : w.heap[g]? = some (.cells (clCells l).toArray 39 (0, 0))) : HX w (some ⟨g, 0, none⟩) l := by
  refine ⟨g, 0, .inr rfl, fun j x hx => ⟨heap_lt h, ?_⟩⟩
  obtain ⟨h0, h1, h2, h3⟩ := clCells_at l j x hx
  simp only [Nat.zero_add]
  exact ⟨heap_cell h (by simpa using h0), heap_cell h (by simpa using h1), heap_cell h (by simpa using h2), heap_cell h (by simpa using h3)⟩
theorem HX.hr {w : World} {ra : Option Addr} {l : List Cl} (h : HX w ra l) (hk : ∀ x ∈ l, OkK x) : HR w ra l := by
  obtain ⟨b, o, h1, h2⟩ := h
  exact ⟨b, o, h1, fun j x hx => ⟨(h2 j x hx).1, (h2 j x hx).2, hk x (List.mem_of_getElem? hx)⟩⟩
theorem ExW.hr {w : World} {g : Nat} (h : ExW w g) : HR w (some ⟨g, 0, none⟩) exH := (hr_cells h.1).hr exOk
theorem ExW.hr2 {w : World} {g : Nat} (h : ExW w g) : HR w (some ⟨g, 0, none⟩) (exH.take 2) := by
  obtain ⟨b, o, h1, h2⟩ := h.hr
  refine ⟨b, o, .inr (h1.resolve_left (by decide)), fun j x hx => h2 j x ?_⟩
  have := (List.getElem?_eq_some_iff.1 hx).1
  rw [List.length_take] at this
  rw [List.getElem?_take_of_lt (by omega)] at hx
  exact hx
theorem wr_new (w : World) : WR (w.alloc (.cells #[.int .u64 8] 35)) (some ⟨w.heap.size, 0, none⟩) [8] :=
  ⟨w.heap.size, 0, .inr rfl, fun j x hx => ⟨by simp, by rw [Nat.zero_add]; exact new_cell _ _ _ j _ (by
    match j, hx with
    | 0, hx => simpa using hx
    | j + 1, hx => simp at hx), by
    have : x = 8 := by
      match j, hx with
      | 0, hx => simpa using hx.symm
      | j + 1, hx => simp at hx
    subst this; unfold Rng; decide⟩⟩
theorem al_below (w : World) (o : Obj) : Below w.heap.size w (w.alloc o) := (Below.refl _ w).alloc (Nat.le_refl _) _
abbrev RO : Obj := .cells #[.int .u64 8] 35
theorem dr_rx {α : Type} {enc : α → Value} {w : World} {t g n : Nat} {P : Nat → Value → Prop} {l : List α} (h : DR w t g n P) (hl : l.length ≤ n) (hP : ∀ k u x, P k u → l[k]? = some x → u = enc x) : RX enc w (some ⟨g, 0, none⟩) l := by
  refine ⟨g, 0, .inr rfl, fun j x hx => ⟨h.lt, ?_⟩⟩
  have := (List.getElem?_eq_some_iff.1 hx).1
  obtain ⟨u, hu, hu2⟩ := h.cell (j := j) (by omega)
  rw [Nat.zero_add, hu, hP j u x hu2 hx]
theorem own_rx {α : Type} {enc : α → Value} {w : World} {B t n c : Nat} {ra : Option Addr} {l : List α} (h : w.ownsRow B t 1 (.slice ra n c) n (l.map enc)) (hl : l.length = n) : RX enc w ra l := by
  rcases h.2 with ⟨h0, h1⟩ | ⟨g, cap, cur, hv, _⟩
  · exact ⟨0, 0, .inl (by omega), fun j x hx => by
      have := (List.getElem?_eq_some_iff.1 hx).1
      omega⟩
  · cases hv
    refine ⟨g, 0, .inr rfl, fun j x hx => ⟨(h.lt g rfl).2, ?_⟩⟩
    have := h.cells rfl j (enc x) (by rw [List.getElem?_map, hx]; rfl)
    rwa [ad_add] at this
theorem known_reach {w : World} {g : Nat} (h : ExW w g) : Calls Tryd.prog 7 #[.slice (some ⟨g, 0, none⟩) 4 4, .slice (some ⟨w.heap.size, 0, none⟩) 1 1] (w.alloc RO) fun e w' => (∃ gr, e = .returned (.tuple #[.slice (some ⟨gr, 0, none⟩) 4 4, .int .i64 0]) ∧ RX Value.bool w' (some ⟨gr, 0, none⟩) [true, false, true, true]) ∧ Below w.heap.size w w' := by
  have hx := h.below (al_below w RO)
  refine (reach_any exH [8] _ _ 4 1 _ hx.hr (wr_new w) hx.2 (by decide) (by decide)).mono ?_
  rintro e w' ⟨hr, hb⟩
  refine ⟨?_, (al_below w RO).trans (hb.mono (al_below w RO).size)⟩
  rcases hr with ⟨h1, _⟩ | ⟨_, gr, _, rfl, hd⟩
  · rw [ex_heap] at h1; cases h1
  · refine ⟨gr, rfl, dr_rx hd (by decide) (fun k u x hu hx => ?_)⟩
    rw [ex_walk] at hu
    have hk := (List.getElem?_eq_some_iff.1 hx).1
    have e2 : ((List.range 4).map (metB [(0, -1), (2, 0), (3, 2)]))[k]? = some x := by rw [ex_met]; exact hx
    rw [List.getElem?_map, List.getElem?_range (by simpa using hk)] at e2
    rw [hu, ← Option.some.inj e2]
theorem known_order {w : World} {g : Nat} (h : ExW w g) : Calls Tryd.prog 8 #[.slice (some ⟨g, 0, none⟩) 4 4, .slice (some ⟨w.heap.size, 0, none⟩) 1 1] (w.alloc RO) fun e w' => (∃ rv cv, e = .returned (.tuple #[.slice rv 3 cv, .int .i64 0]) ∧ RX (Value.int .i64) w' rv [0, 2, 3]) ∧ Below w.heap.size w w' := by
  have hx := h.below (al_below w RO)
  refine (order_any exH [8] _ _ 4 1 _ hx.hr (wr_new w) hx.2 (by decide) (by decide)).mono ?_
  rintro e w' ⟨hr, hb⟩
  refine ⟨?_, (al_below w RO).trans (hb.mono (al_below w RO).size)⟩
  rcases hr with ⟨h1, _⟩ | ⟨_, rv, cv, rfl, ho⟩
  · rw [ex_heap] at h1; cases h1
  · rw [ex_walk] at ho ⊢
    exact ⟨rv, cv, rfl, own_rx (l := [0, 2, 3]) ho rfl⟩
theorem known_form {w : World} {g : Nat} (h : ExW w g) : Calls Tryd.prog 12 #[.slice (some ⟨g, 0, none⟩) 4 4, .slice (some ⟨w.heap.size, 0, none⟩) 1 1] (w.alloc RO) fun e w' => (∃ g1 g2, e = .returned (.tuple #[.slice (some ⟨g1, 0, none⟩) 3 3, .slice (some ⟨g2, 0, none⟩) 1 1, .int .i64 0]) ∧ HX w' (some ⟨g1, 0, none⟩) [⟨1, 0, 24, 1⟩, ⟨1, 0, 8, 40⟩, ⟨1, 0, 21, 1⟩] ∧ RX (Value.int .u64) w' (some ⟨g2, 0, none⟩) [8]) ∧ Below w.heap.size w w' := by
  have hx := h.below (al_below w RO)
  refine (form_any exH [8] _ _ 4 1 _ hx.hr (wr_new w) hx.2 (by decide) (by decide)).mono ?_
  rintro e w' ⟨hr, hb⟩
  refine ⟨?_, (al_below w RO).trans (hb.mono (al_below w RO).size)⟩
  rcases hr with ⟨h1, _⟩ | ⟨_, g1, g2, _, rfl, hd1, hd2⟩
  · rw [ex_heap] at h1; cases h1
  · rw [ex_walk] at hd1 hd2 ⊢
    rw [ex_form] at hd1
    refine ⟨g1, g2, rfl, ?_, dr_rx hd2 (by decide) (fun k u x hu hx => ?_)⟩
    · refine ⟨g1, 0, .inr rfl, fun j x hx => ⟨hd1.lt, ?_⟩⟩
      have hj := (List.getElem?_eq_some_iff.1 hx).1
      simp only [List.length_cons, List.length_nil] at hj
      obtain ⟨h0, h1, h2, h3⟩ := clCells_at _ j x hx
      simp only [Nat.zero_add]
      have e := fun q (v : Value) (hq : (clCells [⟨1, 0, 24, 1⟩, ⟨1, 0, 8, 40⟩, ⟨1, 0, 21, 1⟩])[q]? = some v) => show w'.cell? ⟨g1, q, none⟩ = some v by
        obtain ⟨u, hu, hu2⟩ := hd1.cell (j := q) (by have := (List.getElem?_eq_some_iff.1 hq).1; simpa [clCells] using this)
        rw [hu]; rw [hq] at hu2; exact hu2.symm
      exact ⟨e _ _ h0, e _ _ h1, e _ _ h2, e _ _ h3⟩
    · have := hu x hx
      rw [this]
      have h8 : x = 8 := by
        match k, hx with
        | 0, hx => simpa using hx.symm
        | k + 1, hx => simp at hx
      subst h8
      rw [ex_root]
theorem known_path {w : World} {g : Nat} (h : ExW w g) : Calls Tryd.prog 10 #[.slice (some ⟨g, 0, none⟩) 4 4, .int .i64 3, .slice (some ⟨w.heap.size, 0, none⟩) 1 1] (w.alloc RO) fun e w' => (∃ gp cp, e = .returned (.tuple #[.slice (some ⟨gp, 0, none⟩) 3 cp, .bool true, .int .i64 0]) ∧ RX (Value.int .i64) w' (some ⟨gp, 0, none⟩) [0, 2, 3]) ∧ Below w.heap.size w w' := by
  have hx := h.below (al_below w RO)
  refine (path_any exH [8] [8] 3 _ _ 4 1 _ (sortOk_few [8] (by decide) len_ok) mul_ok rev_ok hx.hr (wr_new w) hx.2 (by decide) (by decide) [(0, -1), (2, 0), (3, 2)] ex_walkT.symm).mono ?_
  rintro e w' ⟨hr, hb⟩
  refine ⟨?_, (al_below w RO).trans (hb.mono (al_below w RO).size)⟩
  rcases hr with ⟨h1, _⟩ | ⟨_, h1, _⟩ | ⟨_, _, gp, cp, _, hc, rfl, hd⟩
  · exact absurd ⟨ex_heap, by decide, by decide⟩ h1
  · rw [show (3 : Int).toNat = 3 from rfl, ex_is] at h1; cases h1
  · rw [show [((0 : Nat), (-1 : Int)), (2, 0), (3, 2)].length + 1 = 4 from rfl, ex_chain] at hc hd ⊢
    exact ⟨gp, cp, rfl, dr_rx hd hc (fun k u x hu hx => hu x hx)⟩
theorem known_none {w : World} {g : Nat} (h : ExW w g) : Calls Tryd.prog 10 #[.slice (some ⟨g, 0, none⟩) 4 4, .int .i64 1, .slice (some ⟨w.heap.size, 0, none⟩) 1 1] (w.alloc RO) fun e w' => e = .returned (.tuple #[.slice none 0 0, .bool false, .int .i64 0]) ∧ Below w.heap.size w w' := by
  have hx := h.below (al_below w RO)
  refine (path_any exH [8] [8] 1 _ _ 4 1 _ (sortOk_few [8] (by decide) len_ok) mul_ok rev_ok hx.hr (wr_new w) hx.2 (by decide) (by decide) [(0, -1), (2, 0), (3, 2)] ex_walkT.symm).mono ?_
  rintro e w' ⟨hr, hb⟩
  refine ⟨?_, (al_below w RO).trans (hb.mono (al_below w RO).size)⟩
  rcases hr with ⟨h1, _⟩ | ⟨_, _, he⟩ | ⟨_, h1, _⟩
  · exact absurd ⟨ex_heap, by decide, by decide⟩ h1
  · exact he
  · exact absurd ex_not h1
theorem known_check {w : World} {g : Nat} (h : ExW w g) : Calls Tryd.prog 21 #[.slice (some ⟨g, 0, none⟩) 2 4] w fun e w' => e = .returned (.tuple #[.int .i64 100, .int .i64 0]) ∧ Below w.heap.size w w' := by
  refine (check_any (exH.take 2) _ 4 w h.hr2 (by decide) h.2).mono ?_
  rintro e w' ⟨he, hb⟩
  exact ⟨he.trans (congrArg Ending.returned ex_bad), hb⟩
end Go.Proofs.YteekfahpbnbalaaDoor
