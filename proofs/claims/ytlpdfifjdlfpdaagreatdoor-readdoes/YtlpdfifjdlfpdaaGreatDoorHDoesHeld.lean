/- Lists in the book, each with memory of its own. -/
import Derived.Test.YtlpdfifjdlfpdaaGreatDoorHDBookPut
namespace Go.Proofs.YtlpdfifjdlfpdaaGreatDoor
open Go.RowKit

theorem Row.dk {w w' : World} {base : Nat} (hk : DK w w') : ∀ {f : Fo} {cs : List Value} {bs : List Nat}, Row w base f cs bs → Row w' base f cs bs
  | .nil, _, _, h => h
  | .cons _ _ _ _ _ _, _, _, ⟨kv, kcs, kbs, rcs, rbs, hc, hb, ho, hs, hr⟩ => ⟨kv, kcs, kbs, rcs, rbs, hc, hb, own_dk ho hk, Row.dk hk hs, Row.dk hk hr⟩
theorem Tree.dk {w w' : World} {base : Nat} {v : Value} {f : Fo} (h : Tree w base v f) (hk : DK w w') : Tree w' base v f := by
  obtain ⟨cs, bs, h1, h2, h3⟩ := h.ex
  exact ⟨cs, bs, own_dk h1 hk, h2.dk hk, h3⟩
/-- Each owns its row. -/
def Owns (w : World) (base : Nat) (l : List Value) : Prop := ∀ u ∈ l, ∃ n X, w.ownsRow base 58 5 u n X ∧ n ≤ 1000000
theorem Owns.dk {w w' : World} {base : Nat} {l : List Value} (h : Owns w base l) (hk : DK w w') : Owns w' base l := fun u hu => by
  obtain ⟨n, X, h1, h2⟩ := h u hu
  exact ⟨n, X, own_dk h1 hk, h2⟩
theorem Owns.lt {w : World} {base : Nat} {l : List Value} (h : Owns w base l) : ∀ g ∈ l.flatMap own1, g < w.heap.size := fun g hg => by
  obtain ⟨u, hu, hg⟩ := List.mem_flatMap.1 hg
  obtain ⟨n, X, h1, _⟩ := h u hu
  exact (h1.lt g (mem_own1.1 hg)).2
theorem LV.owns {w : World} {base : Nat} : ∀ {f : Fo} {cs vs : List Value}, LV w base f cs vs → f.size ≤ 1000000 → ∀ u ∈ vs, ∃ n X, w.ownsRow base 58 5 u n X ∧ n ≤ 1000000
  | .nil, _, _, h, _, u, hu => by rw [h.2] at hu; cases hu
  | .cons _ _ _ s _ _, _, _, ⟨kv, kcs, kvs, rcs, rvs, hc, hv, ho, hs, hr⟩, hsz, u, hu => by
    rw [hv] at hu
    simp only [Fo.size] at hsz
    have hsl : s.len ≤ s.size := by
      have : ∀ g : Fo, g.len ≤ g.size := fun g => by induction g with | nil => exact Nat.le_refl _ | cons _ _ _ _ _ r _ ih => simp only [Fo.len, Fo.size]; omega
      exact this s
    rcases List.mem_cons.1 hu with rfl | hu
    · exact ⟨_, _, ho, by omega⟩
    · rcases List.mem_append.1 hu with hu | hu
      · exact LV.owns hs (by omega) u hu
      · exact LV.owns hr (by omega) u hu
theorem own_base {w : World} {b b' e c n : Nat} {v : Value} {xs : List Value} (h : w.ownsRow b' e c v n xs) (hb : b ≤ b') : w.ownsRow b e c v n xs := own_mono h hb
theorem Owns.mono {w : World} {b b' : Nat} {l : List Value} (h : Owns w b' l) (hb : b ≤ b') : Owns w b l := fun u hu => by
  obtain ⟨n, X, h1, h2⟩ := h u hu
  exact ⟨n, X, own_mono h1 hb, h2⟩
theorem apart_of : ∀ (l : List Value), (l.flatMap own1).Nodup → ∀ (i j : Nat) (u u' : Value), i < j → l[i]? = some u → l[j]? = some u' → ∀ g, u.ownBlock = some g → u'.ownBlock ≠ some g
  | [], _, i, j, u, u', _, h, _, g, _ => by simp at h
  | a :: l, hn, i, j, u, u', hij, h, h', g, hg => by
    rw [List.flatMap_cons, List.nodup_append] at hn
    cases j with
    | zero => omega
    | succ j =>
      have h2 : l[j]? = some u' := by simpa using h'
      cases i with
      | zero =>
        obtain rfl : a = u := by simpa using h
        intro e
        have hm : u' ∈ l := List.mem_of_getElem? h2
        exact hn.2.2 g (mem_own1.2 hg) g (List.mem_flatMap.2 ⟨u', hm, mem_own1.2 e⟩) rfl
      | succ i => exact apart_of l hn.2.1 i j u u' (by omega) (by simpa using h) h2 g hg
theorem held_of {W : World} {base bB B N capB : Nat} {rows : List Value} (hrow : W.ownsRow bB 23 1 (.slice (some ⟨B, 0, none⟩) N capB) N rows) (ho : Owns W base rows) (hn : (rows.flatMap own1).Nodup) :
    ∃ V n X, (∀ j, j < N → n j ≤ 1000000) ∧ Held base N B V n W X := by
  have hl : rows.length = N := by have := hrow.1; omega
  have hget : ∀ j, j < N → ∃ u, rows[j]? = some u := fun j hj => ⟨rows[j]'(by omega), List.getElem?_eq_getElem (by omega)⟩
  have hex : ∀ j : Nat, ∃ p : Value × Nat × List Value, j < N → rows[j]? = some p.1 ∧ W.ownsRow base 58 5 p.1 p.2.1 p.2.2 ∧ p.2.1 ≤ 1000000 := fun j => by
    by_cases hj : j < N
    · obtain ⟨u, hu⟩ := hget j hj
      obtain ⟨n, X, h1, h2⟩ := ho u (List.mem_of_getElem? hu)
      exact ⟨(u, n, X), fun _ => ⟨hu, h1, h2⟩⟩
    · exact ⟨(.slice none 0 0, 0, []), fun h => absurd h hj⟩
  refine ⟨fun j => (Classical.choose (hex j)).1, fun j => (Classical.choose (hex j)).2.1, fun j => (Classical.choose (hex j)).2.2, fun j hj => (Classical.choose_spec (hex j) hj).2.2, ⟨fun j hj => ?_, fun j hj => (Classical.choose_spec (hex j) hj).2.1, fun j j' hj hj' hne g hg => ?_, fun j hj => ?_, (hrow.lt B rfl).2⟩⟩
  · rw [hrow.cellAt j (by omega)]
    exact (Classical.choose_spec (hex j) hj).1
  · have h1 := (Classical.choose_spec (hex j) hj).1
    have h2 := (Classical.choose_spec (hex j') hj').1
    rcases Nat.lt_or_gt_of_ne hne with h | h
    · exact apart_of rows hn j j' _ _ h h1 h2 g hg
    · intro e
      exact apart_of rows hn j' j _ _ h h2 h1 g e hg
  · intro e
    exact own_types (Classical.choose_spec (hex j) hj).2.1 hrow (by decide) B e rfl
end Go.Proofs.YtlpdfifjdlfpdaaGreatDoor
