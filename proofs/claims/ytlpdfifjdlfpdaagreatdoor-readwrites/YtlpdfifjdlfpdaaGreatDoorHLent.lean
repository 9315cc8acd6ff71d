/- Lent data: behind the last one of each row stands one more, by which one sees whether the row was turned. -/
import Derived.Test.YtlpdfifjdlfpdaaGreatDoorGK
import Derived.OwnWalk
namespace Go.Proofs.YtlpdfifjdlfpdaaGreatDoor
open Go.RowKit

theorem Fo.len_size : ∀ (f : Fo), f.len ≤ f.size
  | .nil => Nat.le_refl _
  | .cons _ _ _ _ _ r => by have := Fo.len_size r; simp only [Fo.len, Fo.size]; omega

def sentL : List Value := [.int .u8 0, .int .i64 (-77), S [], .slice none 0 0, .bool false]
/-- The cells of a row of lent data. -/
def CL (w : World) (base : Nat) : Fo → List Value → Prop
  | .nil, cs => cs = []
  | .cons k n t s d r, cs => ∃ g kcs rest, cs = .int .u8 k :: .int .i64 n :: S t :: .slice (some ⟨g, 0, none⟩) s.len (s.len + 1) :: .bool d :: rest ∧
      w.ownsRow base 58 5 (.slice (some ⟨g, 0, none⟩) (s.len + 1) (s.len + 1)) (s.len + 1) (kcs ++ sentL) ∧ CL w base s kcs ∧ CL w base r rest
/-- A slice of lent data. -/
def Lent (w : World) (base : Nat) (v : Value) (f : Fo) : Prop :=
  ∃ g cs, v = .slice (some ⟨g, 0, none⟩) f.len (f.len + 1) ∧ w.ownsRow base 58 5 (.slice (some ⟨g, 0, none⟩) (f.len + 1) (f.len + 1)) (f.len + 1) (cs ++ sentL) ∧ CL w base f cs

theorem CL.kept {w w' : World} {base : Nat} (hk : ∀ g, base ≤ g → g < w.heap.size → w'.heap[g]? = w.heap[g]?) : ∀ {f : Fo} {cs : List Value}, CL w base f cs → CL w' base f cs
  | .nil, _, h => h
  | .cons _ _ _ _ _ _, _, ⟨g, kcs, rest, hc, ho, hs, hr⟩ => ⟨g, kcs, rest, hc, own_same ho (fun b hb => hk b (ho.lt b hb).1 (ho.lt b hb).2), CL.kept hk hs, CL.kept hk hr⟩
theorem CL.mono {w : World} {base base' : Nat} (hb : base' ≤ base) : ∀ {f : Fo} {cs : List Value}, CL w base f cs → CL w base' f cs
  | .nil, _, h => h
  | .cons _ _ _ _ _ _, _, ⟨g, kcs, rest, hc, ho, hs, hr⟩ => ⟨g, kcs, rest, hc, own_mono ho hb, CL.mono hb hs, CL.mono hb hr⟩
theorem CL.len {w : World} {base : Nat} : ∀ {f : Fo} {cs : List Value}, CL w base f cs → cs.length = f.len * 5
  | .nil, cs, h => by rw [show cs = [] from h]; rfl
  | .cons k n t s d r, cs, ⟨_, _, _, hc, _, _, hr⟩ => by rw [hc]; simp [Fo.len, CL.len hr]; omega
theorem CL.app {w : World} {base : Nat} : ∀ {f g : Fo} {cs cs' : List Value}, CL w base f cs → CL w base g cs' → CL w base (f.app g) (cs ++ cs')
  | .nil, g, cs, cs', h, h' => by rw [show cs = [] from h]; exact h'
  | .cons k n t s d r, g, cs, cs', ⟨b, kcs, rest, hc, h1, h2, hr⟩, h' => ⟨b, kcs, rest ++ cs', by rw [hc]; rfl, h1, h2, CL.app hr h'⟩
theorem Lent.below {w w' : World} {base : Nat} {v : Value} {f : Fo} (h : Lent w base v f) (hb : Below w.heap.size w w') : Lent w' base v f := by
  obtain ⟨g, cs, hv, ho, hc⟩ := h
  exact ⟨g, cs, hv, own_same ho (fun b hb' => hb.block b (ho.lt b hb').2), hc.kept (fun b _ h2 => hb.block b h2)⟩
theorem Lent.kept {w w' : World} {base : Nat} {v : Value} {f : Fo} (h : Lent w base v f) (hk : ∀ g, base ≤ g → g < w.heap.size → w'.heap[g]? = w.heap[g]?) : Lent w' base v f := by
  obtain ⟨g, cs, hv, ho, hc⟩ := h
  exact ⟨g, cs, hv, own_same ho (fun b hb' => hk b (ho.lt b hb').1 (ho.lt b hb').2), hc.kept hk⟩
theorem Lent.mono {w : World} {base base' : Nat} {v : Value} {f : Fo} (h : Lent w base v f) (hb : base' ≤ base) : Lent w base' v f := by
  obtain ⟨g, cs, hv, ho, hc⟩ := h
  exact ⟨g, cs, hv, own_mono ho hb, hc.mono hb⟩
theorem own_max {w : World} {base e c g n cap : Nat} {xs : List Value} (h : w.ownsRow base e c (.slice (some ⟨g, 0, none⟩) n cap) n xs) : base ≤ g ∧ g < w.heap.size ∧ n ≤ cap ∧ cap ≤ maxLen := by
  refine ⟨(h.lt g rfl).1, (h.lt g rfl).2, ?_⟩
  rcases h.2 with ⟨h0, _⟩ | ⟨g', cap', cur, hv, _, _, h1, h2, _⟩
  · cases h0
  · cases hv; exact ⟨h1, h2⟩
theorem own_cell {w : World} {base e c g n cap : Nat} {xs : List Value} (h : w.ownsRow base e c (.slice (some ⟨g, 0, none⟩) n cap) n xs) (j : Nat) (u : Value) (hj : xs[j]? = some u) : w.cell? ⟨g, j, none⟩ = some u := by
  have := h.cells rfl j u hj
  rwa [addr_add] at this
theorem CL.rd {w : World} {base : Nat} : ∀ {f : Fo} {cs : List Value} {g o : Nat}, CL w base f cs → g < w.heap.size → (∀ j u, cs[j]? = some u → w.cell? ⟨g, o + j, none⟩ = some u) → Rd w g o f
  | .nil, _, _, _, _, _, _ => trivial
  | .cons k n t s d r, cs, g, o, ⟨b, kcs, rest, hcs, ho, hs, hr⟩, hg, hc => by
    subst hcs
    obtain ⟨_, hb, _, hmx⟩ := own_max ho
    refine ⟨⟨hg, hc 0 _ rfl, hc 1 _ rfl, hc 2 _ rfl, hc 4 _ rfl, by omega⟩, ⟨_, _, b, 0, hc 3 _ rfl, .inr rfl, CL.rd hs hb (fun j u hj => ?_)⟩, CL.rd hr hg (fun j u hj => ?_)⟩
    · rw [Nat.zero_add]
      exact own_cell ho j u (by rw [List.getElem?_append_left (List.getElem?_eq_some_iff.1 hj).1]; exact hj)
    · have := hc (j + 5) u (by simpa using hj)
      rwa [show o + (j + 5) = o + 5 + j by omega] at this
/-- What is lent is read as what it is. -/
theorem Lent.rs {w : World} {base : Nat} {v : Value} {f : Fo} (h : Lent w base v f) : ∃ g, v = .slice (some ⟨g, 0, none⟩) f.len (f.len + 1) ∧ RS w (some ⟨g, 0, none⟩) f ∧ f.len + 1 ≤ maxLen ∧ base ≤ g ∧ g < w.heap.size := by
  obtain ⟨g, cs, rfl, ho, hc⟩ := h
  obtain ⟨h1, h2, _, h4⟩ := own_max ho
  refine ⟨g, rfl, ⟨g, 0, .inr rfl, hc.rd h2 (fun j u hj => ?_)⟩, h4, h1, h2⟩
  rw [Nat.zero_add]
  exact own_cell ho j u (by rw [List.getElem?_append_left (List.getElem?_eq_some_iff.1 hj).1]; exact hj)
/-- The one behind the last. -/
theorem Lent.sent {w : World} {base g : Nat} {f : Fo} (h : Lent w base (.slice (some ⟨g, 0, none⟩) f.len (f.len + 1)) f) :
    w.cell? ⟨g, f.len * 5, none⟩ = some (.int .u8 0) ∧ w.cell? ⟨g, f.len * 5 + 1, none⟩ = some (.int .i64 (-77)) ∧ w.cell? ⟨g, f.len * 5 + 1 + 1, none⟩ = some (S []) ∧ w.cell? ⟨g, f.len * 5 + 1 + 1 + 1, none⟩ = some (.slice none 0 0) ∧ w.cell? ⟨g, f.len * 5 + 1 + 1 + 1 + 1, none⟩ = some (.bool false) := by
  obtain ⟨g', cs, hv, ho, hc⟩ := h
  cases hv
  have hl := hc.len
  have e : ∀ i u, sentL[i]? = some u → w.cell? ⟨g, f.len * 5 + i, none⟩ = some u := by
    intro i u hi
    refine own_cell ho _ u ?_
    rw [← hl, List.getElem?_append_right (by omega)]
    simpa using hi
  exact ⟨e 0 _ rfl, e 1 _ rfl, e 2 _ rfl, e 3 _ rfl, e 4 _ rfl⟩
end Go.Proofs.YtlpdfifjdlfpdaaGreatDoor
