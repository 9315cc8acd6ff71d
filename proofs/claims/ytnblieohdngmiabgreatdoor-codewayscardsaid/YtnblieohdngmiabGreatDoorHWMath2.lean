/- What stands of a procedure that may be; rows of numbers, rows of bools. -/
import Derived.Test.YtnblieohdngmiabGreatDoorHMMath
import Derived.Test.YtnblieohdngmiabGreatDoorHDWays
import Derived.Test.YtnblieohdngmiabGreatDoorHLGen
namespace Go.Proofs.YtnblieohdngmiabGreatDoor
open Go.RowKit

theorem takes_nn {x : Ins} (hc : x.op = 10 ∨ x.op = 11 → 0 ≤ x.a) : 0 ≤ takesN x := by
  unfold takesN
  split
  · omega
  · split
    · rename_i h; have := hc h; omega
    · split
      · unfold primN
        rw [List.getD_eq_getElem?_getD]
        cases h : primT[x.a.toNat]? with
        | none => simp
        | some y =>
          have hm := List.mem_of_getElem? h
          have : ∀ y ∈ primT, 0 ≤ y := by decide
          exact this y hm
      · omega
theorem ways_of {nc ng np : Nat} {p : Prc} (h : (chkP nc ng np p).1 = 0) : 0 < p.code.length ∧ p.code.length ≤ 4096 ∧ ∃ f : Nat → Int, f 0 = 0 ∧ ∀ i x, p.code[i]? = some x → (1 ≤ x.op ∧ x.op ≤ 18) ∧ (x.op = 13 → 1 ≤ x.a ∧ x.a ≤ 22) ∧ (x.op = 10 ∨ x.op = 11 → 0 ≤ x.a ∧ x.a ≤ 256) ∧ (x.op = 8 ∨ x.op = 9 → 0 ≤ x.a) ∧ 0 ≤ takesN x ∧ takesN x ≤ f i ∧ f i ≤ 255 ∧ ∀ q, Next i x q → q < p.code.length ∧ f q = f i - takesN x + putsN x := by
  obtain ⟨a1, a2, a3, a4⟩ := chkP_ok h
  have hb := badI_all (nc := nc) (ng := ng) (np := np) (ni := p.code.length) p.code 0 a4
  have hpos : 0 < p.code.length := Nat.pos_of_ne_zero a2
  unfold chkP at h
  rw [if_neg (by omega), if_neg (by omega), hb] at h
  unfold chkEnd at h
  have hlt : p.code.length - 1 < p.code.length := by omega
  have hy := List.getElem?_eq_getElem hlt
  rw [hy] at h
  dsimp only at h
  by_cases he : endsB p.code[p.code.length - 1].op = true
  · rw [if_pos he] at h
    cases hw : wrongAt (endM p.code).met p.code 0 with
    | some j => rw [hw] at h; simp [endP] at h
    | none =>
      have hf := fun i x hx => fit_of hb hy he i x hx
      obtain ⟨f, f0, hf2⟩ := ways_ok hf hpos hw
      refine ⟨hpos, a1, f, f0, fun i x hx => ?_⟩
      obtain ⟨o1, o2⟩ := a4 x (List.mem_of_getElem? hx)
      obtain ⟨g1, g2, g3⟩ := hf2 i x hx
      unfold isOpB at o1
      unfold fitsB at o2
      rw [decide_eq_true_eq] at o1 o2
      have c1 : x.op = 13 → 1 ≤ x.a ∧ x.a ≤ 22 := fun h => by rw [h] at o2; simp [leastA, mostA] at o2; omega
      have c2 : x.op = 10 ∨ x.op = 11 → 0 ≤ x.a ∧ x.a ≤ 256 := fun h => by rcases h with h | h <;> (rw [h] at o2; simp [leastA, mostA] at o2; omega)
      have c3 : x.op = 8 ∨ x.op = 9 → 0 ≤ x.a := fun h => by rcases h with h | h <;> (rw [h] at o2; simp [leastA, mostA] at o2; omega)
      exact ⟨o1, c1, c2, c3, takes_nn (fun h => (c2 h).1), g1, g2, g3⟩
  · rw [if_neg he] at h; simp at h

/-- A row of numbers in a block of its own: what each cell holds. -/
def DR (W : World) (g n : Nat) (P : Nat → Value → Prop) : Prop := ∃ cs, W.heap[g]? = some (.cells cs 3 (0, 0)) ∧ cs.size = n ∧ ∀ k u, cs[k]? = some u → P k u
theorem DR.set {W : World} {g n j : Nat} {P P' : Nat → Value → Prop} {v : Value} (h : DR W g n P) (hP : ∀ k u, k ≠ j → P k u → P' k u) (hv : P' j v) : DR (W.setCell ⟨g, j, none⟩ v) g n P' := by
  obtain ⟨cs, h1, h2, h3⟩ := h
  refine ⟨_, set_atC h1 v, by simp [h2], fun k u hk => ?_⟩
  rw [Array.getElem?_setIfInBounds] at hk
  split at hk
  · rename_i hjk
    subst hjk
    split at hk
    · cases hk; exact hv
    · cases hk
  · rename_i hjk
    exact hP k u (fun e => hjk e.symm) (h3 k u hk)
theorem DR.cell {W : World} {g n j : Nat} {P : Nat → Value → Prop} (h : DR W g n P) (hj : j < n) : ∃ u, W.cell? ⟨g, j, none⟩ = some u ∧ P j u := by
  obtain ⟨cs, h1, h2, h3⟩ := h
  subst h2
  have := Array.getElem?_eq_getElem hj
  exact ⟨_, by simp only [World.cell?, h1]; simp, h3 j _ this⟩
theorem DR.fz {W : World} {g n : Nat} {P : Nat → Value → Prop} (h : DR W g n P) (j : Nat) : W.frozen? ⟨g, j, none⟩ = false := by
  obtain ⟨cs, h1, _⟩ := h
  simp [World.frozen?, h1]
theorem DR.lt {W : World} {g n : Nat} {P : Nat → Value → Prop} (h : DR W g n P) : g < W.heap.size := by
  obtain ⟨cs, h1, _⟩ := h
  exact heap_lt h1
theorem DR.kept {W W' : World} {g n : Nat} {P : Nat → Value → Prop} (h : DR W g n P) (hk : W'.heap[g]? = W.heap[g]?) : DR W' g n P := by
  obtain ⟨cs, h1, h2⟩ := h
  exact ⟨cs, hk.trans h1, h2⟩
theorem DR.mono {W : World} {g n : Nat} {P P' : Nat → Value → Prop} (h : DR W g n P) (hP : ∀ k u, k < n → P k u → P' k u) : DR W g n P' := by
  obtain ⟨cs, h1, h2, h3⟩ := h
  exact ⟨cs, h1, h2, fun k u hk => hP k u (by rw [← h2]; exact (Array.getElem?_eq_some_iff.1 hk).1) (h3 k u hk)⟩
theorem dr_of_own {W : World} {base g n : Nat} {xs : List Value} (h : W.ownsRow base 3 1 (.slice (some ⟨g, 0, none⟩) n n) n xs) : DR W g n (fun _ _ => True) := by
  rcases h.2 with ⟨h0, _⟩ | ⟨g', cap', cur, hv, _, hh, _, _, hsz, _⟩
  · cases h0
  · cases hv
    exact ⟨cur, hh, by simpa using hsz, fun _ _ _ => trivial⟩
/-- A row of bools that is read. -/
def AR (w : World) (ra : Option Addr) (l : List Bool) : Prop := ∃ b o, (l.length = 0 ∨ ra = some ⟨b, o, none⟩) ∧ ∀ j x, l[j]? = some x → b < w.heap.size ∧ w.cell? ⟨b, o + j, none⟩ = some (.bool x)
end Go.Proofs.YtnblieohdngmiabGreatDoor
