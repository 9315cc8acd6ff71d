/- Laws of append. -/
import Derived.Test.YtnblieohdngmiabGreatDoorHBMath
import Derived.Test.YtnblieohdngmiabGreatDoorGM
import Derived.OwnWalk
namespace Go.Proofs.YtnblieohdngmiabGreatDoor
open Go.RowKit

theorem run_append_nil0 {P : Program} (w : World) (base : Nat) (t ty e : TypeId) (i : TypeInfo) (size : Nat) (ht : P.underlying t = some (.slice e)) (hi : P.info? e = some i)
    (v : Value) (n c : Nat) (xs : List Value) (hown : w.ownsRow base e size v n xs) :
    (Builtin.append_ #[t, t] ty #[v, .slice none 0 c]).run P w = .ok v w := by
  rcases hown.2 with ⟨rfl, rfl⟩ | ⟨g, cap, cur, rfl, _, _, hnc, _⟩
  · simp [Builtin.append_, run_underlying ht, sizeOf, typeInfo, hi, Builtin.lenOf, Builtin.firstCells]
  · simp [Builtin.append_, run_underlying ht, sizeOf, typeInfo, hi, Builtin.lenOf, Builtin.firstCells, hnc, storeCells]
/-- append within the capacity, whatever is appended. -/
theorem wpList_append_room0 {P : Program} (w : World) {ops : Array Oper} {rest : List Oper} {o : Oper} {a : Act} {Q : Exit → Act → World → Prop}
    (hg : o.guard = none) (s x : Operand) (t : TypeId) (hop : o.op = Op.call { callee := Callee.builtin Builtin.append, args := #[s, x], argTypes := #[t, t] })
    (base : Nat) (e : TypeId) (i : TypeInfo) (size : Nat) (h1 : P.underlying t = some (.slice e)) (h2 : P.info? e = some i) (h4 : i.size = size)
    (g k cap : Nat) (xs : List Value) (hs : a.eval s = .slice (some ⟨g, 0, none⟩) k cap) (hown : w.ownsRow base e size (.slice (some ⟨g, 0, none⟩) k cap) k xs) (ao : Option Addr) (m c : Nat) (news : List Value) (hx : a.eval x = .slice ao m c) (hn : news.length = m * size)
    (hnone : ao = none → m = 0) (hc : ∀ ad, ao = some ad → ∀ j u, news[j]? = some u → w.cell? (ad.add j) = some u) (h1c : ∀ u ∈ news, u.oneCell' = true) (b1 : k + m ≤ cap)
    (hK : ∀ w', w'.ownsRow base e size (.slice (some ⟨g, 0, none⟩) (k + m) cap) (k + m) (xs ++ news) → w.grownBy w' (some g) → wpList P ops Q rest (a.put o.dst (.slice (some ⟨g, 0, none⟩) (k + m) cap)) w') :
    wpList P ops Q (o :: rest) a w := by
  cases ao with
  | some ad => exact wpList_append_fits w hg s x t hop base e i size h1 h2 h4 g k cap xs hs hown ad m c news hx hn (hc ad rfl) h1c b1 hK
  | none =>
    obtain rfl := hnone rfl
    have hnews : news = [] := List.eq_nil_of_length_eq_zero (by simpa using hn)
    subst hnews
    refine wpList_plain hg fun K hK' => ?_
    have hrun := run_append_nil0 (P := P) w base t o.type e i size h1 h2 _ k c xs hown
    unfold Oper.wp
    simp [execOp, hop, resolve, invoke, builtin, hs, hx, hrun, Result.andThen]
    exact hK' _ _ (by simpa using hK w (by simpa using hown) (World.grownBy.refl _ _))

theorem grown_below {w w' : World} {row B : Nat} (h : w.grownBy w' (some row)) (hB : B ≤ row) (hs : B ≤ w.heap.size) : Below B w w' := (Below.refl B w).grown h hs (fun k hk => by cases hk; exact hB)
theorem row_get : ∀ (l : List Int) (j : Nat) (u : Value), (wordCells l)[j]? = some u → ∃ x, l[j]? = some x ∧ u = .int .u64 x := fun l j u h => by
  unfold wordCells at h
  rw [List.getElem?_map] at h
  obtain ⟨x, h1, h2⟩ := Option.map_eq_some_iff.1 h
  exact ⟨x, h1, h2.symm⟩
theorem ins_get : ∀ (l : List Ins) (j : Nat) (u : Value), (insCells l)[j]? = some u → ∃ i x, l[i]? = some x ∧ ((j = i * 2 ∧ u = .int .u8 x.op) ∨ (j = i * 2 + 1 ∧ u = .int .i64 x.a))
  | [], j, u, h => by simp [insCells] at h
  | x :: l, 0, u, h => ⟨0, x, rfl, .inl ⟨rfl, by simpa [insCells] using h.symm⟩⟩
  | x :: l, 1, u, h => ⟨0, x, rfl, .inr ⟨rfl, by simpa [insCells] using h.symm⟩⟩
  | x :: l, j + 2, u, h => by
    obtain ⟨i, y, h1, h2⟩ := ins_get l j u (by simpa [insCells] using h)
    exact ⟨i + 1, y, by simpa using h1, by
      rcases h2 with ⟨h, h'⟩ | ⟨h, h'⟩
      · exact .inl ⟨by omega, h'⟩
      · exact .inr ⟨by omega, h'⟩⟩
theorem insCells_len : ∀ l : List Ins, (insCells l).length = l.length * 2
  | [] => rfl
  | x :: l => by simp [insCells, insCells_len l]; omega
theorem new_cell (W : World) (cs : Array Value) (t : TypeId) (j : Nat) (u : Value) (h : cs.toList[j]? = some u) : (W.alloc (.cells cs t)).cell? ⟨W.heap.size, j, none⟩ = some u := by
  have hn := heap_alloc_new W (.cells cs t)
  simp only [World.cell?, hn]
  simpa using h
/-- A lent list. -/
def LentR (T sz n : Nat) (cells : List Value) (B : Nat) (e : Ending) (w' : World) : Prop := ∃ g, e = .returned (.slice (some ⟨g, 0, none⟩) n (n + 2)) ∧ w'.ownsRow B T sz (.slice (some ⟨g, 0, none⟩) (n + 2) (n + 2)) (n + 2) cells
theorem ad_add (b o j : Nat) : (⟨b, o, none⟩ : Addr).add j = ⟨b, o + j, none⟩ := by
  simp [Addr.add]
end Go.Proofs.YtnblieohdngmiabGreatDoor
