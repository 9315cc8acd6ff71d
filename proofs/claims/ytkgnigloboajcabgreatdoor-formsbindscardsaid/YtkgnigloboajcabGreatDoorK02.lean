/- The contract of Tokens: the tokens in a list of its own, or the first error and its place.; Tokens, as a plain contract.; Rows of tokens in memory: read token by token. -/
import Derived.Test.YtkgnigloboajcabGreatDoorK01
import Derived.Maps.AppendAt
/- The contract of Tokens: the tokens in a list of its own, or the first error and its place. -/
namespace Go.Proofs.YtkgnigloboajcabGreatDoor
open Go.RowKit Go.Shelf

attribute [local go_sem] Oper.semAt_some

/-- A full row that is appended to stays as it was. -/
theorem append_full {P : Program} (w : World) (t ty e : TypeId) (i : TypeInfo) (z : Value) (ht : P.underlying t = some (.slice e)) (hi : P.info? e = some i) (hz : i.zero = some z)
    (base g n cap : Nat) (xs : List Value) (hown : w.ownsRow base e i.size (.slice (some ⟨g, 0, none⟩) n cap) n xs) (a : Addr) (m c : Nat) (news : List Value) (hl : news.length = m * i.size)
    (hnews : ∀ j u, news[j]? = some u → w.cell? (a.add j) = some u) (h63 : n + m ≤ maxLen) (hb : (n + m) * i.bytes ≤ 140737488355328) (hfull : cap < n + m) {v' : Value} {w' : World}
    (hrun : (Builtin.append_ #[t, t] ty #[.slice (some ⟨g, 0, none⟩) n cap, .slice (some a) m c]).run P w = .ok v' w') : Below w.heap.size w w' := by
  have holds : ∀ j u, xs[j]? = some u → w.cell? ((⟨g, 0, none⟩ : Addr).add j) = some u := hown.cells (g := g) rfl
  have hr := run_append_grow (P := P) w t ty e i z ht hi hz ⟨g, 0, none⟩ n cap xs hown.1 holds a m c news hl hnews (by omega) (by simp only [maxLen] at h63; omega) (growslice_fits (by omega) hb)
  rw [hrun] at hr
  cases hr
  exact ((Below.refl _ w).drew).alloc (Nat.le_refl _) _

theorem wpListIn_append_keep {F : Fence} {n : Nat} {P : Program} (w : World) {ops : Array Oper} {rest : List Oper} {o : Oper} {a : Act} {Q : Exit → Act → World → Prop}
    (hg : o.guard = none) (s x : Operand) (t : TypeId) (hop : o.op = Op.call { callee := Callee.builtin Builtin.append, args := #[s, x], argTypes := #[t, t] })
    (base : Nat) (e : TypeId) (i : TypeInfo) (z : Value) (size bytes : Nat) (h1 : P.underlying t = some (.slice e)) (h2 : P.info? e = some i) (h3 : i.zero = some z) (h4 : i.size = size) (h5 : i.bytes = bytes) (h6 : z.cells.size = size) (h7 : 0 < size)
    (v : Value) (k : Nat) (xs : List Value) (hs : a.eval s = v) (hown : w.ownsRow base e size v k xs) (ad : Addr) (m c : Nat) (news : List Value) (hx : a.eval x = .slice (some ad) m c) (hn : news.length = m * size)
    (hc : ∀ j u, news[j]? = some u → w.cell? (ad.add j) = some u) (h1c : ∀ u ∈ news, u.oneCell' = true) (b1 : k + m ≤ maxLen) (b2 : (k + m) * bytes ≤ 140737488355328) (b3 : base ≤ w.heap.size)
    (hK : ∀ v' w', w'.ownsRow base e size v' (k + m) (xs ++ news) → w.grownBy w' v.ownBlock → (v' = .slice none 0 0 ↔ v = .slice none 0 0 ∧ m = 0) → (∀ g cap, v = .slice (some ⟨g, 0, none⟩) k cap → cap < k + m → Below w.heap.size w w') → wpListIn F n P ops Q rest (a.put o.dst v') w') :
    wpListIn F n P ops Q (o :: rest) a w := by
  refine wpListIn_plain hg fun K hK' => ?_
  obtain ⟨v', w', hrun, r1, r2, r3⟩ := run_append_own (P := P) w base t o.type e i z size bytes h1 h2 h3 h4 h5 h6 h7 v k xs hown ad m c news hn hc h1c b1 b2 b3
  have r4 : ∀ g cap, v = .slice (some ⟨g, 0, none⟩) k cap → cap < k + m → Below w.heap.size w w' := by
    rintro g cap rfl hf
    subst h4 h5
    exact append_full w t o.type e i z h1 h2 h3 base g k cap xs hown ad m c news hn hc b1 b2 hf hrun
  unfold Oper.wpIn
  refine ⟨by simp [Oper.about, hop, resolve, Target.leads, Sem.run_pure], ?_⟩
  rw [Oper.semAt_plain F _ _ (by rw [hop]; intro c hc'; cases hc')]
  simp [execOp, hop, resolve, invoke, builtin, hs, hx, hrun, Result.andThen]
  exact hK' _ _ (hK v' w' r1 r2 r3 r4)

/-- A token's four cells. -/
def cells4 (t : Tok) : List Value := [.int .u8 t.kind, S t.text, .int .i64 t.n, .int .i64 t.pos]
theorem cell_four_new (W : World) (a0 a1 a2 a3 : Value) (t : TypeId) (j : Nat) (u : Value) (h : [a0, a1, a2, a3][j]? = some u) : (W.alloc (.cells #[a0, a1, a2, a3] t)).cell? ((⟨W.heap.size, 0, none⟩ : Addr).add j) = some u := by
  have hn := World.alloc_heap_new W (.cells #[a0, a1, a2, a3] t)
  have e : ((⟨W.heap.size, 0, none⟩ : Addr).add j) = ⟨W.heap.size, j, none⟩ := by simp [Addr.add]; exact fun h => h.symm
  rw [e]
  simp only [World.cell?, hn]
  simpa using h
theorem cells4_one (t : Tok) : ∀ u ∈ cells4 t, u.oneCell' = true := by
  intro u hu
  simp only [cells4, List.mem_cons, List.not_mem_nil, or_false] at hu
  rcases hu with rfl | rfl | rfl | rfl <;> rfl
def rowOf (xs : List (Tok × Int)) : List Value := xs.flatMap fun x => cells4 x.1
theorem rowOf_snoc (xs : List (Tok × Int)) (x : Tok × Int) : rowOf (xs ++ [x]) = rowOf xs ++ cells4 x.1 := by simp [rowOf]
theorem rowOf_nil : rowOf [] = [] := rfl

theorem infoTok : (Tryz.prog.info? 143).map (fun i => (i.zero, i.size, i.bytes)) = some (some (.agg #[.int .u8 0, .string ⟨#[]⟩, .int .i64 0, .int .i64 0]), 4, 40) := by kernel_rfl

/-- No error among them. -/
def fine (xs : List (Tok × Int)) : Prop := ∀ x ∈ xs, x.2 = 0

theorem kp4_t {n₀ : Nat} {A B C : World} (h : Kp4 n₀ A B) (k : Kp4 n₀ B C) : Kp4 n₀ A C :=
  ⟨h.1.trans k.1, fun i cs hi => k.2.1 i cs (h.2.1 i cs hi), fun i cs hi h4 => k.2.2 i cs (h.2.2 i cs hi h4) h4⟩
theorem kp4_b {n₀ : Nat} {w : World} (hn : n₀ ≤ w.heap.size) (W : World) (l : Nat) (o o' : Obj) (hl : w.heap.size ≤ l) (h : W.heap[l]? = some o) (hc : o.isCells = false) (hw : o.isWalk = false) : Kp4 n₀ W (W.putObj l o') := by
  refine ⟨belowK_b hn W l o o' hl h hc hw, fun k cs hk => ?_, fun k cs hk _ => ?_⟩
  all_goals
    rw [World.putObj_heap_other (by rintro rfl; rw [h] at hk; cases hk; cases hc)]
    exact hk
theorem kp4_below {n₀ : Nat} {A C : World} (hn : n₀ ≤ A.heap.size) (h : Below A.heap.size A C) : Kp4 n₀ A C :=
  ⟨h.mono hn, fun k _ hk => (h.block k (Array.getElem?_eq_some_iff.1 hk).1).trans hk, fun k _ hk _ => (h.block k (Array.getElem?_eq_some_iff.1 hk).1).trans hk⟩

theorem boxed_putObj {W : World} {B : Nat} {t : TypeId} {v : Value} (h : Boxed W B t v) {l : Nat} {o : Obj} (o' : Obj) (hl : W.heap[l]? = some o) (ho : o.isCells = false) : Boxed (W.putObj l o') B t v :=
  h.kept (grownBy_putObj' W l o') (fun e => by cases e; rw [show W.heap[_]? = _ from h] at hl; cases hl; cases ho)

def isE (x : Tok × Int) : Bool := x.2 != 0

end Go.Proofs.YtkgnigloboajcabGreatDoor

/- Tokens, as a plain contract. -/
namespace Go.Proofs.YtkgnigloboajcabGreatDoor
open Go.RowKit

/-- What a row holds, cell by cell. -/
theorem ownsRow_cells {w : World} {base e size k : Nat} {v : Value} {xs : List Value} (h : w.ownsRow base e size v (k + 1) xs) :
    ∃ g cap, v = .slice (some ⟨g, 0, none⟩) (k + 1) cap ∧ base ≤ g ∧ g < w.heap.size ∧ ∀ j u, xs[j]? = some u → w.cell? ⟨g, j, none⟩ = some u := by
  rcases h.2 with ⟨_, h0⟩ | ⟨g, cap, cur, rfl, hb, hg, hk, _, hcs, ht⟩
  · omega
  · refine ⟨g, cap, rfl, hb, (Array.getElem?_eq_some_iff.1 hg).1, fun j u hu => ?_⟩
    rw [← ht] at hu
    have hj : j < (k + 1) * size := by
      have := (List.getElem?_eq_some_iff.1 hu).1; rw [List.length_take] at this; omega
    rw [List.getElem?_take_of_lt hj] at hu
    simp [World.cell?, hg]
    simpa using hu

end Go.Proofs.YtkgnigloboajcabGreatDoor

/- Rows of tokens in memory: read token by token. -/
namespace Go.Proofs.YtkgnigloboajcabGreatDoor
open Go.RowKit

/-- Block g holds the tokens xs, one behind the other. -/
def TRow (w : World) (g : Nat) (xs : List (Tok × Int)) : Prop := g < w.heap.size ∧ ∀ (k : Nat) (x : Tok × Int), xs[k]? = some x →
  w.cell? ⟨g, k * 4, none⟩ = some (.int .u8 x.1.kind) ∧ w.cell? ⟨g, k * 4 + 1, none⟩ = some (S x.1.text) ∧ w.cell? ⟨g, k * 4 + 1 + 1, none⟩ = some (.int .i64 x.1.n) ∧ w.cell? ⟨g, k * 4 + 1 + 1 + 1, none⟩ = some (.int .i64 x.1.pos)

theorem rowOf_get : ∀ (xs : List (Tok × Int)) (k j : Nat) (x : Tok × Int), xs[k]? = some x → j < 4 → (rowOf xs)[k * 4 + j]? = (cells4 x.1)[j]?
  | [], k, j, x, h, _ => by simp at h
  | y :: r, 0, j, x, h, hj => by
    obtain rfl : y = x := by simpa using h
    show (cells4 y.1 ++ rowOf r)[0 * 4 + j]? = _
    rw [Nat.zero_mul, Nat.zero_add, List.getElem?_append_left (by simpa [cells4] using hj)]
  | y :: r, k + 1, j, x, h, hj => by
    show (cells4 y.1 ++ rowOf r)[(k + 1) * 4 + j]? = _
    rw [List.getElem?_append_right (by simp [cells4]; omega), show (k + 1) * 4 + j - (cells4 y.1).length = k * 4 + j from by simp [cells4]; omega]
    exact rowOf_get r k j x (by simpa using h) hj

theorem trow_of {w : World} {base : Nat} {v : Value} {xs : List (Tok × Int)} (hne : xs ≠ []) (h : w.ownsRow base 143 4 v xs.length (rowOf xs)) :
    ∃ g cap, v = .slice (some ⟨g, 0, none⟩) xs.length cap ∧ base ≤ g ∧ TRow w g xs := by
  obtain ⟨n, hn⟩ : ∃ n, xs.length = n + 1 := ⟨xs.length - 1, by have := List.length_pos_iff.2 hne; omega⟩
  rw [hn] at h ⊢
  obtain ⟨g, cap, rfl, hb, hg, hc⟩ := ownsRow_cells h
  refine ⟨g, cap, rfl, hb, hg, fun k x hx => ⟨?_, ?_, ?_, ?_⟩⟩
  · exact hc _ _ (by have := rowOf_get xs k 0 x hx (by omega); simpa [cells4] using this)
  · exact hc _ _ (by have := rowOf_get xs k 1 x hx (by omega); simpa [cells4] using this)
  · exact hc _ _ (by have := rowOf_get xs k 2 x hx (by omega); simpa [cells4] using this)
  · exact hc _ _ (by have := rowOf_get xs k 3 x hx (by omega); simpa [cells4] using this)

theorem TRow.below {w w' : World} {B g : Nat} {xs : List (Tok × Int)} (h : TRow w g xs) (hb : Below B w w') (hB : g < B) : TRow w' g xs :=
  ⟨Nat.lt_of_lt_of_le h.1 hb.size, fun k x hx => by
    obtain ⟨a, b, c, d⟩ := h.2 k x hx
    exact ⟨(hb.cell (p := ⟨g, k * 4, none⟩) hB).trans a, (hb.cell (p := ⟨g, k * 4 + 1, none⟩) hB).trans b, (hb.cell (p := ⟨g, k * 4 + 1 + 1, none⟩) hB).trans c, (hb.cell (p := ⟨g, k * 4 + 1 + 1 + 1, none⟩) hB).trans d⟩⟩

/-- .. kept, where its block is. -/
theorem TRow.kept {w w' : World} {g : Nat} {xs : List (Tok × Int)} (h : TRow w g xs) (hb : w'.heap[g]? = w.heap[g]?) (hs : w.heap.size ≤ w'.heap.size) : TRow w' g xs :=
  ⟨Nat.lt_of_lt_of_le h.1 hs, fun k x hx => by
    obtain ⟨a, b, c, d⟩ := h.2 k x hx
    have e : ∀ o, w'.cell? ⟨g, o, none⟩ = w.cell? ⟨g, o, none⟩ := fun o => World.cell?_of_block (w := w) (a := ⟨g, o, none⟩) hb
    exact ⟨(e _).trans a, (e _).trans b, (e _).trans c, (e _).trans d⟩⟩
end Go.Proofs.YtkgnigloboajcabGreatDoor
