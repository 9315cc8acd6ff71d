/- LentCode: code that is handed in, laid once more. -/
import Derived.Test.YtnblieohdngmiaaGreatDoorHLLent
import Derived.Deep.RegionHeld3
namespace Go.Proofs.YtnblieohdngmiaaGreatDoor
open Go.RowKit

abbrev insM : List Value := [.int .u8 0, .int .i64 (-71), .int .u8 0, .int .i64 (-72)]
/-- The code of lent procedures. -/
structure LP (w : World) (B : Nat) (ps : List Prc) (vs : List Value) : Prop where
  len : vs.length = ps.length
  row : ∀ (j : Nat) (p : Prc) (v : Value), ps[j]? = some p → vs[j]? = some v → ∃ g, v = .slice (some ⟨g, 0, none⟩) p.code.length (p.code.length + 2) ∧ w.ownsRow B 83 2 (.slice (some ⟨g, 0, none⟩) (p.code.length + 2) (p.code.length + 2)) (p.code.length + 2) (insCells p.code ++ insM)
theorem LP.kept {w w' : World} {B : Nat} {ps : List Prc} {vs : List Value} (h : LP w B ps vs) (hk : ∀ g, B ≤ g → g < w.heap.size → w'.heap[g]? = w.heap[g]?) : LP w' B ps vs :=
  ⟨h.len, fun j p v hp hv => by
    obtain ⟨g, e, ho⟩ := h.row j p v hp hv
    exact ⟨g, e, own_same ho (fun g' hg' => hk g' (ho.lt g' hg').1 (ho.lt g' hg').2)⟩⟩
theorem own_mono {w : World} {base base' e size n : Nat} {v : Value} {xs : List Value} (h : w.ownsRow base e size v n xs) (hb : base' ≤ base) : w.ownsRow base' e size v n xs := by
  refine ⟨h.1, ?_⟩
  rcases h.2 with h' | ⟨g, cap, cur, hv, hg, hh, r⟩
  · exact .inl h'
  · exact .inr ⟨g, cap, cur, hv, Nat.le_trans hb hg, hh, r⟩
theorem LP.mono {w : World} {B B' : Nat} {ps : List Prc} {vs : List Value} (h : LP w B ps vs) (hb : B' ≤ B) : LP w B' ps vs :=
  ⟨h.len, fun j p v hp hv => by
    obtain ⟨g, e, ho⟩ := h.row j p v hp hv
    exact ⟨g, e, own_mono ho hb⟩⟩
theorem LP.snoc {w : World} {B g : Nat} {ps : List Prc} {vs : List Value} {p : Prc} (h : LP w B ps vs) (ho : w.ownsRow B 83 2 (.slice (some ⟨g, 0, none⟩) (p.code.length + 2) (p.code.length + 2)) (p.code.length + 2) (insCells p.code ++ insM)) : LP w B (ps ++ [p]) (vs ++ [.slice (some ⟨g, 0, none⟩) p.code.length (p.code.length + 2)]) := by
  refine ⟨by simp [h.len], fun j q v hq hv => ?_⟩
  have hl := h.len
  rcases get_snoc hq with h1 | ⟨h1, rfl⟩
  · have hj := (List.getElem?_eq_some_iff.1 h1).1
    rw [List.getElem?_append_left (by omega)] at hv
    exact h.row j q v h1 hv
  · subst h1
    rw [← hl, List.getElem?_append_right (Nat.le_refl _)] at hv
    simp at hv
    exact ⟨g, hv.symm, ho⟩
/-- Lent code. -/
def LCd (w : World) (B : Nat) (v : Value) (c : Cd) : Prop := ∃ g1 g2 g3 vs,
  v = .agg #[.slice (some ⟨g1, 0, none⟩) c.consts.length (c.consts.length + 2), .slice (some ⟨g2, 0, none⟩) c.procs.length (c.procs.length + 1), .slice (some ⟨g3, 0, none⟩) c.globals.length (c.globals.length + 2)]
  ∧ w.ownsRow B 76 1 (.slice (some ⟨g1, 0, none⟩) (c.consts.length + 2) (c.consts.length + 2)) (c.consts.length + 2) (wordCells c.consts ++ [.int .u64 77777771, .int .u64 77777772])
  ∧ w.ownsRow B 70 2 (.slice (some ⟨g2, 0, none⟩) (c.procs.length + 1) (c.procs.length + 1)) (c.procs.length + 1) (prcCells c.procs vs ++ [.int .i64 (-77), .slice none 0 0])
  ∧ w.ownsRow B 9 1 (.slice (some ⟨g3, 0, none⟩) (c.globals.length + 2) (c.globals.length + 2)) (c.globals.length + 2) (c.globals.map S ++ [S ownT, S ownT])
  ∧ LP w B c.procs vs
theorem own_at {w : World} {base e c g n cap : Nat} {xs : List Value} (h : w.ownsRow base e c (.slice (some ⟨g, 0, none⟩) n cap) n xs) (j : Nat) (u : Value) (hj : xs[j]? = some u) : w.cell? ⟨g, j, none⟩ = some u := by
  have := h.cells rfl j u hj
  rwa [ad_add, Nat.zero_add] at this
theorem get_app {l r : List Value} {j : Nat} {u : Value} (h : l[j]? = some u) : (l ++ r)[j]? = some u := by
  rw [List.getElem?_append_left (List.getElem?_eq_some_iff.1 h).1]; exact h
/-- Lent code is read as what it is. -/
theorem LCd.cv {w w0 : World} {B : Nat} {v v0 : Value} {c : Cd} (h : LCd w B v c) (h0 : CV w0 v0 c) : CV w v c := by
  obtain ⟨g1, g2, g3, vs, rfl, o1, o2, o3, hp⟩ := h
  obtain ⟨⟨r1, c1, r2, c2, r3, c3, -, ⟨_, _, _, a1⟩, ⟨_, _, _, a2⟩, ⟨_, _, _, a3⟩, -⟩, hl⟩ := h0
  refine ⟨⟨_, _, _, _, _, _, rfl, ⟨g1, 0, .inr rfl, fun j x hx => ⟨(o1.lt g1 rfl).2, ?_, (a1 j x hx).2.2⟩⟩, ⟨g2, 0, .inr rfl, fun j x hx => ?_⟩, ⟨g3, 0, .inr rfl, fun j x hx => ⟨(o3.lt g3 rfl).2, ?_, (a3 j x hx).2.2⟩⟩, by omega⟩, hl⟩
  · rw [Nat.zero_add]
    exact own_at o1 j _ (get_app (by unfold wordCells; rw [List.getElem?_map, hx]; rfl))
  · have hjl := (List.getElem?_eq_some_iff.1 hx).1
    have hv : vs[j]? = some (vs[j]'(by rw [hp.len]; exact hjl)) := List.getElem?_eq_getElem _
    obtain ⟨q1, q2⟩ := prcCells_at _ _ j x _ hx hv
    obtain ⟨g, e, ho⟩ := hp.row j x _ hx hv
    obtain ⟨_, _, ⟨_, _, _, ⟨_, _, _, a4⟩⟩, a5⟩ := a2 j x hx
    refine ⟨(o2.lt g2 rfl).2, by rw [Nat.zero_add]; exact own_at o2 _ _ (get_app q1), ⟨_, _, by rw [Nat.zero_add, ← e]; exact own_at o2 _ _ (get_app q2), g, 0, .inr rfl, fun i y hy => ?_⟩, a5⟩
    obtain ⟨i1, i2⟩ := insCells_at _ i y hy
    exact ⟨(ho.lt g rfl).2, by rw [Nat.zero_add]; exact own_at ho _ _ (get_app i1), by rw [Nat.zero_add]; exact own_at ho _ _ (get_app i2), (a4 i y hy).2.2.2⟩
  · rw [Nat.zero_add]
    exact own_at o3 j _ (get_app (by rw [List.getElem?_map, hx]; rfl))
theorem step_append_fits {P : Program} (w : World) {ops : Array Oper} {o : Oper} {a : Act} {K : Act → World → Prop} {Q : Exit → Act → World → Prop} {E : Prop}
    (hg : o.guard = none) (s x : Operand) (t : TypeId) (hop : o.op = Op.call { callee := Callee.builtin Builtin.append, args := #[s, x], argTypes := #[t, t] })
    (base : Nat) (e : TypeId) (i : TypeInfo) (size : Nat) (h1 : P.underlying t = some (.slice e)) (h2 : P.info? e = some i) (h4 : i.size = size)
    (g k cap : Nat) (xs : List Value) (hs : a.eval s = .slice (some ⟨g, 0, none⟩) k cap) (hown : w.ownsRow base e size (.slice (some ⟨g, 0, none⟩) k cap) k xs) (ad : Addr) (m c : Nat) (news : List Value) (hx : a.eval x = .slice (some ad) m c) (hn : news.length = m * size)
    (hc : ∀ j u, news[j]? = some u → w.cell? (ad.add j) = some u) (h1c : ∀ u ∈ news, u.oneCell' = true) (b1 : k + m ≤ cap)
    (hK : ∀ w', w'.ownsRow base e size (.slice (some ⟨g, 0, none⟩) (k + m) cap) (k + m) (xs ++ news) → w.grownBy w' (some g) → K (a.put o.dst (.slice (some ⟨g, 0, none⟩) (k + m) cap)) w') :
    if Region.wanted o (yielded ops a.tmps) = true then Oper.wp P o a w K Q else E := by
  rw [if_pos (by simp [Region.wanted, hg])]
  obtain ⟨w', hrun, r1, r2⟩ := run_append_fits (P := P) w base t o.type e i size h1 h2 h4 g k cap xs hown ad m c news hn hc h1c b1
  unfold Oper.wp
  simp [execOp, hop, resolve, invoke, builtin, hs, hx, hrun, Result.andThen]
  exact hK w' r1 r2
end Go.Proofs.YtnblieohdngmiaaGreatDoor
