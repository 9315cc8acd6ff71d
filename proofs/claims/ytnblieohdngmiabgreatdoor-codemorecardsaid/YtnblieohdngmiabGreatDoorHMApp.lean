/- append, whatever is appended; code whose procedures' code lies elsewhere. -/
import Derived.Test.YtnblieohdngmiabGreatDoorHLGen
import Derived.Test.YtnblieohdngmiabGreatDoorHMMath
import Derived.Test.YtnblieohdngmiabGreatDoorGL
import Derived.Deep.AppendLies
namespace Go.Proofs.YtnblieohdngmiabGreatDoor
open Go.RowKit

theorem run_append_zero {P : Program} (w : World) (base : Nat) (t ty e : TypeId) (i : TypeInfo) (size : Nat) (ht : P.underlying t = some (.slice e)) (hi : P.info? e = some i)
    (v : Value) (n c : Nat) (xs : List Value) (hown : w.ownsRow base e size v n xs) (ao : Option Addr) :
    (Builtin.append_ #[t, t] ty #[v, .slice ao 0 c]).run P w = .ok v w := by
  cases ao with
  | none => exact run_append_nil0 w base t ty e i size ht hi v n c xs hown
  | some ad =>
    have hl0 : (loadCellsFrom ad 0 0 #[]).run P w = .ok #[] w := by simp [loadCellsFrom, Sem.run_pure]
    rcases hown.2 with ⟨rfl, rfl⟩ | ⟨g, cap, cur, rfl, _, _, hnc, _⟩
    · simp [Builtin.append_, run_underlying ht, sizeOf, typeInfo, hi, Builtin.lenOf, Builtin.firstCells, loadCells, hl0, Result.andThen]
    · simp [Builtin.append_, run_underlying ht, sizeOf, typeInfo, hi, Builtin.lenOf, Builtin.firstCells, hnc, storeCells, loadCells, hl0, Result.andThen]
theorem wpList_append_all {P : Program} (w : World) {ops : Array Oper} {rest : List Oper} {o : Oper} {a : Act} {Q : Exit → Act → World → Prop} (hgd : o.guard = none) (s x : Operand) (t : TypeId)
    (ho : o.op = .call { callee := .builtin .append, args := #[s, x], argTypes := #[t, t] })
    (base : Nat) (e : TypeId) (i : TypeInfo) (z : Value) (size bytes : Nat) (ht : P.underlying t = some (.slice e)) (hi : P.info? e = some i) (hz : i.zero = some z)
    (hsize : i.size = size) (hby : i.bytes = bytes) (hzs : z.cells.size = size) (hsz : 0 < size)
    (v : Value) (n : Nat) (xs : List Value) (hs : a.eval s = v) (hown : w.ownsRow base e size v n xs)
    (ao : Option Addr) (m c : Nat) (news : List Value) (hx : a.eval x = .slice ao m c) (hl : news.length = m * size) (hnone : ao = none → m = 0) (hnews : ∀ ad, ao = some ad → ∀ j u, news[j]? = some u → w.cell? (ad.add j) = some u) (h1 : ∀ u ∈ news, u.oneCell' = true)
    (h63 : n + m ≤ maxLen) (hbytes : (n + m) * bytes ≤ 140737488355328) (hbase : base ≤ w.heap.size)
    (h : ∀ ra cap w', w'.ownsRow base e size (.slice ra (n + m) cap) (n + m) (xs ++ news) → w.grownBy w' v.ownBlock → (∀ g, (Value.slice ra (n + m) cap).ownBlock = some g → v.ownBlock = some g ∨ w.heap.size ≤ g) → wpList P ops Q rest (a.put o.dst (.slice ra (n + m) cap)) w') : wpList P ops Q (o :: rest) a w := by
  by_cases hm : m = 0
  · subst hm
    have hnews0 : news = [] := List.eq_nil_of_length_eq_zero (by simpa using hl)
    subst hnews0
    obtain ⟨ra, cap, rfl⟩ := own_slice' hown
    refine wpList_plain hgd fun K hK' => ?_
    have hrun := run_append_zero (P := P) w base t o.type e i size ht hi _ n c xs hown ao
    unfold Oper.wp
    simp [execOp, ho, resolve, invoke, builtin, hs, hx, hrun, Result.andThen]
    exact hK' _ _ (by simpa using h ra cap w (by simpa using hown) (World.grownBy.refl _ _) (fun g hg => .inl hg))
  · cases ao with
    | none => exact absurd (hnone rfl) hm
    | some ad =>
      refine wpList_append_lies (w := w) hgd s x t ho base e i z size bytes ht hi hz hsize hby hzs hsz v n xs hs hown ad m c news hx hl (hnews ad rfl) h1 (by omega) h63 hbytes hbase _ rfl ?_
      intro g cap w' h2 h3 h4 _
      refine h _ cap w' h2 h3 (fun g' hg' => ?_)
      have : g = g' := by simpa [Value.ownBlock] using hg'
      subst this
      rcases h4 with h4 | h4
      · exact .inl h4
      · exact .inr (by omega)
/-- Code in rows of its own, but the procedures' code, which lies in the elder world w0. -/
structure PC (w0 w : World) (base : Nat) (v1 v2 v3 : Value) (vs : List Value) (c : Cd) : Prop where
  o1 : w.ownsRow base 31 1 v1 c.consts.length (wordCells c.consts)
  o2 : w.ownsRow base 29 2 v2 c.procs.length (prcCells c.procs vs)
  o3 : w.ownsRow base 9 1 v3 c.globals.length (c.globals.map S)
  hv : vs.length = c.procs.length
  cd : ∀ (j : Nat) (p : Prc) (v : Value), c.procs[j]? = some p → vs[j]? = some v → ∃ rc cc, v = .slice rc p.code.length cc ∧ NR w0 rc p.code ∧ p.code.length ≤ maxLen
theorem PC.cv {w0 w : World} {base : Nat} {v1 v2 v3 : Value} {vs : List Value} {c : Cd} (h : PC w0 w base v1 v2 v3 vs c) (hb : Below w0.heap.size w0 w) (hr : ∀ x ∈ c.consts, Rng x) (ht : ∀ t ∈ c.globals, t.length ≤ maxLen) : CV w (.agg #[v1, v2, v3]) c := by
  obtain ⟨r1, c1, b1, rfl, a1, _, m1, s1, k1⟩ := own_cells h.o1 (by decide)
  obtain ⟨r2, c2, b2, rfl, a2, _, m2, s2, k2⟩ := own_cells h.o2 (by decide)
  obtain ⟨r3, c3, b3, rfl, a3, l3, m3, s3, k3⟩ := own_cells h.o3 (by decide)
  refine ⟨⟨r1, c1, r2, c2, r3, c3, rfl, ⟨b1, 0, a1, fun j x hx => ?_⟩, ⟨b2, 0, a2, fun j x hx => ?_⟩, ⟨b3, 0, a3, fun j x hx => ?_⟩, l3⟩, m1, m2, m3⟩
  · have hne : c.consts.length ≠ 0 := by have := (List.getElem?_eq_some_iff.1 hx).1; omega
    exact ⟨s1 hne, by rw [Nat.zero_add]; exact k1 j _ (by unfold wordCells; rw [List.getElem?_map, hx]; rfl), hr x (List.mem_of_getElem? hx)⟩
  · have hjl := (List.getElem?_eq_some_iff.1 hx).1
    have hne : c.procs.length ≠ 0 := by omega
    have hv : vs[j]? = some (vs[j]'(by rw [h.hv]; exact hjl)) := List.getElem?_eq_getElem _
    obtain ⟨q1, q2⟩ := prcCells_at _ _ j x _ hx hv
    obtain ⟨rc, cc, e4, hN, hl⟩ := h.cd j x _ hx hv
    exact ⟨s2 hne, by rw [Nat.zero_add]; exact k2 _ _ q1, ⟨rc, cc, by rw [Nat.zero_add, ← e4]; exact k2 _ _ q2, hN.below hb⟩, hl⟩
  · have hne : c.globals.length ≠ 0 := by have := (List.getElem?_eq_some_iff.1 hx).1; omega
    exact ⟨s3 hne, by rw [Nat.zero_add]; exact k3 j _ (by rw [List.getElem?_map, hx]; rfl), ht x (List.mem_of_getElem? hx)⟩
theorem PC.kept {w0 w w' : World} {base : Nat} {v1 v2 v3 : Value} {vs : List Value} {c : Cd} (h : PC w0 w base v1 v2 v3 vs c) (hk : ∀ g, base ≤ g → g < w.heap.size → w'.heap[g]? = w.heap[g]?) : PC w0 w' base v1 v2 v3 vs c :=
  ⟨own_same h.o1 (fun g hg => hk g (h.o1.lt g hg).1 (h.o1.lt g hg).2), own_same h.o2 (fun g hg => hk g (h.o2.lt g hg).1 (h.o2.lt g hg).2), own_same h.o3 (fun g hg => hk g (h.o3.lt g hg).1 (h.o3.lt g hg).2), h.hv, h.cd⟩
/-- Procedures that are read: their cells. -/
theorem procs_cells {w : World} {ra : Option Addr} {l : List Prc} (h : PR w ra l) : ∃ vs : List Value, vs.length = l.length ∧ (∀ (j : Nat) (p : Prc) (v : Value), l[j]? = some p → vs[j]? = some v → ∃ rc cc, v = .slice rc p.code.length cc ∧ NR w rc p.code ∧ p.code.length ≤ maxLen) ∧ (∀ u ∈ prcCells l vs, u.oneCell' = true) ∧ ∀ ad, ra = some ad → ∀ j u, (prcCells l vs)[j]? = some u → w.cell? (ad.add j) = some u ∧ ad.block < w.heap.size := by
  obtain ⟨b, o, h1, h2⟩ := PR.at h
  have hrow : ∀ (k i : Nat), i + k = l.length → ∃ vs : List Value, vs.length = k ∧ (∀ (j : Nat) (p : Prc) (v : Value), (l.drop i)[j]? = some p → vs[j]? = some v → ∃ rc cc, v = .slice rc p.code.length cc ∧ NR w rc p.code ∧ p.code.length ≤ maxLen) ∧ (∀ u ∈ prcCells (l.drop i) vs, u.oneCell' = true) ∧ ∀ (j : Nat) (u : Value), (prcCells (l.drop i) vs)[j]? = some u → w.cell? ⟨b, o + i * 2 + j, none⟩ = some u ∧ b < w.heap.size := by
    intro k
    induction k with
    | zero =>
      intro i hi
      have hd : l.drop i = [] := List.drop_eq_nil_of_le (by omega)
      rw [hd]
      exact ⟨[], rfl, fun j p v hj => by simp at hj, fun u hu => by simp [prcCells] at hu, fun j u hj => by simp [prcCells] at hj⟩
    | succ k ih =>
      intro i hi
      obtain ⟨vs, e1, e2, e3, e4⟩ := ih (i + 1) (by omega)
      have hlt : i < l.length := by omega
      have hd : l.drop i = l[i] :: l.drop (i + 1) := List.drop_eq_getElem_cons hlt
      obtain ⟨g0, g1, ⟨rc, cc, g2, g3⟩, g4⟩ := h2 i l[i] (List.getElem?_eq_getElem hlt)
      rw [hd]
      refine ⟨.slice rc l[i].code.length cc :: vs, by simp [e1], fun j p v hj hv => ?_, fun u hu => ?_, fun j u hj => ?_⟩
      · cases j with
        | zero =>
          have e5 : l[i] = p := Option.some.inj hj
          have e6 : Value.slice rc l[i].code.length cc = v := Option.some.inj hv
          subst e5; subst e6; exact ⟨rc, cc, rfl, g3, g4⟩
        | succ j => exact e2 j p v hj hv
      · simp only [prcCells, List.mem_cons] at hu
        rcases hu with rfl | rfl | hu
        · rfl
        · rfl
        · exact e3 u hu
      · match j, hj with
        | 0, hj =>
          have e5 : Value.int .i64 l[i].params = u := Option.some.inj hj
          subst e5; exact ⟨g1, g0⟩
        | 1, hj =>
          have e5 : Value.slice rc l[i].code.length cc = u := Option.some.inj hj
          subst e5; exact ⟨g2, g0⟩
        | j + 2, hj =>
          have := e4 j u (by simpa [prcCells] using hj)
          rwa [show o + (i + 1) * 2 + j = o + i * 2 + (j + 2) by omega] at this
  obtain ⟨vs, e1, e2, e3, e4⟩ := hrow l.length 0 (by omega)
  rw [List.drop_zero] at e2 e3 e4
  refine ⟨vs, e1, e2, e3, fun ad had j u hj => ?_⟩
  have hne : l.length ≠ 0 := fun h0 => by
    have : l = [] := List.length_eq_zero_iff.1 h0
    subst this
    simp [prcCells] at hj
  rw [h1 hne] at had
  cases had
  have := e4 j u hj
  rw [ad_add]
  rwa [show o + 0 * 2 + j = o + j by omega] at this
end Go.Proofs.YtnblieohdngmiabGreatDoor
