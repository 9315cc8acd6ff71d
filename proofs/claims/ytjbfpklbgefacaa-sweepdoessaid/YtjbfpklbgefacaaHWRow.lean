/- Rows of cells: copied, turned cell by cell; append of whatever comes; are two cells the same? -/
import Derived.Test.YtjbfpklbgefacaaHWKnown
import Derived.Deep.AppendSrc
import Derived.Laws.StructEq
namespace Go.Proofs.Ytjbfpklbgefacaa
open Go.RowKit

theorem run_append_nil0 {P : Program} (w : World) (base : Nat) (t ty e : TypeId) (i : TypeInfo) (size : Nat) (ht : P.underlying t = some (.slice e)) (hi : P.info? e = some i)
    (v : Value) (n c : Nat) (xs : List Value) (hown : w.ownsRow base e size v n xs) :
    (Builtin.append_ #[t, t] ty #[v, .slice none 0 c]).run P w = .ok v w := by
  rcases hown.2 with ⟨rfl, rfl⟩ | ⟨g, cap, cur, rfl, _, _, hnc, _⟩
  · simp [Builtin.append_, run_underlying ht, sizeOf, typeInfo, hi, Builtin.lenOf, Builtin.firstCells]
  · simp [Builtin.append_, run_underlying ht, sizeOf, typeInfo, hi, Builtin.lenOf, Builtin.firstCells, hnc, storeCells]
theorem run_append_zero {P : Program} (w : World) (base : Nat) (t ty e : TypeId) (i : TypeInfo) (size : Nat) (ht : P.underlying t = some (.slice e)) (hi : P.info? e = some i)
    (v : Value) (n c : Nat) (xs : List Value) (hown : w.ownsRow base e size v n xs) (ao : Option Addr) :
    (Builtin.append_ #[t, t] ty #[v, .slice ao 0 c]).run P w = .ok v w := by
  cases ao with
  | none => exact run_append_nil0 w base t ty e i size ht hi v n c xs hown
  | some ad =>
    have hl0 : (loadCellsFrom ad 0 0 #[]).run P w = .ok #[] w := by simp [loadCellsFrom, Sem.run_pure]
    rcases hown.2 with ⟨rfl, rfl⟩ | ⟨g, cap, cur, rfl, _, _, hnc, _⟩
    · simp [Builtin.append_, run_underlying ht, sizeOf, typeInfo, hi, Builtin.lenOf, Builtin.firstCells, loadCells, hl0, Result.andThen]
    · simp [Builtin.append_, run_underlying ht, sizeOf, typeInfo, hi, Builtin.lenOf, Builtin.firstCells, hnc, storeCells, loadCells, hl0, Result.andThen]
theorem own_slice' {w : World} {base e size n : Nat} {v : Value} {xs : List Value} (h : w.ownsRow base e size v n xs) : ∃ ra cap, v = .slice ra n cap := by
  rcases h.2 with ⟨h', h0⟩ | ⟨g, cap, cur, hv, _⟩
  · subst h0; exact ⟨none, 0, h'⟩
  · exact ⟨_, _, hv⟩
theorem wpList_append_all {P : Program} (w : World) {ops : Array Oper} {rest : List Oper} {o : Oper} {a : Act} {Q : Exit → Act → World → Prop} (hgd : o.guard = none) (s x : Operand) (t : TypeId)
    (ho : o.op = .call { callee := .builtin .append, args := #[s, x], argTypes := #[t, t] })
    (base : Nat) (e : TypeId) (i : TypeInfo) (z : Value) (size bytes : Nat) (ht : P.underlying t = some (.slice e)) (hi : P.info? e = some i) (hz : i.zero = some z)
    (hsize : i.size = size) (hby : i.bytes = bytes) (hzs : z.cells.size = size) (hsz : 0 < size)
    (v : Value) (n : Nat) (xs : List Value) (hs : a.eval s = v) (hown : w.ownsRow base e size v n xs)
    (ao : Option Addr) (m c : Nat) (news : List Value) (hx : a.eval x = .slice ao m c) (hl : news.length = m * size) (hnone : ao = none → m = 0) (hnews : ∀ ad, ao = some ad → ∀ j u, news[j]? = some u → w.cell? (ad.add j) = some u) (h1 : ∀ u ∈ news, u.oneCell' = true)
    (h63 : n + m ≤ maxLen) (hbytes : (n + m) * bytes ≤ 140737488355328) (hbase : base ≤ w.heap.size)
    (h : ∀ ra cap w', w'.ownsRow base e size (.slice ra (n + m) cap) (n + m) (xs ++ news) → w.grownBy w' v.ownBlock → (∀ g, (Value.slice ra (n + m) cap).ownBlock = some g → v.ownBlock = some g ∨ w.heap.size ≤ g) → wpList P ops Q rest (a.put o.dst (.slice ra (n + m) cap)) w') : wpList P ops Q (o :: rest) a w := by
  by_cases hm : m = 0
  · subst hm
    have hnews0 : news = [] := List.eq_nil_of_length_eq_zero (by simpa using hl)
    subst hnews0
    obtain ⟨ra, cap, rfl⟩ := own_slice' hown
    refine wpList_plain hgd fun K hK' => ?_
    have hrun := run_append_zero (P := P) w base t o.type e i size ht hi _ n c xs hown ao
    unfold Oper.wp
    simp [execOp, ho, resolve, invoke, builtin, hs, hx, hrun, Result.andThen]
    exact hK' _ _ (by simpa using h ra cap w (by simpa using hown) (World.grownBy.refl _ _) (fun g hg => .inl hg))
  · cases ao with
    | none => exact absurd (hnone rfl) hm
    | some ad =>
      refine wpList_append_lies (w := w) hgd s x t ho base e i z size bytes ht hi hz hsize hby hzs hsz v n xs hs hown ad m c news hx hl (hnews ad rfl) h1 (by omega) h63 hbytes hbase _ rfl ?_
      intro g cap w' h2 h3 h4 _
      refine h _ cap w' h2 h3 (fun g' hg' => ?_)
      have : g = g' := by simpa [Value.ownBlock] using hg'
      subst this
      rcases h4 with h4 | h4
      · exact .inl h4
      · exact .inr (by omega)
theorem KR.at {w : World} {g j : Nat} {h : List Cl} {x : Cl} (H : KR w g h h.length) (hx : h[j]? = some x) : w.cell? ⟨g, j * 4, none⟩ = some (.int .u8 x.k) ∧ w.cell? ⟨g, j * 4 + 1, none⟩ = some (.int .u8 x.c) ∧ w.cell? ⟨g, j * 4 + 1 + 1, none⟩ = some (.int .u64 x.a) ∧ w.cell? ⟨g, j * 4 + 1 + 1 + 1, none⟩ = some (.int .u64 x.b) := by
  have hj : j < h.length := (List.getElem?_eq_some_iff.1 hx).1
  obtain ⟨a0, a1, a2, a3⟩ := clCells_at h j x hx
  have F : ∀ k v, k < h.length * 4 → (clCells h)[k]? = some v → w.cell? ⟨g, k, none⟩ = some v := fun k v hk hv => by
    obtain ⟨u, u1, u2⟩ := DR.cell H hk
    have := u2 hk
    rw [hv] at this
    cases this
    exact u1
  exact ⟨F _ _ (by omega) a0, F _ _ (by omega) a1, F _ _ (by omega) a2, F _ _ (by omega) a3⟩
def sameCl (x y : Cl) : Bool := ((x.k == y.k && x.c == y.c) && x.a == y.a) && x.b == y.b
theorem sameCl_iff {x y : Cl} : sameCl x y = true ↔ x = y := by
  obtain ⟨a, b, c, d⟩ := x
  obtain ⟨a', b', c', d'⟩ := y
  unfold sameCl
  simp only [Bool.and_eq_true, beq_iff_eq, Cl.mk.injEq]
  constructor
  · rintro ⟨⟨⟨h1, h2⟩, h3⟩, h4⟩; exact ⟨h1, h2, h3, h4⟩
  · rintro ⟨h1, h2, h3, h4⟩; exact ⟨⟨⟨h1, h2⟩, h3⟩, h4⟩
instance : DecidableEq Cl := fun x y => if h : sameCl x y = true then isTrue (sameCl_iff.1 h) else isFalse (fun e => h (sameCl_iff.2 e))
theorem neqCl_any (x y : Cl) (w : World) : (binOp .neq 39 (.agg #[.int .u8 x.k, .int .u8 x.c, .int .u64 x.a, .int .u64 x.b]) (.agg #[.int .u8 y.k, .int .u8 y.c, .int .u64 y.a, .int .u64 y.b])).run Try.prog w = .ok (.bool (!sameCl x y)) w := by
  have u1 := Try.underlying34
  have u2 := Try.underlying35
  have u3 := Try.underlying37
  have hS : Try.prog.underlying 39 = some (.struct (Try.prog.fieldsOf 39)) := by kernel_rfl
  have hp : Try.prog.stoodInHeld 39 = false := by kernel_rfl
  rw [run_neq_struct, show (10000 : Nat) = 9999 + 1 from rfl, run_equalIn_agg w 9999 39 _ _ hS hp]
  simp only [Program.fieldsOf, Try.underlying39]
  unfold sameCl
  cases h1 : (x.k == y.k) <;> cases h2 : (x.c == y.c) <;> cases h3 : (x.a == y.a) <;> cases h4 : (x.b == y.b)
  all_goals go_simp
theorem neqCl_same (x : Cl) (w : World) : (binOp .neq 39 (.agg #[.int .u8 x.k, .int .u8 x.c, .int .u64 x.a, .int .u64 x.b]) (.agg #[.int .u8 x.k, .int .u8 x.c, .int .u64 x.a, .int .u64 x.b])).run Try.prog w = .ok (.bool false) w := by
  rw [neqCl_any, sameCl_iff.2 rfl]; rfl
theorem neqCl_ne (x y : Cl) (h : x ≠ y) (w : World) : (binOp .neq 39 (.agg #[.int .u8 x.k, .int .u8 x.c, .int .u64 x.a, .int .u64 x.b]) (.agg #[.int .u8 y.k, .int .u8 y.c, .int .u64 y.a, .int .u64 y.b])).run Try.prog w = .ok (.bool true) w := by
  rw [neqCl_any, Bool.eq_false_iff.2 (fun e => h (sameCl_iff.1 e))]; rfl
theorem clCells_get : ∀ (l : List Cl) (k : Nat) (u : Value), (clCells l)[k]? = some u → ∃ (i : Nat) (x : Cl), l[i]? = some x ∧ ((k = i * 4 ∧ u = .int .u8 x.k) ∨ (k = i * 4 + 1 ∧ u = .int .u8 x.c) ∨ (k = i * 4 + 1 + 1 ∧ u = .int .u64 x.a) ∨ (k = i * 4 + 1 + 1 + 1 ∧ u = .int .u64 x.b))
  | [], k, u, h => by simp [clCells] at h
  | y :: r, k, u, h => by
    have e : clCells (y :: r) = .int .u8 y.k :: .int .u8 y.c :: .int .u64 y.a :: .int .u64 y.b :: clCells r := rfl
    rw [e] at h
    match k, h with
    | 0, h => exact ⟨0, y, rfl, .inl ⟨rfl, by simpa using h.symm⟩⟩
    | 1, h => exact ⟨0, y, rfl, .inr (.inl ⟨rfl, by simpa using h.symm⟩)⟩
    | 2, h => exact ⟨0, y, rfl, .inr (.inr (.inl ⟨rfl, by simpa using h.symm⟩))⟩
    | 3, h => exact ⟨0, y, rfl, .inr (.inr (.inr ⟨rfl, by simpa using h.symm⟩))⟩
    | k + 4, h =>
      obtain ⟨i, x, h1, h2⟩ := clCells_get r k u (by simpa using h)
      refine ⟨i + 1, x, by simpa using h1, ?_⟩
      rcases h2 with ⟨a, b⟩ | ⟨a, b⟩ | ⟨a, b⟩ | ⟨a, b⟩
      · exact .inl ⟨by omega, b⟩
      · exact .inr (.inl ⟨by omega, b⟩)
      · exact .inr (.inr (.inl ⟨by omega, b⟩))
      · exact .inr (.inr (.inr ⟨by omega, b⟩))
theorem hr_news {W : World} {ra : Option Addr} {H : List Cl} (h : HR W ra H) : (ra = none → H.length = 0) ∧ ∀ ad, ra = some ad → ∀ j u, (clCells H)[j]? = some u → W.cell? (ad.add j) = some u := by
  obtain ⟨b, o, hor, hcs⟩ := h
  refine ⟨fun e => ?_, fun ad had j u hu => ?_⟩
  · rcases hor with h' | h'
    · exact h'
    · rw [h'] at e; cases e
  · obtain ⟨i, x, hx, hq⟩ := clCells_get H j u hu
    have := hor.resolve_left (by have := (List.getElem?_eq_some_iff.1 hx).1; omega)
    rw [this] at had
    cases had
    rw [ad_add]
    obtain ⟨_, ⟨a0, a1, a2, a3⟩, _⟩ := hcs i x hx
    rcases hq with ⟨rfl, rfl⟩ | ⟨rfl, rfl⟩ | ⟨rfl, rfl⟩ | ⟨rfl, rfl⟩
    · exact a0
    · rw [show o + (i * 4 + 1) = o + i * 4 + 1 by omega]; exact a1
    · rw [show o + (i * 4 + 1 + 1) = o + i * 4 + 1 + 1 by omega]; exact a2
    · rw [show o + (i * 4 + 1 + 1 + 1) = o + i * 4 + 1 + 1 + 1 by omega]; exact a3
theorem hr_ok {W : World} {ra : Option Addr} {H : List Cl} (h : HR W ra H) : ∀ x ∈ H, OkK x := fun x hx => by
  obtain ⟨j, hj⟩ := List.getElem?_of_mem hx
  obtain ⟨b, o, _, hcs⟩ := h
  exact (hcs j x hj).2.2
theorem clCells_one (l : List Cl) : ∀ u ∈ clCells l, u.oneCell' = true := fun u hu => by
  obtain ⟨k, hk⟩ := List.getElem?_of_mem hu
  obtain ⟨i, x, _, h⟩ := clCells_get l k u hk
  rcases h with ⟨_, rfl⟩ | ⟨_, rfl⟩ | ⟨_, rfl⟩ | ⟨_, rfl⟩ <;> rfl
/-- A row of cells of one's own. -/
def OwK (w : World) (base : Nat) (ra : Option Addr) (l : List Cl) : Prop := l.length = 0 ∨ ∃ (g : Nat) (cs : Array Value), ra = some ⟨g, 0, none⟩ ∧ base ≤ g ∧ w.heap[g]? = some (.cells cs 39 (0, 0)) ∧ l.length * 4 ≤ cs.size ∧ ∀ (k : Nat) (u : Value), (clCells l)[k]? = some u → cs[k]? = some u
theorem own_owk {w : World} {base cap : Nat} {ra : Option Addr} {l : List Cl} (h : w.ownsRow base 39 4 (.slice ra l.length cap) l.length (clCells l)) : OwK w base ra l := by
  by_cases h0 : l.length = 0
  · exact .inl h0
  · rcases h.2 with ⟨h', h''⟩ | ⟨g, cap', cur, hv, hb, hh, hn, hm, hs, ht⟩
    · exact .inl h''
    · cases hv
      obtain ⟨cs, r1, r2, r3, r4, r5, r6, r7⟩ := own_out h
      exact .inr ⟨g, cs, rfl, hb, r1, by rw [r2]; exact Nat.mul_le_mul_right _ r3, r7⟩
theorem OwK.at {w : World} {base j : Nat} {ra : Option Addr} {l : List Cl} {x : Cl} (h : OwK w base ra l) (hx : l[j]? = some x) : ∃ g, ra = some ⟨g, 0, none⟩ ∧ base ≤ g ∧ g < w.heap.size ∧ (w.cell? ⟨g, j * 4, none⟩ = some (.int .u8 x.k) ∧ w.cell? ⟨g, j * 4 + 1, none⟩ = some (.int .u8 x.c) ∧ w.cell? ⟨g, j * 4 + 1 + 1, none⟩ = some (.int .u64 x.a) ∧ w.cell? ⟨g, j * 4 + 1 + 1 + 1, none⟩ = some (.int .u64 x.b)) ∧ ∀ q, w.frozen? ⟨g, q, none⟩ = false := by
  have hj : j < l.length := (List.getElem?_eq_some_iff.1 hx).1
  rcases h with h | ⟨g, cs, h1, h2, h3, h4, h5⟩
  · omega
  · obtain ⟨a0, a1, a2, a3⟩ := clCells_at l j x hx
    exact ⟨g, h1, h2, heap_lt h3, ⟨heap_cell h3 (h5 _ _ a0), heap_cell h3 (h5 _ _ a1), heap_cell h3 (h5 _ _ a2), heap_cell h3 (h5 _ _ a3)⟩, fun q => by simp [World.frozen?, h3]⟩
theorem OwK.set {w : World} {base j g : Nat} {l : List Cl} {x : Cl} (h : OwK w base (some ⟨g, 0, none⟩) l) (hx : l[j]? = some x) (t : Int) : OwK (w.setCell ⟨g, j * 4 + 1, none⟩ (.int .u8 t)) base (some ⟨g, 0, none⟩) (l.set j ⟨x.k, t, x.a, x.b⟩) := by
  have hj : j < l.length := (List.getElem?_eq_some_iff.1 hx).1
  rcases h with h | ⟨g', cs, h1, h2, h3, h4, h5⟩
  · omega
  · cases h1
    refine .inr ⟨g, _, rfl, h2, set_atC h3 _, by simpa using h4, fun k u hu => ?_⟩
    obtain ⟨i, z, hz, hq⟩ := clCells_get _ k u hu
    by_cases e : j = i
    · subst e
      rw [List.getElem?_set_self hj] at hz
      cases hz
      obtain ⟨a0, a1, a2, a3⟩ := clCells_at l j x hx
      rcases hq with ⟨rfl, rfl⟩ | ⟨rfl, rfl⟩ | ⟨rfl, rfl⟩ | ⟨rfl, rfl⟩
      · rw [Array.getElem?_setIfInBounds_ne (by omega)]; exact h5 _ _ a0
      · rw [Array.getElem?_setIfInBounds_self_of_lt (by omega)]
      · rw [Array.getElem?_setIfInBounds_ne (by omega)]; exact h5 _ _ a2
      · rw [Array.getElem?_setIfInBounds_ne (by omega)]; exact h5 _ _ a3
    · rw [List.getElem?_set_ne e] at hz
      obtain ⟨a0, a1, a2, a3⟩ := clCells_at l i z hz
      rcases hq with ⟨rfl, rfl⟩ | ⟨rfl, rfl⟩ | ⟨rfl, rfl⟩ | ⟨rfl, rfl⟩
      · rw [Array.getElem?_setIfInBounds_ne (by omega)]; exact h5 _ _ a0
      · rw [Array.getElem?_setIfInBounds_ne (by omega)]; exact h5 _ _ a1
      · rw [Array.getElem?_setIfInBounds_ne (by omega)]; exact h5 _ _ a2
      · rw [Array.getElem?_setIfInBounds_ne (by omega)]; exact h5 _ _ a3
theorem OwK.hr {w : World} {base : Nat} {ra : Option Addr} {l : List Cl} (h : OwK w base ra l) (hok : ∀ x ∈ l, OkK x) : HR w ra l := by
  by_cases h0 : l.length = 0
  · exact ⟨0, 0, .inl h0, fun j x hx => by have := (List.getElem?_eq_some_iff.1 hx).1; omega⟩
  · obtain ⟨x0, hx0⟩ : ∃ x, l[0]? = some x := ⟨_, List.getElem?_eq_getElem (by omega)⟩
    obtain ⟨g, r1, _⟩ := h.at hx0
    refine ⟨g, 0, .inr r1, fun j x hx => ?_⟩
    obtain ⟨g', r1', _, r2, r3, _⟩ := h.at hx
    rw [r1] at r1'
    cases r1'
    rw [Nat.zero_add]
    exact ⟨r2, r3, hok x (List.mem_of_getElem? hx)⟩
/-- The first ones are turned. -/
def pm (f : Cl → Cl) (l : List Cl) (j : Nat) : List Cl := (l.take j).map f ++ l.drop j
theorem pm_zero (f : Cl → Cl) (l : List Cl) : pm f l 0 = l := by simp [pm]
theorem pm_all (f : Cl → Cl) (l : List Cl) : pm f l l.length = l.map f := by simp [pm]
theorem pm_len (f : Cl → Cl) (l : List Cl) (j : Nat) : (pm f l j).length = l.length := by
  simp [pm]
  omega
theorem pm_at {f : Cl → Cl} {l : List Cl} {i j : Nat} (h : j ≤ i) : (pm f l j)[i]? = l[i]? := by
  unfold pm
  by_cases hl : j ≤ l.length
  · rw [List.getElem?_append_right (by simp; omega)]
    simp
    congr 1
    omega
  · rw [List.getElem?_eq_none (by simp; omega), List.getElem?_eq_none (by omega)]
theorem pm_set {f : Cl → Cl} {l : List Cl} {j : Nat} {x : Cl} (hx : l[j]? = some x) : (pm f l j).set j (f x) = pm f l (j + 1) := by
  have hj : j < l.length := (List.getElem?_eq_some_iff.1 hx).1
  unfold pm
  rw [List.set_append_right _ _ (by simp; omega), List.take_add_one, hx, List.map_append]
  have e : l.drop j = x :: l.drop (j + 1) := by
    rw [List.drop_eq_getElem_cons hj]
    congr 1
    exact (List.getElem?_eq_some_iff.1 hx).2
  rw [e]
  simp
  have e2 : min j l.length = j := by omega
  rw [e2]
  simp
theorem pm_mem {f : Cl → Cl} {l : List Cl} {j : Nat} {P : Cl → Prop} (h : ∀ x ∈ l, P x ∧ P (f x)) : ∀ x ∈ pm f l j, P x := fun x hx => by
  unfold pm at hx
  rcases List.mem_append.1 hx with h1 | h1
  · obtain ⟨y, hy, rfl⟩ := List.mem_map.1 h1
    exact (h y (List.mem_of_mem_take hy)).2
  · exact (h x (List.mem_of_mem_drop h1)).1
/-- Grey ones get another colour. -/
def gb (t : Int) (x : Cl) : Cl := if x.c = 1 then ⟨x.k, t, x.a, x.b⟩ else x
theorem gb_ok {t : Int} {x : Cl} (h : OkK x) (ht : 0 ≤ t ∧ t ≤ 255) : OkK (gb t x) := by
  unfold gb
  split
  · exact ⟨h.k, ht, h.a, h.b⟩
  · exact h
theorem gb_same {t : Int} {x : Cl} (h : x.c ≠ 1) : gb t x = x := by unfold gb; rw [if_neg h]
theorem gb_grey {t : Int} {x : Cl} (h : x.c = 1) : gb t x = ⟨x.k, t, x.a, x.b⟩ := by unfold gb; rw [if_pos h]
theorem pm_same {f : Cl → Cl} {l : List Cl} {j : Nat} {x : Cl} (hx : l[j]? = some x) (h : f x = x) : pm f l (j + 1) = pm f l j := by
  rw [← pm_set hx, h]
  exact set_same (by rw [pm_at (Nat.le_refl _)]; exact hx)
end Go.Proofs.Ytjbfpklbgefacaa
