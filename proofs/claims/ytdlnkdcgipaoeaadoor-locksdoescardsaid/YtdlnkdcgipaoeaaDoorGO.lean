/- The steps that come in.; What LocksDoes is handed: two numbers of locks, one of globals, and steps. -/
import Derived.Test.YtdlnkdcgipaoeaaDoorGL
import Derived.Test.YtdlnkdcgipaoeaaDoorHLaw
import Derived.ChangeArms
import Derived.SizedLaws
/- The steps that come in. -/
namespace Go.Proofs.YtdlnkdcgipaoeaaDoor
open Go.ChangeShapes Go.WideShapes Go.ChangeAt Go.RowKit

theorem cells?_cell {W : World} {b off n i : Nat} {cs : List Value} (h : W.cells? 0 ⟨b, off, none⟩ n = some cs) (hi : i < n) : W.cell? ⟨b, off + i, none⟩ = cs[i]? := by
  unfold World.cells? at h
  rw [if_pos (Nat.zero_le _)] at h
  obtain ⟨v, hv, hc⟩ := Lib.mapM_at h i i (by simp [hi])
  rw [ad_add] at hc
  rw [hv, hc]
variable {H : Type} {enc : TypeId × Value → H} {W : World}
/-- All weights lie within the reach. -/
def Lt (t : TypeId) (d : DataW H) : Prop := ∀ n ∈ d.weights Tryd.prog t, n ≤ reachBytes
theorem wAll_mem {e : TypeId} : ∀ {l : List (DataW H)} {d : DataW H}, d ∈ l → ∀ n ∈ d.weights Tryd.prog e, n ∈ DataW.weightsAll Tryd.prog e l
  | x :: l, d, hd, n, hn => by
    simp only [DataW.weightsAll, List.mem_append]
    rcases List.mem_cons.1 hd with rfl | h
    · exact .inl hn
    · exact .inr (wAll_mem h n hn)
theorem elems_of {α : Type} {T e sz : Nat} (hT : Tryd.prog.underlying T = some (.slice e)) (hc : Tryd.prog.cellsOf e = sz) (hz : 0 < sz) (P : Nat → Nat → α → Prop) {sp : Nat → Bool}
    (hel : ∀ (m : Nat) (cs : List Value) (y : DataW H × List MemPlace) (b off : Nat), W.cells? 0 ⟨b, off, none⟩ sz = some cs → DataW.trod enc Tryd.prog W 0 sp true m e cs = some y → Lt e y.1 → ∃ a : α, P b off a)
    {fuel : Nat} {v : Value} {x : DataW H × List MemPlace} (h : DataW.trod enc Tryd.prog W 0 sp true fuel T [v] = some x) (hL : Lt T x.1) :
    ∃ (ra : Option Addr) (l : List α) (cap : Nat), v = .slice ra l.length cap ∧ l.length ≤ cap ∧ cap ≤ maxLen ∧ l.length * Tryd.prog.bytesOf e ≤ reachBytes ∧ ∃ b o, (l.length = 0 ∨ ra = some ⟨b, o, none⟩) ∧ ∀ (j : Nat) (a : α), l[j]? = some a → P b (o + j * sz) a := by
  rcases DataW.trod_slice hT h with ⟨hv, _⟩ | ⟨a, len, cap, elems, rest, n, hn, hv, hx, _, hl, hm, hlen, hell, _⟩
  · cases hv
    exact ⟨none, [], 0, rfl, Nat.le_refl _, Nat.zero_le _, by simp, 0, 0, .inl rfl, fun j a h => (by simp at h)⟩
  · cases hv
    rw [hc] at hell
    have hw : len * Tryd.prog.bytesOf e ≤ reachBytes := by
      have := hL ((elems.map (·.1)).length * Tryd.prog.bytesOf e + (rest.map (·.1)).length * Tryd.prog.bytesOf e) (by rw [hx]; simp only [DataW.weights, hT, List.mem_cons]; left; rw [Nat.add_mul])
      simp only [List.length_map] at this
      rw [hlen] at this; omega
    by_cases h0 : len = 0
    · subst h0
      exact ⟨_, [], cap, rfl, Nat.zero_le _, hm, by simp, 0, 0, .inl rfl, fun j a h => (by simp at h)⟩
    · have e0 := hell 0 (by omega)
      obtain ⟨y0, hy0⟩ : ∃ y, elems[0]? = some y := ⟨_, List.getElem?_eq_getElem (by omega)⟩
      rw [hy0, Option.bind_eq_some_iff] at e0
      obtain ⟨cs0, hcs0, _⟩ := e0
      obtain ⟨b, off, spot⟩ := a
      have hspot : spot = none := by
        unfold World.cells? at hcs0
        rw [if_pos (Nat.zero_le _)] at hcs0
        obtain ⟨u, _, hu⟩ := Lib.mapM_at hcs0 0 0 (by simp [hz])
        simpa [Addr.add] using World.cell?_spot hu
      subst hspot
      have hone : ∀ i, i < len → ∃ a : α, P b (off + i * sz) a := fun i hi => by
        have h1 := hell i hi
        have h2 : elems[i]? = some (elems[i]'(by omega)) := List.getElem?_eq_getElem _
        rw [h2, Option.bind_eq_some_iff] at h1
        obtain ⟨cs, hcs, hy⟩ := h1
        rw [ad_add] at hcs
        refine hel n cs _ b (off + i * sz) hcs hy (fun k hk => hL k ?_)
        rw [hx]
        simp only [DataW.weights, hT, List.mem_cons, List.mem_append]
        exact .inr (.inl (wAll_mem (List.mem_map.2 ⟨elems[i]'(by omega), List.getElem_mem _, rfl⟩) k hk))
      have hrow : ∀ (j i : Nat), i + j = len → ∃ l : List α, l.length = j ∧ ∀ (k : Nat) (a : α), l[k]? = some a → P b (off + (i + k) * sz) a := by
        intro j
        induction j with
        | zero => intro i _; exact ⟨[], rfl, fun k a h => (by simp at h)⟩
        | succ j ih =>
          intro i hij
          obtain ⟨l, h1, h2⟩ := ih (i + 1) (by omega)
          obtain ⟨a, ha⟩ := hone i (by omega)
          refine ⟨a :: l, by simp [h1], fun k x hk => ?_⟩
          cases k with
          | zero => simp at hk; subst hk; simpa using ha
          | succ k => have := h2 k x (by simpa using hk); rwa [show i + 1 + k = i + (k + 1) by omega] at this
      obtain ⟨l, h1, h2⟩ := hrow len 0 (by omega)
      subst h1
      exact ⟨_, l, cap, rfl, hl, hm, hw, b, off, .inr rfl, fun j a h => by have := h2 j a h; rwa [Nat.zero_add] at this⟩
theorem lt_of_cell {b o : Nat} {v : Value} (h : W.cell? ⟨b, o, none⟩ = some v) : b < W.heap.size := by
  rcases Nat.lt_or_ge b W.heap.size with h' | h'
  · exact h'
  · simp [World.cell?, Array.getElem?_eq_none h'] at h
/-- A list of words. -/
theorem take_drop_one {cs : List Value} {i : Nat} {v : Value} (h : (cs.drop i).take 1 = [v]) : cs[i]? = some v := by
  have := congrArg (·[0]?) h
  simpa [List.getElem?_take, List.getElem?_drop] using this
theorem wf64 {n : Int} (h : (Lit.int .i64 n).wf = true) : -9223372036854775808 ≤ n ∧ n ≤ 9223372036854775807 := by
  simp [Lit.wf, IntKind.min, IntKind.max, IntKind.signed, IntKind.bits] at h
  omega
theorem lt_sized {ts : List TypeId} {ds : List (DataW H)} (h : (DataW.weightsEach Tryd.prog ts ds).all (· ≤ reachBytes) = true) {j : Nat} {t : TypeId} {d : DataW H} (ht : ts[j]? = some t) (hd : ds[j]? = some d) : Lt t d :=
  fun n hn => of_decide_eq_true (List.all_eq_true.1 h n (DataW.weights_mem_each ht hd n hn))
theorem cellsSt : Tryd.prog.cellsOf 58 = 5 := by kernel_rfl
theorem bytesSt : Tryd.prog.bytesOf 58 = 40 := by kernel_rfl
theorem cellsI3 : Tryd.prog.cellsOf 3 = 1 := by kernel_rfl
theorem cellsWd : Tryd.prog.cellsOf 56 = 1 := by kernel_rfl
theorem cellsEn : Tryd.prog.cellsOf 49 = 1 := by kernel_rfl
set_option maxRecDepth 100000 in
/-- A list of steps. -/
theorem steps_in {sp : Nat → Bool} {base : Nat} {v : Value} {d : DataW H} {p : List MemPlace} (hv : Value.okWide Tryd.prog W .any base 23 v) (h : DataW.Trod enc Tryd.prog W 0 sp true 23 v d p) (hL : Lt 23 d) :
    ∃ (ra : Option Addr) (l : List Sp) (cap : Nat), v = .slice ra l.length cap ∧ SR W ra l ∧ l.length ≤ 281474976710656 := by
  obtain ⟨a0, l0, c0, rfl⟩ := okWide_slice Tryd.underlying23 hv
  obtain ⟨fuel, hf⟩ := h
  have hf' : DataW.trod enc Tryd.prog W 0 sp true fuel 23 [.slice a0 l0 c0] = some (d, p) := hf
  obtain ⟨ra, l, cap, hv, _, _, hw, b, o, ha, hp⟩ := elems_of (α := Sp) Tryd.underlying23 cellsSt (by decide) (fun b o x => W.cell? ⟨b, o, none⟩ = some (.int .i64 x.k) ∧ W.cell? ⟨b, o + 1, none⟩ = some (.int .i64 x.t) ∧ W.cell? ⟨b, o + 2, none⟩ = some (.int .i64 x.n) ∧ W.cell? ⟨b, o + 3, none⟩ = some (.int .u64 x.w) ∧ W.cell? ⟨b, o + 4, none⟩ = some (.int .i64 x.e) ∧ R64 x.k ∧ R64 x.t ∧ R64 x.n) (fun m cs y b off hcs hy _ => by
    obtain ⟨xs, n, _, _, hl, hlen, hf⟩ := DataW.trod_struct Tryd.underlying58 hy
    have hl4 : xs.length = 5 := hlen
    obtain ⟨x0, x1, x2, x3, x4, rfl⟩ : ∃ x0 x1 x2 x3 x4, xs = [x0, x1, x2, x3, x4] := by
      rcases xs with _ | ⟨x0, _ | ⟨x1, _ | ⟨x2, _ | ⟨x3, _ | ⟨x4, _ | ⟨x5, r⟩⟩⟩⟩⟩⟩
      · cases hl4
      · cases hl4
      · cases hl4
      · cases hl4
      · cases hl4
      · exact ⟨x0, x1, x2, x3, x4, rfl⟩
      · simp at hl4
    have h0 : DataW.trod enc Tryd.prog W 0 sp true n 3 ((cs.drop 0).take (Tryd.prog.cellsOf 3)) = some x0 := hf 0 _ rfl
    have h1 : DataW.trod enc Tryd.prog W 0 sp true n 3 ((cs.drop 1).take (Tryd.prog.cellsOf 3)) = some x1 := hf 1 _ rfl
    have h2 : DataW.trod enc Tryd.prog W 0 sp true n 3 ((cs.drop 2).take (Tryd.prog.cellsOf 3)) = some x2 := hf 2 _ rfl
    have h3 : DataW.trod enc Tryd.prog W 0 sp true n 56 ((cs.drop 3).take (Tryd.prog.cellsOf 56)) = some x3 := hf 3 _ rfl
    have h4 : DataW.trod enc Tryd.prog W 0 sp true n 49 ((cs.drop 4).take (Tryd.prog.cellsOf 49)) = some x4 := hf 4 _ rfl
    obtain ⟨p0, hp0, _, w0⟩ := DataW.trod_int Tryd.underlying3 h0
    obtain ⟨p1, hp1, _, w1⟩ := DataW.trod_int Tryd.underlying3 h1
    obtain ⟨p2, hp2, _, w2⟩ := DataW.trod_int Tryd.underlying3 h2
    obtain ⟨p3, hp3, _, _⟩ := DataW.trod_int Tryd.underlying56 h3
    obtain ⟨p4, hp4, _, _⟩ := DataW.trod_int Tryd.underlying49 h4
    rw [cellsI3] at hp0 hp1 hp2
    rw [cellsWd] at hp3
    rw [cellsEn] at hp4
    have c0 := cells?_cell hcs (i := 0) (by omega)
    have c1 := cells?_cell hcs (i := 1) (by omega)
    have c2 := cells?_cell hcs (i := 2) (by omega)
    have c3 := cells?_cell hcs (i := 3) (by omega)
    have c4 := cells?_cell hcs (i := 4) (by omega)
    rw [take_drop_one hp0] at c0
    rw [take_drop_one hp1] at c1
    rw [take_drop_one hp2] at c2
    rw [take_drop_one hp3] at c3
    rw [take_drop_one hp4] at c4
    exact ⟨⟨p0, p1, p2, p3, p4⟩, c0, c1, c2, c3, c4, wf64 w0, wf64 w1, wf64 w2⟩) hf' hL
  rw [bytesSt] at hw
  unfold reachBytes at hw
  refine ⟨ra, l, cap, hv, ⟨b, o, ha, fun j x hx => ?_⟩, by omega⟩
  have h1 := hp j x hx
  exact ⟨lt_of_cell h1.1, h1⟩
end Go.Proofs.YtdlnkdcgipaoeaaDoor

/- What LocksDoes is handed: two numbers of locks, one of globals, and steps. -/
namespace Go.Proofs.YtdlnkdcgipaoeaaDoor
open Go.ChangeShapes Go.WideShapes Go.ChangeAt Go.RowKit

section
variable {H : Type} {enc : TypeId × Value → H} {W : World}
set_option maxRecDepth 100000 in
/-- A list of steps, wherever it lies. -/
theorem steps_tr {sp : Nat → Bool} {fuel : Nat} {v : Value} {d : DataW H × List MemPlace} (h : DataW.trod enc Tryd.prog W 0 sp true fuel 23 [v] = some d) (hL : Lt 23 d.1) :
    ∃ (ra : Option Addr) (l : List Sp) (cap : Nat), v = .slice ra l.length cap ∧ SR W ra l ∧ l.length ≤ 281474976710656 := by
  obtain ⟨ra, l, cap, hv, _, _, hw, b, o, ha, hp⟩ := elems_of (α := Sp) Tryd.underlying23 cellsSt (by decide) (fun b o x => W.cell? ⟨b, o, none⟩ = some (.int .i64 x.k) ∧ W.cell? ⟨b, o + 1, none⟩ = some (.int .i64 x.t) ∧ W.cell? ⟨b, o + 2, none⟩ = some (.int .i64 x.n) ∧ W.cell? ⟨b, o + 3, none⟩ = some (.int .u64 x.w) ∧ W.cell? ⟨b, o + 4, none⟩ = some (.int .i64 x.e) ∧ R64 x.k ∧ R64 x.t ∧ R64 x.n) (fun m cs y b off hcs hy _ => by
    obtain ⟨xs, n, _, _, hl, hlen, hf⟩ := DataW.trod_struct Tryd.underlying58 hy
    have hl4 : xs.length = 5 := hlen
    obtain ⟨x0, x1, x2, x3, x4, rfl⟩ : ∃ x0 x1 x2 x3 x4, xs = [x0, x1, x2, x3, x4] := by
      rcases xs with _ | ⟨x0, _ | ⟨x1, _ | ⟨x2, _ | ⟨x3, _ | ⟨x4, _ | ⟨x5, r⟩⟩⟩⟩⟩⟩
      · cases hl4
      · cases hl4
      · cases hl4
      · cases hl4
      · cases hl4
      · exact ⟨x0, x1, x2, x3, x4, rfl⟩
      · simp at hl4
    have h0 : DataW.trod enc Tryd.prog W 0 sp true n 3 ((cs.drop 0).take (Tryd.prog.cellsOf 3)) = some x0 := hf 0 _ rfl
    have h1 : DataW.trod enc Tryd.prog W 0 sp true n 3 ((cs.drop 1).take (Tryd.prog.cellsOf 3)) = some x1 := hf 1 _ rfl
    have h2 : DataW.trod enc Tryd.prog W 0 sp true n 3 ((cs.drop 2).take (Tryd.prog.cellsOf 3)) = some x2 := hf 2 _ rfl
    have h3 : DataW.trod enc Tryd.prog W 0 sp true n 56 ((cs.drop 3).take (Tryd.prog.cellsOf 56)) = some x3 := hf 3 _ rfl
    have h4 : DataW.trod enc Tryd.prog W 0 sp true n 49 ((cs.drop 4).take (Tryd.prog.cellsOf 49)) = some x4 := hf 4 _ rfl
    obtain ⟨p0, hp0, _, w0⟩ := DataW.trod_int Tryd.underlying3 h0
    obtain ⟨p1, hp1, _, w1⟩ := DataW.trod_int Tryd.underlying3 h1
    obtain ⟨p2, hp2, _, w2⟩ := DataW.trod_int Tryd.underlying3 h2
    obtain ⟨p3, hp3, _, _⟩ := DataW.trod_int Tryd.underlying56 h3
    obtain ⟨p4, hp4, _, _⟩ := DataW.trod_int Tryd.underlying49 h4
    rw [cellsI3] at hp0 hp1 hp2
    rw [cellsWd] at hp3
    rw [cellsEn] at hp4
    have c0 := cells?_cell hcs (i := 0) (by omega)
    have c1 := cells?_cell hcs (i := 1) (by omega)
    have c2 := cells?_cell hcs (i := 2) (by omega)
    have c3 := cells?_cell hcs (i := 3) (by omega)
    have c4 := cells?_cell hcs (i := 4) (by omega)
    rw [take_drop_one hp0] at c0
    rw [take_drop_one hp1] at c1
    rw [take_drop_one hp2] at c2
    rw [take_drop_one hp3] at c3
    rw [take_drop_one hp4] at c4
    exact ⟨⟨p0, p1, p2, p3, p4⟩, c0, c1, c2, c3, c4, wf64 w0, wf64 w1, wf64 w2⟩) h hL
  rw [bytesSt] at hw
  unfold reachBytes at hw
  refine ⟨ra, l, cap, hv, ⟨b, o, ha, fun j x hx => ?_⟩, by omega⟩
  have h1 := hp j x hx
  exact ⟨lt_of_cell h1.1, h1⟩
theorem cellsTwo : Tryd.prog.cellsOf 25 = 4 := by kernel_rfl
theorem cellsSO : Tryd.prog.cellsOf 23 = 1 := by kernel_rfl
theorem two_of {sp : Nat → Bool} {v : Value} {d : DataW H} {p : List MemPlace} (hv : ∃ cs, v = .agg cs ∧ cs.size = Tryd.prog.cellsOf 25) (h : DataW.Trod enc Tryd.prog W 0 sp true 25 v d p) (hL : Lt 25 d) :
    ∃ (a b c : Int) (l : List Sp) (ra : Option Addr) (ca : Nat), v = .agg #[.int .i64 a, .int .i64 b, .int .i64 c, .slice ra l.length ca] ∧ SR W ra l ∧ l.length ≤ 281474976710656 := by
  obtain ⟨cs, rfl, hcs⟩ := hv
  rw [cellsTwo] at hcs
  obtain ⟨v0, v1, v2, v3, rfl⟩ : ∃ v0 v1 v2 v3, cs = #[v0, v1, v2, v3] := by
    rcases cs with ⟨_ | ⟨v0, _ | ⟨v1, _ | ⟨v2, _ | ⟨v3, _ | ⟨v4, r⟩⟩⟩⟩⟩⟩
    · cases hcs
    · cases hcs
    · cases hcs
    · cases hcs
    · exact ⟨v0, v1, v2, v3, rfl⟩
    · simp at hcs
  obtain ⟨fuel, hf⟩ := h
  have hf' : DataW.trod enc Tryd.prog W 0 sp true fuel 25 [v0, v1, v2, v3] = some (d, p) := hf
  obtain ⟨xs, m, _, hx, _, hlen, hel⟩ := DataW.trod_struct Tryd.underlying25 hf'
  have hl4 : xs.length = 4 := hlen
  obtain ⟨x0, x1, x2, x3, rfl⟩ : ∃ x0 x1 x2 x3, xs = [x0, x1, x2, x3] := by
    rcases xs with _ | ⟨x0, _ | ⟨x1, _ | ⟨x2, _ | ⟨x3, _ | ⟨x4, r⟩⟩⟩⟩⟩
    · cases hl4
    · cases hl4
    · cases hl4
    · cases hl4
    · exact ⟨x0, x1, x2, x3, rfl⟩
    · simp at hl4
  have f0 : DataW.trod enc Tryd.prog W 0 sp true m 3 (([v0, v1, v2, v3].drop 0).take (Tryd.prog.cellsOf 3)) = some x0 := hel 0 _ rfl
  have f1 : DataW.trod enc Tryd.prog W 0 sp true m 3 (([v0, v1, v2, v3].drop 1).take (Tryd.prog.cellsOf 3)) = some x1 := hel 1 _ rfl
  have f2 : DataW.trod enc Tryd.prog W 0 sp true m 3 (([v0, v1, v2, v3].drop 2).take (Tryd.prog.cellsOf 3)) = some x2 := hel 2 _ rfl
  have f3 : DataW.trod enc Tryd.prog W 0 sp true m 23 (([v0, v1, v2, v3].drop 3).take (Tryd.prog.cellsOf 23)) = some x3 := hel 3 _ rfl
  rw [cellsI3] at f0 f1 f2
  rw [cellsSO] at f3
  have hd : d = .agg [x0.1, x1.1, x2.1, x3.1] := by cases hx; rfl
  have hw : Lt 23 x3.1 := fun n hn => hL n (by
    rw [hd]
    simp only [DataW.weights, Tryd.underlying25]
    simp only [List.map_cons, List.map_nil, DataW.weightsEach, List.mem_append]
    exact .inr (.inr (.inr (.inl hn))))
  obtain ⟨n0, hn0, _, _⟩ := DataW.trod_int Tryd.underlying3 f0
  obtain ⟨n1, hn1, _, _⟩ := DataW.trod_int Tryd.underlying3 f1
  obtain ⟨n2, hn2, _, _⟩ := DataW.trod_int Tryd.underlying3 f2
  obtain ⟨r1, l1, c1, hv3, w1, hl1⟩ := steps_tr (v := v3) f3 hw
  have e0 : v0 = .int .i64 n0 := by simpa using hn0
  have e1 : v1 = .int .i64 n1 := by simpa using hn1
  have e2 : v2 = .int .i64 n2 := by simpa using hn2
  subst e0 e1 e2 hv3
  exact ⟨n0, n1, n2, l1, r1, c1, rfl, w1, hl1⟩
end
end Go.Proofs.YtdlnkdcgipaoeaaDoor
