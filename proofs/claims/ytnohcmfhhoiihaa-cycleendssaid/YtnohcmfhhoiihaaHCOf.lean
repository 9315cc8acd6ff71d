/- What comes in: where the collector is, what is around it, numbers, truths. -/
import Derived.Test.YtnohcmfhhoiihaaHALaw
import Derived.ChangeArms
import Derived.SizedLaws
namespace Go.Proofs.Ytnohcmfhhoiihaa
open Go.ChangeShapes Go.WideShapes Go.ChangeAt Go.RowKit

theorem cells?_cell {W : World} {b off n i : Nat} {cs : List Value} (h : W.cells? 0 ⟨b, off, none⟩ n = some cs) (hi : i < n) : W.cell? ⟨b, off + i, none⟩ = cs[i]? := by
  unfold World.cells? at h
  rw [if_pos (Nat.zero_le _)] at h
  obtain ⟨v, hv, hc⟩ := Lib.mapM_at h i i (by simp [hi])
  rw [ad_add] at hc
  rw [hv, hc]
variable {H : Type} {enc : TypeId × Value → H} {W : World}
/-- All weights lie within the reach. -/
def Lt (t : TypeId) (d : DataW H) : Prop := ∀ n ∈ d.weights Try.prog t, n ≤ reachBytes
theorem wAll_mem {e : TypeId} : ∀ {l : List (DataW H)} {d : DataW H}, d ∈ l → ∀ n ∈ d.weights Try.prog e, n ∈ DataW.weightsAll Try.prog e l
  | x :: l, d, hd, n, hn => by
    simp only [DataW.weightsAll, List.mem_append]
    rcases List.mem_cons.1 hd with rfl | h
    · exact .inl hn
    · exact .inr (wAll_mem h n hn)
theorem elems_of {α : Type} {T e sz : Nat} (hT : Try.prog.underlying T = some (.slice e)) (hc : Try.prog.cellsOf e = sz) (hz : 0 < sz) (P : Nat → Nat → α → Prop) {sp : Nat → Bool}
    (hel : ∀ (m : Nat) (cs : List Value) (y : DataW H × List MemPlace) (b off : Nat), W.cells? 0 ⟨b, off, none⟩ sz = some cs → DataW.trod enc Try.prog W 0 sp true m e cs = some y → Lt e y.1 → ∃ a : α, P b off a)
    {fuel : Nat} {v : Value} {x : DataW H × List MemPlace} (h : DataW.trod enc Try.prog W 0 sp true fuel T [v] = some x) (hL : Lt T x.1) :
    ∃ (ra : Option Addr) (l : List α) (cap : Nat), v = .slice ra l.length cap ∧ l.length ≤ cap ∧ cap ≤ maxLen ∧ l.length * Try.prog.bytesOf e ≤ reachBytes ∧ ∃ b o, (l.length = 0 ∨ ra = some ⟨b, o, none⟩) ∧ ∀ (j : Nat) (a : α), l[j]? = some a → P b (o + j * sz) a := by
  rcases DataW.trod_slice hT h with ⟨hv, _⟩ | ⟨a, len, cap, elems, rest, n, hn, hv, hx, _, hl, hm, hlen, hell, _⟩
  · cases hv
    exact ⟨none, [], 0, rfl, Nat.le_refl _, Nat.zero_le _, by simp, 0, 0, .inl rfl, fun j a h => (by simp at h)⟩
  · cases hv
    rw [hc] at hell
    have hw : len * Try.prog.bytesOf e ≤ reachBytes := by
      have := hL ((elems.map (·.1)).length * Try.prog.bytesOf e + (rest.map (·.1)).length * Try.prog.bytesOf e) (by rw [hx]; simp only [DataW.weights, hT, List.mem_cons]; left; rw [Nat.add_mul])
      simp only [List.length_map] at this
      rw [hlen] at this; omega
    by_cases h0 : len = 0
    · subst h0
      exact ⟨_, [], cap, rfl, Nat.zero_le _, hm, by simp, 0, 0, .inl rfl, fun j a h => (by simp at h)⟩
    · have e0 := hell 0 (by omega)
      obtain ⟨y0, hy0⟩ : ∃ y, elems[0]? = some y := ⟨_, List.getElem?_eq_getElem (by omega)⟩
      rw [hy0, Option.bind_eq_some_iff] at e0
      obtain ⟨cs0, hcs0, _⟩ := e0
      obtain ⟨b, off, spot⟩ := a
      have hspot : spot = none := by
        unfold World.cells? at hcs0
        rw [if_pos (Nat.zero_le _)] at hcs0
        obtain ⟨u, _, hu⟩ := Lib.mapM_at hcs0 0 0 (by simp [hz])
        simpa [Addr.add] using World.cell?_spot hu
      subst hspot
      have hone : ∀ i, i < len → ∃ a : α, P b (off + i * sz) a := fun i hi => by
        have h1 := hell i hi
        have h2 : elems[i]? = some (elems[i]'(by omega)) := List.getElem?_eq_getElem _
        rw [h2, Option.bind_eq_some_iff] at h1
        obtain ⟨cs, hcs, hy⟩ := h1
        rw [ad_add] at hcs
        refine hel n cs _ b (off + i * sz) hcs hy (fun k hk => hL k ?_)
        rw [hx]
        simp only [DataW.weights, hT, List.mem_cons, List.mem_append]
        exact .inr (.inl (wAll_mem (List.mem_map.2 ⟨elems[i]'(by omega), List.getElem_mem _, rfl⟩) k hk))
      have hrow : ∀ (j i : Nat), i + j = len → ∃ l : List α, l.length = j ∧ ∀ (k : Nat) (a : α), l[k]? = some a → P b (off + (i + k) * sz) a := by
        intro j
        induction j with
        | zero => intro i _; exact ⟨[], rfl, fun k a h => (by simp at h)⟩
        | succ j ih =>
          intro i hij
          obtain ⟨l, h1, h2⟩ := ih (i + 1) (by omega)
          obtain ⟨a, ha⟩ := hone i (by omega)
          refine ⟨a :: l, by simp [h1], fun k x hk => ?_⟩
          cases k with
          | zero => simp at hk; subst hk; simpa using ha
          | succ k => have := h2 k x (by simpa using hk); rwa [show i + 1 + k = i + (k + 1) by omega] at this
      obtain ⟨l, h1, h2⟩ := hrow len 0 (by omega)
      subst h1
      exact ⟨_, l, cap, rfl, hl, hm, hw, b, off, .inr rfl, fun j a h => by have := h2 j a h; rwa [Nat.zero_add] at this⟩
theorem lt_of_cell {b o : Nat} {v : Value} (h : W.cell? ⟨b, o, none⟩ = some v) : b < W.heap.size := by
  rcases Nat.lt_or_ge b W.heap.size with h' | h'
  · exact h'
  · simp [World.cell?, Array.getElem?_eq_none h'] at h
theorem take_drop_one {cs : List Value} {i : Nat} {v : Value} (h : (cs.drop i).take 1 = [v]) : cs[i]? = some v := by
  have := congrArg (·[0]?) h
  simpa [List.getElem?_take, List.getElem?_drop] using this
theorem wf64 {n : Int} (h : (Lit.int .i64 n).wf = true) : -9223372036854775808 ≤ n ∧ n ≤ 9223372036854775807 := by
  simp [Lit.wf, IntKind.min, IntKind.max, IntKind.signed, IntKind.bits] at h
  omega
theorem lt_sized {ts : List TypeId} {ds : List (DataW H)} (h : (DataW.weightsEach Try.prog ts ds).all (· ≤ reachBytes) = true) {j : Nat} {t : TypeId} {d : DataW H} (ht : ts[j]? = some t) (hd : ds[j]? = some d) : Lt t d :=
  fun n hn => of_decide_eq_true (List.all_eq_true.1 h n (DataW.weights_mem_each ht hd n hn))
theorem cellsI : Try.prog.cellsOf 3 = 1 := by kernel_rfl
theorem bytesI : Try.prog.bytesOf 3 = 8 := by kernel_rfl
set_option maxRecDepth 100000 in
/-- A number. -/
theorem int_in {sp : Nat → Bool} {base : Nat} {v : Value} {d : DataW H} {p : List MemPlace} (hv : Value.okWide Try.prog W .any base 3 v) (h : DataW.Trod enc Try.prog W 0 sp true 3 v d p) : ∃ n : Int, v = .int .i64 n ∧ -9223372036854775808 ≤ n ∧ n ≤ 9223372036854775807 := by
  obtain ⟨n, rfl⟩ := okWide_int Try.underlying3 hv
  obtain ⟨fuel, hf⟩ := h
  have hf' : DataW.trod enc Try.prog W 0 sp true fuel 3 [.int .i64 n] = some (d, p) := hf
  obtain ⟨m, hm, _, hwf⟩ := DataW.trod_int Try.underlying3 hf'
  have : n = m := by simpa using hm
  subst this
  exact ⟨n, rfl, wf64 hwf⟩
theorem cellsB : Try.prog.cellsOf 4 = 1 := by kernel_rfl
theorem cellsPh : Try.prog.cellsOf 25 = 1 := by kernel_rfl
theorem wf8 {n : Int} (h : (Lit.int .u8 n).wf = true) : 0 ≤ n ∧ n ≤ 255 := by
  simp [Lit.wf, IntKind.min, IntKind.max, IntKind.signed, IntKind.bits] at h
  omega
set_option maxRecDepth 100000 in
theorem cycle_of {sp : Nat → Bool} {v : Value} {d : DataW H} {p : List MemPlace} (hv : ∃ cs, v = .agg cs ∧ cs.size = Try.prog.cellsOf 27) (h : DataW.Trod enc Try.prog W 0 sp true 27 v d p) :
    ∃ (ph gl sw fr bg : Int) (ak : Bool), v = .agg #[.int .u8 ph, .int .i64 gl, .int .i64 sw, .int .i64 fr, .int .i64 bg, .bool ak] ∧ (0 ≤ ph ∧ ph ≤ 255) ∧ (-9223372036854775808 ≤ gl ∧ gl ≤ 9223372036854775807) ∧ (-9223372036854775808 ≤ sw ∧ sw ≤ 9223372036854775807) ∧ (-9223372036854775808 ≤ fr ∧ fr ≤ 9223372036854775807) ∧ (-9223372036854775808 ≤ bg ∧ bg ≤ 9223372036854775807) := by
  obtain ⟨cs, rfl, hcs⟩ := hv
  rw [show Try.prog.cellsOf 27 = 6 from by kernel_rfl] at hcs
  obtain ⟨v0, v1, v2, v3, v4, v5, rfl⟩ : ∃ v0 v1 v2 v3 v4 v5, cs = #[v0, v1, v2, v3, v4, v5] := by
    rcases cs with ⟨_ | ⟨v0, _ | ⟨v1, _ | ⟨v2, _ | ⟨v3, _ | ⟨v4, _ | ⟨v5, _ | ⟨v6, r⟩⟩⟩⟩⟩⟩⟩⟩
    · cases hcs
    · cases hcs
    · cases hcs
    · cases hcs
    · cases hcs
    · cases hcs
    · exact ⟨v0, v1, v2, v3, v4, v5, rfl⟩
    · simp at hcs
  obtain ⟨fuel, hf⟩ := h
  have hf' : DataW.trod enc Try.prog W 0 sp true fuel 27 [v0, v1, v2, v3, v4, v5] = some (d, p) := hf
  obtain ⟨xs, m, _, hx, _, hlen, hel⟩ := DataW.trod_struct Try.underlying27 hf'
  have hl4 : xs.length = 6 := hlen
  obtain ⟨x0, x1, x2, x3, x4, x5, rfl⟩ : ∃ x0 x1 x2 x3 x4 x5, xs = [x0, x1, x2, x3, x4, x5] := by
    rcases xs with _ | ⟨x0, _ | ⟨x1, _ | ⟨x2, _ | ⟨x3, _ | ⟨x4, _ | ⟨x5, _ | ⟨x6, r⟩⟩⟩⟩⟩⟩⟩
    · cases hl4
    · cases hl4
    · cases hl4
    · cases hl4
    · cases hl4
    · cases hl4
    · exact ⟨x0, x1, x2, x3, x4, x5, rfl⟩
    · simp at hl4
  have f0 : DataW.trod enc Try.prog W 0 sp true m 25 (([v0, v1, v2, v3, v4, v5].drop 0).take (Try.prog.cellsOf 25)) = some x0 := hel 0 _ rfl
  rw [cellsPh] at f0
  have f1 : DataW.trod enc Try.prog W 0 sp true m 3 (([v0, v1, v2, v3, v4, v5].drop 1).take (Try.prog.cellsOf 3)) = some x1 := hel 1 _ rfl
  rw [cellsI] at f1
  have f2 : DataW.trod enc Try.prog W 0 sp true m 3 (([v0, v1, v2, v3, v4, v5].drop 2).take (Try.prog.cellsOf 3)) = some x2 := hel 2 _ rfl
  rw [cellsI] at f2
  have f3 : DataW.trod enc Try.prog W 0 sp true m 3 (([v0, v1, v2, v3, v4, v5].drop 3).take (Try.prog.cellsOf 3)) = some x3 := hel 3 _ rfl
  rw [cellsI] at f3
  have f4 : DataW.trod enc Try.prog W 0 sp true m 3 (([v0, v1, v2, v3, v4, v5].drop 4).take (Try.prog.cellsOf 3)) = some x4 := hel 4 _ rfl
  rw [cellsI] at f4
  have f5 : DataW.trod enc Try.prog W 0 sp true m 4 (([v0, v1, v2, v3, v4, v5].drop 5).take (Try.prog.cellsOf 4)) = some x5 := hel 5 _ rfl
  rw [cellsB] at f5
  obtain ⟨n0, hn0, _, hf0⟩ := DataW.trod_int Try.underlying25 f0
  have e0 : v0 = .int .u8 n0 := by simpa using hn0
  obtain ⟨n1, hn1, _, hf1⟩ := DataW.trod_int Try.underlying3 f1
  have e1 : v1 = .int .i64 n1 := by simpa using hn1
  obtain ⟨n2, hn2, _, hf2⟩ := DataW.trod_int Try.underlying3 f2
  have e2 : v2 = .int .i64 n2 := by simpa using hn2
  obtain ⟨n3, hn3, _, hf3⟩ := DataW.trod_int Try.underlying3 f3
  have e3 : v3 = .int .i64 n3 := by simpa using hn3
  obtain ⟨n4, hn4, _, hf4⟩ := DataW.trod_int Try.underlying3 f4
  have e4 : v4 = .int .i64 n4 := by simpa using hn4
  obtain ⟨n5, hn5, _⟩ := DataW.trod_bool Try.underlying4 f5
  have e5 : v5 = .bool n5 := by simpa using hn5
  subst e0 e1 e2 e3 e4 e5
  exact ⟨n0, n1, n2, n3, n4, n5, rfl, wf8 hf0, wf64 hf1, wf64 hf2, wf64 hf3, wf64 hf4⟩
set_option maxRecDepth 100000 in
theorem around_of {sp : Nat → Bool} {v : Value} {d : DataW H} {p : List MemPlace} (hv : ∃ cs, v = .agg cs ∧ cs.size = Try.prog.cellsOf 29) (h : DataW.Trod enc Try.prog W 0 sp true 29 v d p) :
    ∃ (ce ag th : Int) (st tl gr : Bool), v = .agg #[.int .i64 ce, .int .i64 ag, .int .i64 th, .bool st, .bool tl, .bool gr] ∧ (-9223372036854775808 ≤ ce ∧ ce ≤ 9223372036854775807) ∧ (-9223372036854775808 ≤ ag ∧ ag ≤ 9223372036854775807) ∧ (-9223372036854775808 ≤ th ∧ th ≤ 9223372036854775807) := by
  obtain ⟨cs, rfl, hcs⟩ := hv
  rw [show Try.prog.cellsOf 29 = 6 from by kernel_rfl] at hcs
  obtain ⟨v0, v1, v2, v3, v4, v5, rfl⟩ : ∃ v0 v1 v2 v3 v4 v5, cs = #[v0, v1, v2, v3, v4, v5] := by
    rcases cs with ⟨_ | ⟨v0, _ | ⟨v1, _ | ⟨v2, _ | ⟨v3, _ | ⟨v4, _ | ⟨v5, _ | ⟨v6, r⟩⟩⟩⟩⟩⟩⟩⟩
    · cases hcs
    · cases hcs
    · cases hcs
    · cases hcs
    · cases hcs
    · cases hcs
    · exact ⟨v0, v1, v2, v3, v4, v5, rfl⟩
    · simp at hcs
  obtain ⟨fuel, hf⟩ := h
  have hf' : DataW.trod enc Try.prog W 0 sp true fuel 29 [v0, v1, v2, v3, v4, v5] = some (d, p) := hf
  obtain ⟨xs, m, _, hx, _, hlen, hel⟩ := DataW.trod_struct Try.underlying29 hf'
  have hl4 : xs.length = 6 := hlen
  obtain ⟨x0, x1, x2, x3, x4, x5, rfl⟩ : ∃ x0 x1 x2 x3 x4 x5, xs = [x0, x1, x2, x3, x4, x5] := by
    rcases xs with _ | ⟨x0, _ | ⟨x1, _ | ⟨x2, _ | ⟨x3, _ | ⟨x4, _ | ⟨x5, _ | ⟨x6, r⟩⟩⟩⟩⟩⟩⟩
    · cases hl4
    · cases hl4
    · cases hl4
    · cases hl4
    · cases hl4
    · cases hl4
    · exact ⟨x0, x1, x2, x3, x4, x5, rfl⟩
    · simp at hl4
  have f0 : DataW.trod enc Try.prog W 0 sp true m 3 (([v0, v1, v2, v3, v4, v5].drop 0).take (Try.prog.cellsOf 3)) = some x0 := hel 0 _ rfl
  rw [cellsI] at f0
  have f1 : DataW.trod enc Try.prog W 0 sp true m 3 (([v0, v1, v2, v3, v4, v5].drop 1).take (Try.prog.cellsOf 3)) = some x1 := hel 1 _ rfl
  rw [cellsI] at f1
  have f2 : DataW.trod enc Try.prog W 0 sp true m 3 (([v0, v1, v2, v3, v4, v5].drop 2).take (Try.prog.cellsOf 3)) = some x2 := hel 2 _ rfl
  rw [cellsI] at f2
  have f3 : DataW.trod enc Try.prog W 0 sp true m 4 (([v0, v1, v2, v3, v4, v5].drop 3).take (Try.prog.cellsOf 4)) = some x3 := hel 3 _ rfl
  rw [cellsB] at f3
  have f4 : DataW.trod enc Try.prog W 0 sp true m 4 (([v0, v1, v2, v3, v4, v5].drop 4).take (Try.prog.cellsOf 4)) = some x4 := hel 4 _ rfl
  rw [cellsB] at f4
  have f5 : DataW.trod enc Try.prog W 0 sp true m 4 (([v0, v1, v2, v3, v4, v5].drop 5).take (Try.prog.cellsOf 4)) = some x5 := hel 5 _ rfl
  rw [cellsB] at f5
  obtain ⟨n0, hn0, _, hf0⟩ := DataW.trod_int Try.underlying3 f0
  have e0 : v0 = .int .i64 n0 := by simpa using hn0
  obtain ⟨n1, hn1, _, hf1⟩ := DataW.trod_int Try.underlying3 f1
  have e1 : v1 = .int .i64 n1 := by simpa using hn1
  obtain ⟨n2, hn2, _, hf2⟩ := DataW.trod_int Try.underlying3 f2
  have e2 : v2 = .int .i64 n2 := by simpa using hn2
  obtain ⟨n3, hn3, _⟩ := DataW.trod_bool Try.underlying4 f3
  have e3 : v3 = .bool n3 := by simpa using hn3
  obtain ⟨n4, hn4, _⟩ := DataW.trod_bool Try.underlying4 f4
  have e4 : v4 = .bool n4 := by simpa using hn4
  obtain ⟨n5, hn5, _⟩ := DataW.trod_bool Try.underlying4 f5
  have e5 : v5 = .bool n5 := by simpa using hn5
  subst e0 e1 e2 e3 e4 e5
  exact ⟨n0, n1, n2, n3, n4, n5, rfl, wf64 hf0, wf64 hf1, wf64 hf2⟩
end Go.Proofs.Ytnohcmfhhoiihaa
