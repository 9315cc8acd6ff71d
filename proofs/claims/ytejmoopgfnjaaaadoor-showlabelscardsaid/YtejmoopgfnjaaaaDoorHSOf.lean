/- What comes in: heaps, names, words, numbers. -/
import Derived.Test.YtejmoopgfnjaaaaDoorHLaw
import Derived.Test.YtejmoopgfnjaaaaDoorK14
import Derived.Test.YtejmoopgfnjaaaaDoorK06
import Derived.ChangeArms
import Derived.SizedLaws
namespace Go.Proofs.YtejmoopgfnjaaaaDoor
open Go.ChangeShapes Go.WideShapes Go.ChangeAt Go.RowKit

theorem cells?_cell {W : World} {b off n i : Nat} {cs : List Value} (h : W.cells? 0 ⟨b, off, none⟩ n = some cs) (hi : i < n) : W.cell? ⟨b, off + i, none⟩ = cs[i]? := by
  unfold World.cells? at h
  rw [if_pos (Nat.zero_le _)] at h
  obtain ⟨v, hv, hc⟩ := Lib.mapM_at h i i (by simp [hi])
  rw [add_plain] at hc
  rw [hv, hc]
variable {H : Type} {enc : TypeId × Value → H} {W : World}
/-- All weights lie within the reach. -/
def Lt (t : TypeId) (d : DataW H) : Prop := ∀ n ∈ d.weights Tryd.prog t, n ≤ reachBytes
theorem wAll_mem {e : TypeId} : ∀ {l : List (DataW H)} {d : DataW H}, d ∈ l → ∀ n ∈ d.weights Tryd.prog e, n ∈ DataW.weightsAll Tryd.prog e l
  | x :: l, d, hd, n, hn => by
    simp only [DataW.weightsAll, List.mem_append]
    rcases List.mem_cons.1 hd with rfl | h
    · exact .inl hn
    · exact .inr (wAll_mem h n hn)
theorem elems_of {α : Type} {T e sz : Nat} (hT : Tryd.prog.underlying T = some (.slice e)) (hc : Tryd.prog.cellsOf e = sz) (hz : 0 < sz) (P : Nat → Nat → α → Prop) {sp : Nat → Bool}
    (hel : ∀ (m : Nat) (cs : List Value) (y : DataW H × List MemPlace) (b off : Nat), W.cells? 0 ⟨b, off, none⟩ sz = some cs → DataW.trod enc Tryd.prog W 0 sp true m e cs = some y → Lt e y.1 → ∃ a : α, P b off a)
    {fuel : Nat} {v : Value} {x : DataW H × List MemPlace} (h : DataW.trod enc Tryd.prog W 0 sp true fuel T [v] = some x) (hL : Lt T x.1) :
    ∃ (ra : Option Addr) (l : List α) (cap : Nat), v = .slice ra l.length cap ∧ l.length ≤ cap ∧ cap ≤ maxLen ∧ l.length * Tryd.prog.bytesOf e ≤ reachBytes ∧ ∃ b o, (l.length = 0 ∨ ra = some ⟨b, o, none⟩) ∧ ∀ (j : Nat) (a : α), l[j]? = some a → P b (o + j * sz) a := by
  rcases DataW.trod_slice hT h with ⟨hv, _⟩ | ⟨a, len, cap, elems, rest, n, hn, hv, hx, _, hl, hm, hlen, hell, _⟩
  · cases hv
    exact ⟨none, [], 0, rfl, Nat.le_refl _, Nat.zero_le _, by simp, 0, 0, .inl rfl, fun j a h => (by simp at h)⟩
  · cases hv
    rw [hc] at hell
    have hw : len * Tryd.prog.bytesOf e ≤ reachBytes := by
      have := hL ((elems.map (·.1)).length * Tryd.prog.bytesOf e + (rest.map (·.1)).length * Tryd.prog.bytesOf e) (by rw [hx]; simp only [DataW.weights, hT, List.mem_cons]; left; rw [Nat.add_mul])
      simp only [List.length_map] at this
      rw [hlen] at this; omega
    by_cases h0 : len = 0
    · subst h0
      exact ⟨_, [], cap, rfl, Nat.zero_le _, hm, by simp, 0, 0, .inl rfl, fun j a h => (by simp at h)⟩
    · have e0 := hell 0 (by omega)
      obtain ⟨y0, hy0⟩ : ∃ y, elems[0]? = some y := ⟨_, List.getElem?_eq_getElem (by omega)⟩
      rw [hy0, Option.bind_eq_some_iff] at e0
      obtain ⟨cs0, hcs0, _⟩ := e0
      obtain ⟨b, off, spot⟩ := a
      have hspot : spot = none := by
        unfold World.cells? at hcs0
        rw [if_pos (Nat.zero_le _)] at hcs0
        obtain ⟨u, _, hu⟩ := Lib.mapM_at hcs0 0 0 (by simp [hz])
        simpa [Addr.add] using World.cell?_spot hu
      subst hspot
      have hone : ∀ i, i < len → ∃ a : α, P b (off + i * sz) a := fun i hi => by
        have h1 := hell i hi
        have h2 : elems[i]? = some (elems[i]'(by omega)) := List.getElem?_eq_getElem _
        rw [h2, Option.bind_eq_some_iff] at h1
        obtain ⟨cs, hcs, hy⟩ := h1
        rw [add_plain] at hcs
        refine hel n cs _ b (off + i * sz) hcs hy (fun k hk => hL k ?_)
        rw [hx]
        simp only [DataW.weights, hT, List.mem_cons, List.mem_append]
        exact .inr (.inl (wAll_mem (List.mem_map.2 ⟨elems[i]'(by omega), List.getElem_mem _, rfl⟩) k hk))
      have hrow : ∀ (j i : Nat), i + j = len → ∃ l : List α, l.length = j ∧ ∀ (k : Nat) (a : α), l[k]? = some a → P b (off + (i + k) * sz) a := by
        intro j
        induction j with
        | zero => intro i _; exact ⟨[], rfl, fun k a h => (by simp at h)⟩
        | succ j ih =>
          intro i hij
          obtain ⟨l, h1, h2⟩ := ih (i + 1) (by omega)
          obtain ⟨a, ha⟩ := hone i (by omega)
          refine ⟨a :: l, by simp [h1], fun k x hk => ?_⟩
          cases k with
          | zero => simp at hk; subst hk; simpa using ha
          | succ k => have := h2 k x (by simpa using hk); rwa [show i + 1 + k = i + (k + 1) by omega] at this
      obtain ⟨l, h1, h2⟩ := hrow len 0 (by omega)
      subst h1
      exact ⟨_, l, cap, rfl, hl, hm, hw, b, off, .inr rfl, fun j a h => by have := h2 j a h; rwa [Nat.zero_add] at this⟩
theorem cellsWd : Tryd.prog.cellsOf 25 = 1 := by kernel_rfl
theorem cellsCl : Tryd.prog.cellsOf 39 = 4 := by kernel_rfl
theorem cellsKi : Tryd.prog.cellsOf 36 = 1 := by kernel_rfl
theorem cellsCo : Tryd.prog.cellsOf 37 = 1 := by kernel_rfl
theorem cellsI : Tryd.prog.cellsOf 3 = 1 := by kernel_rfl
theorem bytesWd : Tryd.prog.bytesOf 25 = 8 := by kernel_rfl
theorem bytesCl : Tryd.prog.bytesOf 39 = 24 := by kernel_rfl
theorem bytesI : Tryd.prog.bytesOf 3 = 8 := by kernel_rfl
theorem lt_of_cell {b o : Nat} {v : Value} (h : W.cell? ⟨b, o, none⟩ = some v) : b < W.heap.size := by
  rcases Nat.lt_or_ge b W.heap.size with h' | h'
  · exact h'
  · simp [World.cell?, Array.getElem?_eq_none h'] at h
theorem take_drop_one {cs : List Value} {i : Nat} {v : Value} (h : (cs.drop i).take 1 = [v]) : cs[i]? = some v := by
  have := congrArg (·[0]?) h
  simpa [List.getElem?_take, List.getElem?_drop] using this
theorem wf8 {n : Int} (h : (Lit.int .u8 n).wf = true) : 0 ≤ n ∧ n ≤ 255 := by
  simp [Lit.wf, IntKind.min, IntKind.max, IntKind.signed, IntKind.bits] at h
  omega
theorem wf64 {n : Int} (h : (Lit.int .i64 n).wf = true) : -9223372036854775808 ≤ n ∧ n ≤ 9223372036854775807 := by
  simp [Lit.wf, IntKind.min, IntKind.max, IntKind.signed, IntKind.bits] at h
  omega
theorem wfW {n : Int} (hwf : (Lit.int .u64 n).wf = true) : Rng n := by
  simp [Lit.wf, IntKind.min, IntKind.max, IntKind.signed, IntKind.bits] at hwf
  unfold Rng; omega
/-- A list of numbers. -/
theorem ints_in {sp : Nat → Bool} {fuel : Nat} {v : Value} {x : DataW H × List MemPlace} (h : DataW.trod enc Tryd.prog W 0 sp true fuel 34 [v] = some x) (hL : Lt 34 x.1) :
    ∃ (ra : Option Addr) (l : List Int) (cap : Nat), v = .slice ra l.length cap ∧ l.length ≤ 281474976710656 ∧ RX (Value.int .i64) W ra l ∧ ∀ x ∈ l, -9223372036854775808 ≤ x ∧ x ≤ 9223372036854775807 := by
  obtain ⟨ra, l, cap, hv, _, _, hw, b, o, ha, hp⟩ := elems_of (α := Int) Tryd.underlying34 cellsI (by decide) (fun b o x => W.cell? ⟨b, o, none⟩ = some (.int .i64 x) ∧ (-9223372036854775808 ≤ x ∧ x ≤ 9223372036854775807)) (fun m cs y b off hcs hy _ => by
    obtain ⟨n, rfl, _, hwf⟩ := DataW.trod_int Tryd.underlying3 hy
    have c0 := cells?_cell hcs (i := 0) (by omega)
    exact ⟨n, by simpa using c0, wf64 hwf⟩) h hL
  rw [bytesI] at hw
  unfold reachBytes at hw
  refine ⟨ra, l, cap, hv, by omega, ⟨b, o, ha, fun j x hx => ?_⟩, fun x hx => ?_⟩
  · obtain ⟨h1, h2⟩ := hp j x hx
    rw [Nat.mul_one] at h1
    exact ⟨lt_of_cell h1, h1⟩
  · obtain ⟨j, hj⟩ := List.getElem?_of_mem hx
    exact (hp j x hj).2
/-- A list of cells. -/
theorem cells_in {sp : Nat → Bool} {fuel : Nat} {v : Value} {x : DataW H × List MemPlace} (h : DataW.trod enc Tryd.prog W 0 sp true fuel 22 [v] = some x) (hL : Lt 22 x.1) :
    ∃ (ra : Option Addr) (l : List Cl) (cap : Nat), v = .slice ra l.length cap ∧ l.length ≤ 281474976710656 ∧ HR W ra l := by
  obtain ⟨ra, l, cap, hv, _, _, hw, b, o, ha, hp⟩ := elems_of (α := Cl) Tryd.underlying22 cellsCl (by decide) (fun b o x => (W.cell? ⟨b, o, none⟩ = some (.int .u8 x.k) ∧ W.cell? ⟨b, o + 1, none⟩ = some (.int .u8 x.c) ∧ W.cell? ⟨b, o + 1 + 1, none⟩ = some (.int .u64 x.a) ∧ W.cell? ⟨b, o + 1 + 1 + 1, none⟩ = some (.int .u64 x.b)) ∧ OkK x) (fun m cs y b off hcs hy _ => by
    obtain ⟨xs, n, _, _, hl, hlen, hf⟩ := DataW.trod_struct Tryd.underlying39 hy
    have hl4 : xs.length = 4 := hlen
    obtain ⟨x0, x1, x2, x3, rfl⟩ : ∃ x0 x1 x2 x3, xs = [x0, x1, x2, x3] := by
      rcases xs with _ | ⟨x0, _ | ⟨x1, _ | ⟨x2, _ | ⟨x3, _ | ⟨x4, r⟩⟩⟩⟩⟩
      · cases hl4
      · cases hl4
      · cases hl4
      · cases hl4
      · exact ⟨x0, x1, x2, x3, rfl⟩
      · simp at hl4
    have h0 : DataW.trod enc Tryd.prog W 0 sp true n 36 ((cs.drop 0).take (Tryd.prog.cellsOf 36)) = some x0 := hf 0 _ rfl
    have h1 : DataW.trod enc Tryd.prog W 0 sp true n 37 ((cs.drop 1).take (Tryd.prog.cellsOf 37)) = some x1 := hf 1 _ rfl
    have h2 : DataW.trod enc Tryd.prog W 0 sp true n 25 ((cs.drop 2).take (Tryd.prog.cellsOf 25)) = some x2 := hf 2 _ rfl
    have h3 : DataW.trod enc Tryd.prog W 0 sp true n 25 ((cs.drop 3).take (Tryd.prog.cellsOf 25)) = some x3 := hf 3 _ rfl
    obtain ⟨p0, hp0, _, hw0⟩ := DataW.trod_int Tryd.underlying36 h0
    obtain ⟨p1, hp1, _, hw1⟩ := DataW.trod_int Tryd.underlying37 h1
    obtain ⟨p2, hp2, _, hw2⟩ := DataW.trod_int Tryd.underlying25 h2
    obtain ⟨p3, hp3, _, hw3⟩ := DataW.trod_int Tryd.underlying25 h3
    rw [cellsKi] at hp0
    rw [cellsCo] at hp1
    rw [cellsWd] at hp2 hp3
    have c0 := cells?_cell hcs (i := 0) (by omega)
    have c1 := cells?_cell hcs (i := 1) (by omega)
    have c2 := cells?_cell hcs (i := 2) (by omega)
    have c3 := cells?_cell hcs (i := 3) (by omega)
    rw [take_drop_one hp0] at c0
    rw [take_drop_one hp1] at c1
    rw [take_drop_one hp2] at c2
    rw [take_drop_one hp3] at c3
    exact ⟨⟨p0, p1, p2, p3⟩, ⟨c0, c1, c2, c3⟩, ⟨wf8 hw0, wf8 hw1, wfW hw2, wfW hw3⟩⟩) h hL
  rw [bytesCl] at hw
  unfold reachBytes at hw
  refine ⟨ra, l, cap, hv, by omega, ⟨b, o, ha, fun j x hx => ?_⟩⟩
  obtain ⟨h1, h2⟩ := hp j x hx
  exact ⟨lt_of_cell h1.1, h1, h2⟩
theorem bytesSt : Tryd.prog.bytesOf 9 = 16 := by kernel_rfl
/-- A list of texts. -/
theorem texts_in {sp : Nat → Bool} {fuel : Nat} {v : Value} {x : DataW H × List MemPlace} (h : DataW.trod enc Tryd.prog W 0 sp true fuel 23 [v] = some x) (hL : Lt 23 x.1) :
    ∃ (ra : Option Addr) (l : List (List UInt8)) (cap : Nat), v = .slice ra l.length cap ∧ l.length ≤ 281474976710656 ∧ TX W ra l := by
  obtain ⟨ra, l, cap, hv, _, _, hw, b, o, ha, hp⟩ := elems_of (α := List UInt8) Tryd.underlying23 cells9 (by decide) (fun b o x => W.cell? ⟨b, o, none⟩ = some (S x) ∧ x.length ≤ reachBytes) (fun m cs y b off hcs hy hy2 => by
    obtain ⟨s, rfl, hd, _⟩ := DataW.trod_string Tryd.underlying9 hy
    have c0 := cells?_cell hcs (i := 0) (by omega)
    refine ⟨s.data.toList, by rw [S_of]; simpa using c0, hy2 _ ?_⟩
    rw [hd]; simp [DataW.weights]) h hL
  rw [bytesSt] at hw
  unfold reachBytes at hw hp
  refine ⟨ra, l, cap, hv, by omega, ⟨b, o, ha, fun j x hx => ?_⟩⟩
  · obtain ⟨h1, h2⟩ := hp j x hx
    rw [Nat.mul_one] at h1
    exact ⟨lt_of_cell h1, h1, by omega⟩
theorem lt_sized {ts : List TypeId} {ds : List (DataW H)} (h : (DataW.weightsEach Tryd.prog ts ds).all (· ≤ reachBytes) = true) {j : Nat} {t : TypeId} {d : DataW H} (ht : ts[j]? = some t) (hd : ds[j]? = some d) : Lt t d :=
  fun n hn => of_decide_eq_true (List.all_eq_true.1 h n (DataW.weights_mem_each ht hd n hn))
theorem cells_of2 {sp : Nat → Bool} {v : Value} {d : DataW H} {p : List MemPlace} (h : DataW.Trod enc Tryd.prog W 0 sp true 22 v d p) (hv : ∃ ra n c, v = .slice ra n c) (hL : Lt 22 d) : ∃ (ra : Option Addr) (l : List Cl) (cap : Nat), v = .slice ra l.length cap ∧ l.length ≤ 281474976710656 ∧ HR W ra l := by
  obtain ⟨ra, n, c, rfl⟩ := hv
  obtain ⟨fuel, hf⟩ := h
  exact cells_in hf hL
theorem texts_of2 {sp : Nat → Bool} {v : Value} {d : DataW H} {p : List MemPlace} (h : DataW.Trod enc Tryd.prog W 0 sp true 23 v d p) (hv : ∃ ra n c, v = .slice ra n c) (hL : Lt 23 d) : ∃ (ra : Option Addr) (l : List (List UInt8)) (cap : Nat), v = .slice ra l.length cap ∧ l.length ≤ 281474976710656 ∧ TX W ra l := by
  obtain ⟨ra, n, c, rfl⟩ := hv
  obtain ⟨fuel, hf⟩ := h
  exact texts_in hf hL
theorem ints_of2 {sp : Nat → Bool} {v : Value} {d : DataW H} {p : List MemPlace} (h : DataW.Trod enc Tryd.prog W 0 sp true 34 v d p) (hv : ∃ ra n c, v = .slice ra n c) (hL : Lt 34 d) : ∃ (ra : Option Addr) (l : List Int) (cap : Nat), v = .slice ra l.length cap ∧ l.length ≤ 281474976710656 ∧ RX (Value.int .i64) W ra l ∧ ∀ x ∈ l, -9223372036854775808 ≤ x ∧ x ≤ 9223372036854775807 := by
  obtain ⟨ra, n, c, rfl⟩ := hv
  obtain ⟨fuel, hf⟩ := h
  exact ints_in hf hL
theorem trodAll_five {P : Program} {w : World} {base : Nat} {spare : Nat → Bool} {held : Bool} {t t' t2 t3 t4 : TypeId} {args : Array Value} {ds : List (DataW H)} {ps : List MemPlace} (h : DataW.TrodAll enc P w base spare held [t, t', t2, t3, t4] args.toList ds ps) :
    ∃ v v' v2 v3 v4 d d' d2 d3 d4 p p' p2 p3 p4, args = #[v, v', v2, v3, v4] ∧ ds = [d, d', d2, d3, d4] ∧ ps = p ++ p' ++ p2 ++ p3 ++ p4 ∧ DataW.Trod enc P w base spare held t v d p ∧ DataW.Trod enc P w base spare held t' v' d' p' ∧ DataW.Trod enc P w base spare held t2 v2 d2 p2 ∧ DataW.Trod enc P w base spare held t3 v3 d3 p3 ∧ DataW.Trod enc P w base spare held t4 v4 d4 p4 := by
  obtain ⟨v, vs, d, ds', p, q, hargs, rfl, rfl, hd, hrest⟩ := trodAll_cons h
  obtain ⟨v', vs', d', ds1, p', q', rfl, rfl, rfl, hd', hrest'⟩ := trodAll_cons hrest
  obtain ⟨v2, vs2, d2, ds2, p2, q2, rfl, rfl, rfl, hd2, hrest2⟩ := trodAll_cons hrest'
  obtain ⟨v3, vs3, d3, ds3, p3, q3, rfl, rfl, rfl, hd3, hrest3⟩ := trodAll_cons hrest2
  obtain ⟨v4, vs4, d4, ds4, p4, q4, rfl, rfl, rfl, hd4, hrest4⟩ := trodAll_cons hrest3
  obtain ⟨rfl, rfl, rfl⟩ := trodAll_nil hrest4
  exact ⟨v, v', v2, v3, v4, d, d', d2, d3, d4, p, p', p2, p3, p4, by cases args; simp_all, rfl, by simp, hd, hd', hd2, hd3, hd4⟩
end Go.Proofs.YtejmoopgfnjaaaaDoor
