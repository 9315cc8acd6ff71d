/- What the row's list gives, and what a law's walk gives the row.; What comes in gives a walk: a phase, words, a heap.; The view that comes in.; The steps that come in. -/
import Derived.Test.YtomdbcddokaagaaDoorGA
import Derived.Test.YtomdbcddokaagaaDoorGX
import Derived.Test.YtomdbcddokaagaaDoorHBKnown
import Derived.Test.YtomdbcddokaagaaDoorRows
import Derived.Lib.LaidTab
import Derived.ProofKit
import Derived.OpenShut
import Derived.LaidMore
import Derived.Carry
import Derived.ChangeArms
import Derived.SizedLaws
/- What the row's list gives, and what a law's walk gives the row. -/
namespace Go.Proofs.YtomdbcddokaagaaDoor
open Go.ChangeShapes Go.WideShapes Go.ChangeAt Go.RowKit

theorem belowTrodAll {H : Type} {enc : TypeId × Value → H} {P : Program} (hl : laidOutB P = true) {W W' : World} (hb : Below W.heap.size W W') :
    ∀ {ts : List TypeId} {vs : List Value} {ds : List (DataW H)} {ps : List MemPlace}, (∀ t ∈ ts, P.readableRec t = true ∧ t < P.types.size) →
      DataW.TrodAll enc P W 0 (fun _ => true) true ts vs ds ps → (∀ x ∈ ps, x.block < W.heap.size) → DataW.TrodAll enc P W' 0 (fun b => decide (b < W.heap.size)) true ts vs ds ps
  | [], [], [], _, _, h, _ => h
  | [], [], _ :: _, _, _, h, _ => h.elim
  | [], _ :: _, _, _, _, h, _ => h.elim
  | _ :: _, [], _, _, _, h, _ => h.elim
  | _ :: _, _ :: _, [], _, _, h, _ => h.elim
  | t :: ts, v :: vs, d :: ds, ps, hr, h, hlt => by
    obtain ⟨p, q, h1, h2, rfl⟩ := h
    have h0 := hr t (List.mem_cons_self ..)
    exact ⟨p, q, Below.trod hl h0.1 h0.2 h1 hb (fun x hx => hlt x (List.mem_append_left _ hx)),
      belowTrodAll hl hb (fun u hu => hr u (List.mem_cons_of_mem _ hu)) h2 (fun x hx => hlt x (List.mem_append_right _ hx)), rfl⟩

theorem law_post {H : Type} {enc : TypeId × Value → H} {P : Program} {f : Func} {s : ChangeSpec} {W W' : World} {args : Array Value} {ds gs : List (DataW H)} {before : List MemPlace} {tb : TypeId}
    (hl : laidOutB P = true) (hr : (f.params.toList.all fun t => P.readableRec t && decide (t < P.types.size)) = true) (hvars : s.vars = [])
    (hrt : f.resultTypes = #[tb]) (hub : P.underlying tb = some .bool)
    (hres : (s.fn H (ds ++ gs)).results = [.lit (.bool true)]) (hargs : (s.fn H (ds ++ gs)).args = ds) (hvs : (s.fn H (ds ++ gs)).vars = [])
    (hW : DataW.Whole enc P f.params.toList s.vars false W args.toList ds gs before) (hb : Below W.heap.size W W') :
    s.post enc P f false true false false W args (.bool true) W' := by
  have hW' := hW
  have hlt := hW.lt
  obtain ⟨p, q, hA, hV, rfl, hfz, hnd⟩ := hW
  have hr' : ∀ t ∈ f.params.toList, P.readableRec t = true ∧ t < P.types.size := fun t ht => by
    have := List.all_eq_true.1 hr t ht
    simpa using this
  refine ⟨ds, gs, p ++ q, [], p, [], hW', ?_, ?_, ?_, hb.frame _, fun h => by cases h⟩
  · rw [hres, hrt]
    exact trodAll_cons_mk (shut_bool hub _) trodAll_mk0
  · rw [hargs]
    exact belowTrodAll hl hb hr' hA (fun x hx => hlt x (List.mem_append_left _ hx))
  · rw [hvs, hvars]; rfl

theorem gTab : Tryd.prog.globalNamed "dapple/words.bounds" = some 0 := by kernel_rfl
theorem gTabType : (Tryd.prog.globals[0]?).map (·.type) = some 188 := by kernel_rfl
theorem cellsRg : Tryd.prog.cellsOf 187 = 2 := by kernel_rfl
theorem cells2 : Tryd.prog.cellsOf 2 = 1 := by kernel_rfl
theorem tab_of {W : World} {rest : List (String × DataW Unit)} (h : laidMet Tryd.prog (("dapple/words.bounds", Rows.laid_dapple_words_bounds) :: rest) W) : Tab W := by
  obtain ⟨ps, ⟨g0, t0, cs0, f0, p0, q0, hg0, ht0, hv0, hd0, _, _⟩, _⟩ := h
  obtain rfl := Option.some.inj (gTab.symm.trans hg0)
  obtain rfl := Option.some.inj (gTabType.symm.trans ht0)
  obtain ⟨xs, m1, rfl, hx1, hlen, hn9, hel⟩ := DataW.trod_array Tryd.underlying188 hd0
  simp only [Prod.mk.injEq, Rows.laid_dapple_words_bounds, DataW.agg.injEq] at hx1
  obtain ⟨hx1, _⟩ := hx1
  intro t ht
  have hx := hel t ht
  have hy : (xs.map (·.1))[t]? = some (.agg [.lit (.int .i64 (lo t)), .lit (.int .i64 (hi t))]) := by
    rw [← hx1]
    have hd : t = 0 ∨ t = 1 ∨ t = 2 ∨ t = 3 ∨ t = 4 ∨ t = 5 ∨ t = 6 ∨ t = 7 ∨ t = 8 := by omega
    rcases hd with rfl | rfl | rfl | rfl | rfl | rfl | rfl | rfl | rfl <;> rfl
  rw [List.getElem?_map] at hy
  obtain ⟨y, hy1, hy2⟩ := Option.map_eq_some_iff.1 hy
  rw [hy1, cellsRg] at hx
  obtain ⟨y0, y1, n, rfl, hl, h0, h1⟩ := trod_struct2 Tryd.underlying187 hx
  simp only [DataW.agg.injEq, List.cons.injEq, and_true] at hy2
  obtain ⟨e0, e1⟩ := hy2
  obtain ⟨a, ha, rfl, _⟩ := DataW.trod_int Tryd.underlying2 h0
  obtain ⟨b, hb, rfl, _⟩ := DataW.trod_int Tryd.underlying2 h1
  simp only [DataW.lit.injEq, Lit.int.injEq, true_and] at e0 e1
  subst e0 e1
  rw [cells2] at ha hb
  have c0 := World.var?_cell hg0 hv0 (t * 2)
  have c1 := World.var?_cell hg0 hv0 (t * 2 + 1)
  have a0 := congrArg (fun l : List Value => l[0]?) ha
  have b0 := congrArg (fun l : List Value => l[0]?) hb
  simp [List.getElem?_drop] at a0 b0
  rw [c0, c1]
  exact ⟨a0, b0⟩
theorem tab_all {W : World} (h : laidMetH Tryd.prog [("dapple/words.bounds", Rows.laid_dapple_words_bounds)] W) : Tab W := by
  rw [MakeChecks.laidMetH_plain _ _ _ (by kernel_rfl)] at h
  exact tab_of h
end Go.Proofs.YtomdbcddokaagaaDoor

/- What comes in gives a walk: a phase, words, a heap. -/
namespace Go.Proofs.YtomdbcddokaagaaDoor
open Go.ChangeShapes Go.WideShapes Go.ChangeAt Go.RowKit

theorem cells?_cell {W : World} {b off n i : Nat} {cs : List Value} (h : W.cells? 0 ⟨b, off, none⟩ n = some cs) (hi : i < n) : W.cell? ⟨b, off + i, none⟩ = cs[i]? := by
  unfold World.cells? at h
  rw [if_pos (Nat.zero_le _)] at h
  obtain ⟨v, hv, hc⟩ := Lib.mapM_at h i i (by simp [hi])
  rw [ad_add] at hc
  rw [hv, hc]
variable {H : Type} {enc : TypeId × Value → H} {W : World}
/-- All weights lie within the reach. -/
def Lt (t : TypeId) (d : DataW H) : Prop := ∀ n ∈ d.weights Tryd.prog t, n ≤ reachBytes
theorem wAll_mem {e : TypeId} : ∀ {l : List (DataW H)} {d : DataW H}, d ∈ l → ∀ n ∈ d.weights Tryd.prog e, n ∈ DataW.weightsAll Tryd.prog e l
  | x :: l, d, hd, n, hn => by
    simp only [DataW.weightsAll, List.mem_append]
    rcases List.mem_cons.1 hd with rfl | h
    · exact .inl hn
    · exact .inr (wAll_mem h n hn)
theorem elems_of {α : Type} {T e sz : Nat} (hT : Tryd.prog.underlying T = some (.slice e)) (hc : Tryd.prog.cellsOf e = sz) (hz : 0 < sz) (P : Nat → Nat → α → Prop) {sp : Nat → Bool}
    (hel : ∀ (m : Nat) (cs : List Value) (y : DataW H × List MemPlace) (b off : Nat), W.cells? 0 ⟨b, off, none⟩ sz = some cs → DataW.trod enc Tryd.prog W 0 sp true m e cs = some y → Lt e y.1 → ∃ a : α, P b off a)
    {fuel : Nat} {v : Value} {x : DataW H × List MemPlace} (h : DataW.trod enc Tryd.prog W 0 sp true fuel T [v] = some x) (hL : Lt T x.1) :
    ∃ (ra : Option Addr) (l : List α) (cap : Nat), v = .slice ra l.length cap ∧ l.length ≤ cap ∧ cap ≤ maxLen ∧ l.length * Tryd.prog.bytesOf e ≤ reachBytes ∧ ∃ b o, (l.length = 0 ∨ ra = some ⟨b, o, none⟩) ∧ ∀ (j : Nat) (a : α), l[j]? = some a → P b (o + j * sz) a := by
  rcases DataW.trod_slice hT h with ⟨hv, _⟩ | ⟨a, len, cap, elems, rest, n, hn, hv, hx, _, hl, hm, hlen, hell, _⟩
  · cases hv
    exact ⟨none, [], 0, rfl, Nat.le_refl _, Nat.zero_le _, by simp, 0, 0, .inl rfl, fun j a h => (by simp at h)⟩
  · cases hv
    rw [hc] at hell
    have hw : len * Tryd.prog.bytesOf e ≤ reachBytes := by
      have := hL ((elems.map (·.1)).length * Tryd.prog.bytesOf e + (rest.map (·.1)).length * Tryd.prog.bytesOf e) (by rw [hx]; simp only [DataW.weights, hT, List.mem_cons]; left; rw [Nat.add_mul])
      simp only [List.length_map] at this
      rw [hlen] at this; omega
    by_cases h0 : len = 0
    · subst h0
      exact ⟨_, [], cap, rfl, Nat.zero_le _, hm, by simp, 0, 0, .inl rfl, fun j a h => (by simp at h)⟩
    · have e0 := hell 0 (by omega)
      obtain ⟨y0, hy0⟩ : ∃ y, elems[0]? = some y := ⟨_, List.getElem?_eq_getElem (by omega)⟩
      rw [hy0, Option.bind_eq_some_iff] at e0
      obtain ⟨cs0, hcs0, _⟩ := e0
      obtain ⟨b, off, spot⟩ := a
      have hspot : spot = none := by
        unfold World.cells? at hcs0
        rw [if_pos (Nat.zero_le _)] at hcs0
        obtain ⟨u, _, hu⟩ := Lib.mapM_at hcs0 0 0 (by simp [hz])
        simpa [Addr.add] using World.cell?_spot hu
      subst hspot
      have hone : ∀ i, i < len → ∃ a : α, P b (off + i * sz) a := fun i hi => by
        have h1 := hell i hi
        have h2 : elems[i]? = some (elems[i]'(by omega)) := List.getElem?_eq_getElem _
        rw [h2, Option.bind_eq_some_iff] at h1
        obtain ⟨cs, hcs, hy⟩ := h1
        rw [ad_add] at hcs
        refine hel n cs _ b (off + i * sz) hcs hy (fun k hk => hL k ?_)
        rw [hx]
        simp only [DataW.weights, hT, List.mem_cons, List.mem_append]
        exact .inr (.inl (wAll_mem (List.mem_map.2 ⟨elems[i]'(by omega), List.getElem_mem _, rfl⟩) k hk))
      have hrow : ∀ (j i : Nat), i + j = len → ∃ l : List α, l.length = j ∧ ∀ (k : Nat) (a : α), l[k]? = some a → P b (off + (i + k) * sz) a := by
        intro j
        induction j with
        | zero => intro i _; exact ⟨[], rfl, fun k a h => (by simp at h)⟩
        | succ j ih =>
          intro i hij
          obtain ⟨l, h1, h2⟩ := ih (i + 1) (by omega)
          obtain ⟨a, ha⟩ := hone i (by omega)
          refine ⟨a :: l, by simp [h1], fun k x hk => ?_⟩
          cases k with
          | zero => simp at hk; subst hk; simpa using ha
          | succ k => have := h2 k x (by simpa using hk); rwa [show i + 1 + k = i + (k + 1) by omega] at this
      obtain ⟨l, h1, h2⟩ := hrow len 0 (by omega)
      subst h1
      exact ⟨_, l, cap, rfl, hl, hm, hw, b, off, .inr rfl, fun j a h => by have := h2 j a h; rwa [Nat.zero_add] at this⟩
theorem cellsWd : Tryd.prog.cellsOf 57 = 1 := by kernel_rfl
theorem cellsCl : Tryd.prog.cellsOf 59 = 4 := by kernel_rfl
theorem cellsKi : Tryd.prog.cellsOf 54 = 1 := by kernel_rfl
theorem cellsCo : Tryd.prog.cellsOf 55 = 1 := by kernel_rfl
theorem cellsI : Tryd.prog.cellsOf 3 = 1 := by kernel_rfl
theorem bytesWd : Tryd.prog.bytesOf 57 = 8 := by kernel_rfl
theorem bytesCl : Tryd.prog.bytesOf 59 = 24 := by kernel_rfl
theorem bytesI : Tryd.prog.bytesOf 3 = 8 := by kernel_rfl
theorem lt_of_cell {b o : Nat} {v : Value} (h : W.cell? ⟨b, o, none⟩ = some v) : b < W.heap.size := by
  rcases Nat.lt_or_ge b W.heap.size with h' | h'
  · exact h'
  · simp [World.cell?, Array.getElem?_eq_none h'] at h
/-- A list of words. -/
theorem words_of {sp : Nat → Bool} {fuel : Nat} {v : Value} {x : DataW H × List MemPlace} (h : DataW.trod enc Tryd.prog W 0 sp true fuel 25 [v] = some x) (hL : Lt 25 x.1) :
    ∃ (ra : Option Addr) (l : List Int) (cap : Nat), v = .slice ra l.length cap ∧ l.length ≤ 281474976710656 ∧ WR W ra l := by
  obtain ⟨ra, l, cap, hv, _, _, hw, b, o, ha, hp⟩ := elems_of (α := Int) Tryd.underlying25 cellsWd (by decide) (fun b o x => W.cell? ⟨b, o, none⟩ = some (.int .u64 x) ∧ Rng x) (fun m cs y b off hcs hy _ => by
    obtain ⟨n, rfl, _, hwf⟩ := DataW.trod_int Tryd.underlying57 hy
    have c0 := cells?_cell hcs (i := 0) (by omega)
    refine ⟨n, by simpa using c0, ?_⟩
    simp [Lit.wf, IntKind.min, IntKind.max, IntKind.signed, IntKind.bits] at hwf
    unfold Rng; omega) h hL
  rw [bytesWd] at hw
  unfold reachBytes at hw
  refine ⟨ra, l, cap, hv, by omega, b, o, ha, fun j x hx => ?_⟩
  obtain ⟨h1, h2⟩ := hp j x hx
  rw [Nat.mul_one] at h1
  exact ⟨lt_of_cell h1, h1, h2⟩
theorem take_drop_one {cs : List Value} {i : Nat} {v : Value} (h : (cs.drop i).take 1 = [v]) : cs[i]? = some v := by
  have := congrArg (·[0]?) h
  simpa [List.getElem?_take, List.getElem?_drop] using this
theorem wf8 {n : Int} (h : (Lit.int .u8 n).wf = true) : 0 ≤ n ∧ n ≤ 255 := by
  simp [Lit.wf, IntKind.min, IntKind.max, IntKind.signed, IntKind.bits] at h
  omega
theorem wf64 {n : Int} (h : (Lit.int .i64 n).wf = true) : -9223372036854775808 ≤ n ∧ n ≤ 9223372036854775807 := by
  simp [Lit.wf, IntKind.min, IntKind.max, IntKind.signed, IntKind.bits] at h
  omega
theorem wfW {n : Int} (hwf : (Lit.int .u64 n).wf = true) : Rng n := by
  simp [Lit.wf, IntKind.min, IntKind.max, IntKind.signed, IntKind.bits] at hwf
  unfold Rng; omega
/-- A list of numbers. -/
theorem ints_in {sp : Nat → Bool} {fuel : Nat} {v : Value} {x : DataW H × List MemPlace} (h : DataW.trod enc Tryd.prog W 0 sp true fuel 24 [v] = some x) (hL : Lt 24 x.1) :
    ∃ (ra : Option Addr) (l : List Int) (cap : Nat), v = .slice ra l.length cap ∧ l.length ≤ 281474976710656 ∧ RX (Value.int .i64) W ra l ∧ ∀ x ∈ l, -9223372036854775808 ≤ x ∧ x ≤ 9223372036854775807 := by
  obtain ⟨ra, l, cap, hv, _, _, hw, b, o, ha, hp⟩ := elems_of (α := Int) Tryd.underlying24 cellsI (by decide) (fun b o x => W.cell? ⟨b, o, none⟩ = some (.int .i64 x) ∧ (-9223372036854775808 ≤ x ∧ x ≤ 9223372036854775807)) (fun m cs y b off hcs hy _ => by
    obtain ⟨n, rfl, _, hwf⟩ := DataW.trod_int Tryd.underlying3 hy
    have c0 := cells?_cell hcs (i := 0) (by omega)
    exact ⟨n, by simpa using c0, wf64 hwf⟩) h hL
  rw [bytesI] at hw
  unfold reachBytes at hw
  refine ⟨ra, l, cap, hv, by omega, ⟨b, o, ha, fun j x hx => ?_⟩, fun x hx => ?_⟩
  · obtain ⟨h1, h2⟩ := hp j x hx
    rw [Nat.mul_one] at h1
    exact ⟨lt_of_cell h1, h1⟩
  · obtain ⟨j, hj⟩ := List.getElem?_of_mem hx
    exact (hp j x hj).2
/-- A list of cells. -/
theorem cells_in {sp : Nat → Bool} {fuel : Nat} {v : Value} {x : DataW H × List MemPlace} (h : DataW.trod enc Tryd.prog W 0 sp true fuel 22 [v] = some x) (hL : Lt 22 x.1) :
    ∃ (ra : Option Addr) (l : List Cl) (cap : Nat), v = .slice ra l.length cap ∧ l.length ≤ 281474976710656 ∧ HR W ra l := by
  obtain ⟨ra, l, cap, hv, _, _, hw, b, o, ha, hp⟩ := elems_of (α := Cl) Tryd.underlying22 cellsCl (by decide) (fun b o x => (W.cell? ⟨b, o, none⟩ = some (.int .u8 x.k) ∧ W.cell? ⟨b, o + 1, none⟩ = some (.int .u8 x.c) ∧ W.cell? ⟨b, o + 1 + 1, none⟩ = some (.int .u64 x.a) ∧ W.cell? ⟨b, o + 1 + 1 + 1, none⟩ = some (.int .u64 x.b)) ∧ OkK x) (fun m cs y b off hcs hy _ => by
    obtain ⟨xs, n, _, _, hl, hlen, hf⟩ := DataW.trod_struct Tryd.underlying59 hy
    have hl4 : xs.length = 4 := hlen
    obtain ⟨x0, x1, x2, x3, rfl⟩ : ∃ x0 x1 x2 x3, xs = [x0, x1, x2, x3] := by
      rcases xs with _ | ⟨x0, _ | ⟨x1, _ | ⟨x2, _ | ⟨x3, _ | ⟨x4, r⟩⟩⟩⟩⟩
      · cases hl4
      · cases hl4
      · cases hl4
      · cases hl4
      · exact ⟨x0, x1, x2, x3, rfl⟩
      · simp at hl4
    have h0 : DataW.trod enc Tryd.prog W 0 sp true n 54 ((cs.drop 0).take (Tryd.prog.cellsOf 54)) = some x0 := hf 0 _ rfl
    have h1 : DataW.trod enc Tryd.prog W 0 sp true n 55 ((cs.drop 1).take (Tryd.prog.cellsOf 55)) = some x1 := hf 1 _ rfl
    have h2 : DataW.trod enc Tryd.prog W 0 sp true n 57 ((cs.drop 2).take (Tryd.prog.cellsOf 57)) = some x2 := hf 2 _ rfl
    have h3 : DataW.trod enc Tryd.prog W 0 sp true n 57 ((cs.drop 3).take (Tryd.prog.cellsOf 57)) = some x3 := hf 3 _ rfl
    obtain ⟨p0, hp0, _, hw0⟩ := DataW.trod_int Tryd.underlying54 h0
    obtain ⟨p1, hp1, _, hw1⟩ := DataW.trod_int Tryd.underlying55 h1
    obtain ⟨p2, hp2, _, hw2⟩ := DataW.trod_int Tryd.underlying57 h2
    obtain ⟨p3, hp3, _, hw3⟩ := DataW.trod_int Tryd.underlying57 h3
    rw [cellsKi] at hp0
    rw [cellsCo] at hp1
    rw [cellsWd] at hp2 hp3
    have c0 := cells?_cell hcs (i := 0) (by omega)
    have c1 := cells?_cell hcs (i := 1) (by omega)
    have c2 := cells?_cell hcs (i := 2) (by omega)
    have c3 := cells?_cell hcs (i := 3) (by omega)
    rw [take_drop_one hp0] at c0
    rw [take_drop_one hp1] at c1
    rw [take_drop_one hp2] at c2
    rw [take_drop_one hp3] at c3
    exact ⟨⟨p0, p1, p2, p3⟩, ⟨c0, c1, c2, c3⟩, ⟨wf8 hw0, wf8 hw1, wfW hw2, wfW hw3⟩⟩) h hL
  rw [bytesCl] at hw
  unfold reachBytes at hw
  refine ⟨ra, l, cap, hv, by omega, ⟨b, o, ha, fun j x hx => ?_⟩⟩
  obtain ⟨h1, h2⟩ := hp j x hx
  exact ⟨lt_of_cell h1.1, h1, h2⟩
theorem lt_sized {ts : List TypeId} {ds : List (DataW H)} (h : (DataW.weightsEach Tryd.prog ts ds).all (· ≤ reachBytes) = true) {j : Nat} {t : TypeId} {d : DataW H} (ht : ts[j]? = some t) (hd : ds[j]? = some d) : Lt t d :=
  fun n hn => of_decide_eq_true (List.all_eq_true.1 h n (DataW.weights_mem_each ht hd n hn))
theorem cellsSC : Tryd.prog.cellsOf 22 = 1 := by kernel_rfl
theorem cellsSW : Tryd.prog.cellsOf 25 = 1 := by kernel_rfl
theorem cellsSI : Tryd.prog.cellsOf 24 = 1 := by kernel_rfl

theorem cellsBo : Tryd.prog.cellsOf 4 = 1 := by kernel_rfl
end Go.Proofs.YtomdbcddokaagaaDoor

/- The view that comes in. -/
namespace Go.Proofs.YtomdbcddokaagaaDoor
open Go.RowKit

variable {H : Type} {enc : TypeId × Value → H} {W : World}
theorem cellsLn : Tryd.prog.cellsOf 61 = 3 := by kernel_rfl
theorem bytesLn : Tryd.prog.bytesOf 61 = 32 := by kernel_rfl
theorem cellsVw : Tryd.prog.cellsOf 28 = 7 := by kernel_rfl
theorem cellsPh : Tryd.prog.cellsOf 23 = 1 := by kernel_rfl
theorem cellsSL : Tryd.prog.cellsOf 26 = 1 := by kernel_rfl
/-- A list of lanes. -/
theorem lanes_in {sp : Nat → Bool} {fuel : Nat} {v : Value} {x : DataW H × List MemPlace} (h : DataW.trod enc Tryd.prog W 0 sp true fuel 26 [v] = some x) (hL : Lt 26 x.1) :
    ∃ (ra : Option Addr) (l : List Ln) (cap : Nat), v = .slice ra l.length cap ∧ l.length ≤ 281474976710656 ∧ LR W ra l := by
  obtain ⟨ra, l, cap, hv, _, _, hw, b, o, ha, hp⟩ := elems_of (α := Ln) Tryd.underlying26 cellsLn (by decide) (fun b o x => (∃ rr cc, W.cell? ⟨b, o, none⟩ = some (.slice rr x.roots.length cc) ∧ WR W rr x.roots ∧ x.roots.length ≤ 281474976710656) ∧ W.cell? ⟨b, o + 1, none⟩ = some (.bool x.sc) ∧ W.cell? ⟨b, o + 1 + 1, none⟩ = some (.bool x.en)) (fun m cs y b off hcs hy hLy => by
    obtain ⟨xs, n, _, hx, hl, hlen, hf⟩ := DataW.trod_struct Tryd.underlying61 hy
    have hl4 : xs.length = 3 := hlen
    obtain ⟨x0, x1, x2, rfl⟩ : ∃ x0 x1 x2, xs = [x0, x1, x2] := by
      rcases xs with _ | ⟨x0, _ | ⟨x1, _ | ⟨x2, _ | ⟨x3, r⟩⟩⟩⟩
      · cases hl4
      · cases hl4
      · cases hl4
      · exact ⟨x0, x1, x2, rfl⟩
      · simp at hl4
    have h0 : DataW.trod enc Tryd.prog W 0 sp true n 25 ((cs.drop 0).take (Tryd.prog.cellsOf 25)) = some x0 := hf 0 _ rfl
    have h1 : DataW.trod enc Tryd.prog W 0 sp true n 4 ((cs.drop 1).take (Tryd.prog.cellsOf 4)) = some x1 := hf 1 _ rfl
    have h2 : DataW.trod enc Tryd.prog W 0 sp true n 4 ((cs.drop 2).take (Tryd.prog.cellsOf 4)) = some x2 := hf 2 _ rfl
    have hd : y.1 = .agg [x0.1, x1.1, x2.1] := by rw [hx]; rfl
    have hw0 : Lt 25 x0.1 := fun n hn => hLy n (by
      rw [hd]
      simp only [DataW.weights, Tryd.underlying61]
      simp only [List.map_cons, List.map_nil, DataW.weightsEach, List.mem_append]
      exact .inl hn)
    rw [cellsSW] at h0
    rw [cellsBo] at h1 h2
    obtain ⟨v0, hv0⟩ : ∃ v0, (cs.drop 0).take 1 = [v0] := by
      have hc0 : cs.length = 3 := by rw [hl, cellsLn]
      rcases cs with _ | ⟨v0, r⟩
      · cases hc0
      · exact ⟨v0, rfl⟩
    rw [hv0] at h0
    obtain ⟨p1, hp1, _⟩ := DataW.trod_bool Tryd.underlying4 h1
    obtain ⟨p2, hp2, _⟩ := DataW.trod_bool Tryd.underlying4 h2
    obtain ⟨rr, l0, c0', rfl, hl0, w0⟩ := words_of h0 hw0
    have c0 := cells?_cell hcs (i := 0) (by omega)
    have c1 := cells?_cell hcs (i := 1) (by omega)
    have c2 := cells?_cell hcs (i := 2) (by omega)
    rw [take_drop_one hv0] at c0
    rw [take_drop_one hp1] at c1
    rw [take_drop_one hp2] at c2
    exact ⟨⟨l0, p1, p2⟩, ⟨rr, c0', c0, w0, hl0⟩, c1, c2⟩) h hL
  rw [bytesLn] at hw
  unfold reachBytes at hw
  refine ⟨ra, l, cap, hv, by omega, b, o, ha, fun j x hx => ?_⟩
  obtain ⟨⟨rr, cc, h1, h2, h3⟩, h4, h5⟩ := hp j x hx
  exact ⟨lt_of_cell h1, ⟨rr, cc, h1, h2, h3⟩, h4, h5⟩
theorem words_ofc {sp : Nat → Bool} {fuel : Nat} {v : Value} {x : DataW H × List MemPlace} (h : DataW.trod enc Tryd.prog W 0 sp true fuel 25 [v] = some x) (hL : Lt 25 x.1) :
    ∃ (ra : Option Addr) (l : List Int) (cap : Nat), v = .slice ra l.length cap ∧ l.length ≤ 281474976710656 ∧ WR W ra l ∧ l.length ≤ cap := by
  obtain ⟨ra, l, cap, hv, hlc, _, hw, b, o, ha, hp⟩ := elems_of (α := Int) Tryd.underlying25 cellsWd (by decide) (fun b o x => W.cell? ⟨b, o, none⟩ = some (.int .u64 x) ∧ Rng x) (fun m cs y b off hcs hy _ => by
    obtain ⟨n, rfl, _, hwf⟩ := DataW.trod_int Tryd.underlying57 hy
    have c0 := cells?_cell hcs (i := 0) (by omega)
    refine ⟨n, by simpa using c0, ?_⟩
    simp [Lit.wf, IntKind.min, IntKind.max, IntKind.signed, IntKind.bits] at hwf
    unfold Rng; omega) h hL
  rw [bytesWd] at hw
  unfold reachBytes at hw
  refine ⟨ra, l, cap, hv, by omega, ⟨b, o, ha, fun j x hx => ?_⟩, hlc⟩
  obtain ⟨h1, h2⟩ := hp j x hx
  rw [Nat.mul_one] at h1
  exact ⟨lt_of_cell h1, h1, h2⟩
set_option maxRecDepth 100000 in
/-- A view. -/
theorem view_of {sp : Nat → Bool} {v : Value} {d : DataW H} {p : List MemPlace} (hv : ∃ cs, v = .agg cs ∧ cs.size = Tryd.prog.cellsOf 28) (h : DataW.Trod enc Tryd.prog W 0 sp true 28 v d p) (hL : Lt 28 d) :
    ∃ (q : Vp) (x : Vw), v = .agg (q.cells x) ∧ VL W q x ∧ (0 ≤ x.ph ∧ x.ph ≤ 255) ∧ (-9223372036854775808 ≤ x.sw ∧ x.sw ≤ 9223372036854775807) ∧ (-9223372036854775808 ≤ x.laid ∧ x.laid ≤ 9223372036854775807) ∧ (∀ y ∈ x.grey, -9223372036854775808 ≤ y ∧ y ≤ 9223372036854775807) ∧ x.gl.length ≤ q.gc := by
  obtain ⟨cs, rfl, hcs⟩ := hv
  rw [cellsVw] at hcs
  obtain ⟨v0, v1, v2, v3, v4, v5, v6, rfl⟩ : ∃ v0 v1 v2 v3 v4 v5 v6, cs = #[v0, v1, v2, v3, v4, v5, v6] := by
    rcases cs with ⟨_ | ⟨v0, _ | ⟨v1, _ | ⟨v2, _ | ⟨v3, _ | ⟨v4, _ | ⟨v5, _ | ⟨v6, _ | ⟨v7, r⟩⟩⟩⟩⟩⟩⟩⟩⟩
    · cases hcs
    · cases hcs
    · cases hcs
    · cases hcs
    · cases hcs
    · cases hcs
    · cases hcs
    · exact ⟨v0, v1, v2, v3, v4, v5, v6, rfl⟩
    · simp at hcs
  obtain ⟨fuel, hf⟩ := h
  have hf' : DataW.trod enc Tryd.prog W 0 sp true fuel 28 [v0, v1, v2, v3, v4, v5, v6] = some (d, p) := hf
  obtain ⟨xs, m, _, hx, _, hlen, hel⟩ := DataW.trod_struct Tryd.underlying28 hf'
  have hl4 : xs.length = 7 := hlen
  obtain ⟨x0, x1, x2, x3, x4, x5, x6, rfl⟩ : ∃ x0 x1 x2 x3 x4 x5 x6, xs = [x0, x1, x2, x3, x4, x5, x6] := by
    rcases xs with _ | ⟨x0, _ | ⟨x1, _ | ⟨x2, _ | ⟨x3, _ | ⟨x4, _ | ⟨x5, _ | ⟨x6, _ | ⟨x7, r⟩⟩⟩⟩⟩⟩⟩⟩
    · cases hl4
    · cases hl4
    · cases hl4
    · cases hl4
    · cases hl4
    · cases hl4
    · cases hl4
    · exact ⟨x0, x1, x2, x3, x4, x5, x6, rfl⟩
    · simp at hl4
  have f0 : DataW.trod enc Tryd.prog W 0 sp true m 22 (([v0, v1, v2, v3, v4, v5, v6].drop 0).take (Tryd.prog.cellsOf 22)) = some x0 := hel 0 _ rfl
  have f1 : DataW.trod enc Tryd.prog W 0 sp true m 23 (([v0, v1, v2, v3, v4, v5, v6].drop 1).take (Tryd.prog.cellsOf 23)) = some x1 := hel 1 _ rfl
  have f2 : DataW.trod enc Tryd.prog W 0 sp true m 3 (([v0, v1, v2, v3, v4, v5, v6].drop 2).take (Tryd.prog.cellsOf 3)) = some x2 := hel 2 _ rfl
  have f3 : DataW.trod enc Tryd.prog W 0 sp true m 24 (([v0, v1, v2, v3, v4, v5, v6].drop 3).take (Tryd.prog.cellsOf 24)) = some x3 := hel 3 _ rfl
  have f4 : DataW.trod enc Tryd.prog W 0 sp true m 25 (([v0, v1, v2, v3, v4, v5, v6].drop 4).take (Tryd.prog.cellsOf 25)) = some x4 := hel 4 _ rfl
  have f5 : DataW.trod enc Tryd.prog W 0 sp true m 3 (([v0, v1, v2, v3, v4, v5, v6].drop 5).take (Tryd.prog.cellsOf 3)) = some x5 := hel 5 _ rfl
  have f6 : DataW.trod enc Tryd.prog W 0 sp true m 26 (([v0, v1, v2, v3, v4, v5, v6].drop 6).take (Tryd.prog.cellsOf 26)) = some x6 := hel 6 _ rfl
  rw [cellsSC] at f0
  rw [cellsPh] at f1
  rw [cellsI] at f2 f5
  rw [cellsSI] at f3
  rw [cellsSW] at f4
  rw [cellsSL] at f6
  have hd : d = .agg [x0.1, x1.1, x2.1, x3.1, x4.1, x5.1, x6.1] := by cases hx; rfl
  have hw : ∀ n, n ∈ x0.1.weights Tryd.prog 22 ∨ n ∈ x3.1.weights Tryd.prog 24 ∨ n ∈ x4.1.weights Tryd.prog 25 ∨ n ∈ x6.1.weights Tryd.prog 26 → n ≤ reachBytes := fun n hn => hL n (by
    rw [hd]
    simp only [DataW.weights, Tryd.underlying28]
    simp only [List.map_cons, List.map_nil, DataW.weightsEach, List.mem_append]
    rcases hn with hn | hn | hn | hn
    · exact .inl hn
    · exact .inr (.inr (.inr (.inl hn)))
    · exact .inr (.inr (.inr (.inr (.inl hn))))
    · exact .inr (.inr (.inr (.inr (.inr (.inr (.inl hn)))))))
  obtain ⟨n1, hn1, _, hf1⟩ := DataW.trod_int Tryd.underlying23 f1
  obtain ⟨n2, hn2, _, hf2⟩ := DataW.trod_int Tryd.underlying3 f2
  obtain ⟨n5, hn5, _, hf5⟩ := DataW.trod_int Tryd.underlying3 f5
  obtain ⟨r0, l0, c0, rfl, hl0, w0⟩ := cells_in f0 (fun n hn => hw n (.inl hn))
  obtain ⟨r3, l3, c3, rfl, hl3, w3, b3⟩ := ints_in f3 (fun n hn => hw n (.inr (.inl hn)))
  obtain ⟨r4, l4, c4, rfl, hl4', w4, hc4⟩ := words_ofc f4 (fun n hn => hw n (.inr (.inr (.inl hn))))
  obtain ⟨r6, l6, c6, rfl, hl6, w6⟩ := lanes_in f6 (fun n hn => hw n (.inr (.inr (.inr hn))))
  have e1 : v1 = .int .u8 n1 := by simpa using hn1
  have e2 : v2 = .int .i64 n2 := by simpa using hn2
  have e5 : v5 = .int .i64 n5 := by simpa using hn5
  subst e1 e2 e5
  exact ⟨⟨r0, c0, r3, c3, r4, c4, r6, c6⟩, ⟨l0, n1, n2, l3, l4, n5, l6⟩, rfl, ⟨w0, hl0, w3, hl3, w4, hl4', w6, hl6⟩, wf8 hf1, wf64 hf2, wf64 hf5, b3, hc4⟩
end Go.Proofs.YtomdbcddokaagaaDoor

/- The steps that come in. -/
namespace Go.Proofs.YtomdbcddokaagaaDoor
open Go.RowKit Go.WideShapes Go.ChangeShapes

variable {H : Type} {enc : TypeId × Value → H} {W : World}
theorem cellsSt : Tryd.prog.cellsOf 72 = 5 := by kernel_rfl
theorem bytesSt : Tryd.prog.bytesOf 72 = 40 := by kernel_rfl
theorem cellsI3 : Tryd.prog.cellsOf 3 = 1 := by kernel_rfl
set_option maxRecDepth 100000 in
/-- A list of steps. -/
theorem steps_in {sp : Nat → Bool} {base : Nat} {v : Value} {d : DataW H} {p : List MemPlace} (hv : Value.okWide Tryd.prog W .any base 63 v) (h : DataW.Trod enc Tryd.prog W 0 sp true 63 v d p) (hL : Lt 63 d) :
    ∃ (ra : Option Addr) (l : List Sq) (cap : Nat), v = .slice ra l.length cap ∧ SR W ra l ∧ l.length ≤ 281474976710656 := by
  obtain ⟨a0, l0, c0, rfl⟩ := okWide_slice Tryd.underlying63 hv
  obtain ⟨fuel, hf⟩ := h
  have hf' : DataW.trod enc Tryd.prog W 0 sp true fuel 63 [.slice a0 l0 c0] = some (d, p) := hf
  obtain ⟨ra, l, cap, hv, _, _, hw, b, o, ha, hp⟩ := elems_of (α := Sq) Tryd.underlying63 cellsSt (by decide) (fun b o x => W.cell? ⟨b, o, none⟩ = some (.int .i64 x.k) ∧ W.cell? ⟨b, o + 1, none⟩ = some (.int .i64 x.w) ∧ W.cell? ⟨b, o + 2, none⟩ = some (.int .i64 x.a) ∧ W.cell? ⟨b, o + 3, none⟩ = some (.int .i64 x.b) ∧ W.cell? ⟨b, o + 4, none⟩ = some (.int .i64 x.c) ∧ Sml x.k ∧ Sml x.w ∧ Sml x.a ∧ Sml x.b ∧ Sml x.c) (fun m cs y b off hcs hy _ => by
    obtain ⟨xs, n, _, _, hl, hlen, hf⟩ := DataW.trod_struct Tryd.underlying72 hy
    have hl4 : xs.length = 5 := hlen
    obtain ⟨x0, x1, x2, x3, x4, rfl⟩ : ∃ x0 x1 x2 x3 x4, xs = [x0, x1, x2, x3, x4] := by
      rcases xs with _ | ⟨x0, _ | ⟨x1, _ | ⟨x2, _ | ⟨x3, _ | ⟨x4, _ | ⟨x5, r⟩⟩⟩⟩⟩⟩
      · cases hl4
      · cases hl4
      · cases hl4
      · cases hl4
      · cases hl4
      · exact ⟨x0, x1, x2, x3, x4, rfl⟩
      · simp at hl4
    have h0 : DataW.trod enc Tryd.prog W 0 sp true n 3 ((cs.drop 0).take (Tryd.prog.cellsOf 3)) = some x0 := hf 0 _ rfl
    have h1 : DataW.trod enc Tryd.prog W 0 sp true n 3 ((cs.drop 1).take (Tryd.prog.cellsOf 3)) = some x1 := hf 1 _ rfl
    have h2 : DataW.trod enc Tryd.prog W 0 sp true n 3 ((cs.drop 2).take (Tryd.prog.cellsOf 3)) = some x2 := hf 2 _ rfl
    have h3 : DataW.trod enc Tryd.prog W 0 sp true n 3 ((cs.drop 3).take (Tryd.prog.cellsOf 3)) = some x3 := hf 3 _ rfl
    have h4 : DataW.trod enc Tryd.prog W 0 sp true n 3 ((cs.drop 4).take (Tryd.prog.cellsOf 3)) = some x4 := hf 4 _ rfl
    obtain ⟨p0, hp0, _, w0⟩ := DataW.trod_int Tryd.underlying3 h0
    obtain ⟨p1, hp1, _, w1⟩ := DataW.trod_int Tryd.underlying3 h1
    obtain ⟨p2, hp2, _, w2⟩ := DataW.trod_int Tryd.underlying3 h2
    obtain ⟨p3, hp3, _, w3⟩ := DataW.trod_int Tryd.underlying3 h3
    obtain ⟨p4, hp4, _, w4⟩ := DataW.trod_int Tryd.underlying3 h4
    rw [cellsI3] at hp0 hp1 hp2 hp3 hp4
    have c0 := cells?_cell hcs (i := 0) (by omega)
    have c1 := cells?_cell hcs (i := 1) (by omega)
    have c2 := cells?_cell hcs (i := 2) (by omega)
    have c3 := cells?_cell hcs (i := 3) (by omega)
    have c4 := cells?_cell hcs (i := 4) (by omega)
    rw [take_drop_one hp0] at c0
    rw [take_drop_one hp1] at c1
    rw [take_drop_one hp2] at c2
    rw [take_drop_one hp3] at c3
    rw [take_drop_one hp4] at c4
    exact ⟨⟨p0, p1, p2, p3, p4⟩, c0, c1, c2, c3, c4, wf64 w0, wf64 w1, wf64 w2, wf64 w3, wf64 w4⟩) hf' hL
  rw [bytesSt] at hw
  unfold reachBytes at hw
  refine ⟨ra, l, cap, hv, ⟨b, o, ha, fun j x hx => ?_⟩, by omega⟩
  have h1 := hp j x hx
  exact ⟨lt_of_cell h1.1, h1⟩
end Go.Proofs.YtomdbcddokaagaaDoor
