/- What the row's list gives, and what a law's walk gives the row.; What comes in gives a walk: heaps, words, numbers. -/
import Derived.Test.YtdcmkifljcdmmaaGreatDoorGA
import Derived.Test.YtdcmkifljcdmmaaGreatDoorHGSame
import Derived.Test.YtdcmkifljcdmmaaGreatDoorRows
import Derived.Lib.LaidTab
import Derived.ProofKit
import Derived.OpenShut
import Derived.LaidMore
import Derived.Carry
import Derived.ChangeArms
import Derived.SizedLaws
/- What the row's list gives, and what a law's walk gives the row. -/
namespace Go.Proofs.YtdcmkifljcdmmaaGreatDoor
open Go.ChangeShapes Go.WideShapes Go.ChangeAt Go.RowKit

theorem belowTrodAll {H : Type} {enc : TypeId × Value → H} {P : Program} (hl : laidOutB P = true) {W W' : World} (hb : Below W.heap.size W W') :
    ∀ {ts : List TypeId} {vs : List Value} {ds : List (DataW H)} {ps : List MemPlace}, (∀ t ∈ ts, P.readableRec t = true ∧ t < P.types.size) →
      DataW.TrodAll enc P W 0 (fun _ => true) true ts vs ds ps → (∀ x ∈ ps, x.block < W.heap.size) → DataW.TrodAll enc P W' 0 (fun b => decide (b < W.heap.size)) true ts vs ds ps
  | [], [], [], _, _, h, _ => h
  | [], [], _ :: _, _, _, h, _ => h.elim
  | [], _ :: _, _, _, _, h, _ => h.elim
  | _ :: _, [], _, _, _, h, _ => h.elim
  | _ :: _, _ :: _, [], _, _, h, _ => h.elim
  | t :: ts, v :: vs, d :: ds, ps, hr, h, hlt => by
    obtain ⟨p, q, h1, h2, rfl⟩ := h
    have h0 := hr t (List.mem_cons_self ..)
    exact ⟨p, q, Below.trod hl h0.1 h0.2 h1 hb (fun x hx => hlt x (List.mem_append_left _ hx)),
      belowTrodAll hl hb (fun u hu => hr u (List.mem_cons_of_mem _ hu)) h2 (fun x hx => hlt x (List.mem_append_right _ hx)), rfl⟩

theorem law_post {H : Type} {enc : TypeId × Value → H} {P : Program} {f : Func} {s : ChangeSpec} {W W' : World} {args : Array Value} {ds gs : List (DataW H)} {before : List MemPlace} {tb : TypeId}
    (hl : laidOutB P = true) (hr : (f.params.toList.all fun t => P.readableRec t && decide (t < P.types.size)) = true) (hvars : s.vars = [])
    (hrt : f.resultTypes = #[tb]) (hub : P.underlying tb = some .bool)
    (hres : (s.fn H (ds ++ gs)).results = [.lit (.bool true)]) (hargs : (s.fn H (ds ++ gs)).args = ds) (hvs : (s.fn H (ds ++ gs)).vars = [])
    (hW : DataW.Whole enc P f.params.toList s.vars false W args.toList ds gs before) (hb : Below W.heap.size W W') :
    s.post enc P f false true false false W args (.bool true) W' := by
  have hW' := hW
  have hlt := hW.lt
  obtain ⟨p, q, hA, hV, rfl, hfz, hnd⟩ := hW
  have hr' : ∀ t ∈ f.params.toList, P.readableRec t = true ∧ t < P.types.size := fun t ht => by
    have := List.all_eq_true.1 hr t ht
    simpa using this
  refine ⟨ds, gs, p ++ q, [], p, [], hW', ?_, ?_, ?_, hb.frame _, fun h => by cases h⟩
  · rw [hres, hrt]
    exact trodAll_cons_mk (shut_bool hub _) trodAll_mk0
  · rw [hargs]
    exact belowTrodAll hl hb hr' hA (fun x hx => hlt x (List.mem_append_left _ hx))
  · rw [hvs, hvars]; rfl

theorem gTab : Tryz.prog.globalNamed "dapple/words.bounds" = some 0 := by kernel_rfl
theorem gTabType : (Tryz.prog.globals[0]?).map (·.type) = some 178 := by kernel_rfl
theorem cellsRg : Tryz.prog.cellsOf 177 = 2 := by kernel_rfl
theorem cells2 : Tryz.prog.cellsOf 2 = 1 := by kernel_rfl
theorem tab_of {W : World} {rest : List (String × DataW Unit)} (h : laidMet Tryz.prog (("dapple/words.bounds", Rows.laid_dapple_words_bounds) :: rest) W) : Tab W := by
  obtain ⟨ps, ⟨g0, t0, cs0, f0, p0, q0, hg0, ht0, hv0, hd0, _, _⟩, _⟩ := h
  obtain rfl := Option.some.inj (gTab.symm.trans hg0)
  obtain rfl := Option.some.inj (gTabType.symm.trans ht0)
  obtain ⟨xs, m1, rfl, hx1, hlen, hn9, hel⟩ := DataW.trod_array Tryz.underlying178 hd0
  simp only [Prod.mk.injEq, Rows.laid_dapple_words_bounds, DataW.agg.injEq] at hx1
  obtain ⟨hx1, _⟩ := hx1
  intro t ht
  have hx := hel t ht
  have hy : (xs.map (·.1))[t]? = some (.agg [.lit (.int .i64 (lo t)), .lit (.int .i64 (hi t))]) := by
    rw [← hx1]
    have hd : t = 0 ∨ t = 1 ∨ t = 2 ∨ t = 3 ∨ t = 4 ∨ t = 5 ∨ t = 6 ∨ t = 7 ∨ t = 8 := by omega
    rcases hd with rfl | rfl | rfl | rfl | rfl | rfl | rfl | rfl | rfl <;> rfl
  rw [List.getElem?_map] at hy
  obtain ⟨y, hy1, hy2⟩ := Option.map_eq_some_iff.1 hy
  rw [hy1, cellsRg] at hx
  obtain ⟨y0, y1, n, rfl, hl, h0, h1⟩ := trod_struct2 Tryz.underlying177 hx
  simp only [DataW.agg.injEq, List.cons.injEq, and_true] at hy2
  obtain ⟨e0, e1⟩ := hy2
  obtain ⟨a, ha, rfl, _⟩ := DataW.trod_int Tryz.underlying2 h0
  obtain ⟨b, hb, rfl, _⟩ := DataW.trod_int Tryz.underlying2 h1
  simp only [DataW.lit.injEq, Lit.int.injEq, true_and] at e0 e1
  subst e0 e1
  rw [cells2] at ha hb
  have c0 := World.var?_cell hg0 hv0 (t * 2)
  have c1 := World.var?_cell hg0 hv0 (t * 2 + 1)
  have a0 := congrArg (fun l : List Value => l[0]?) ha
  have b0 := congrArg (fun l : List Value => l[0]?) hb
  simp [List.getElem?_drop] at a0 b0
  rw [c0, c1]
  exact ⟨a0, b0⟩
theorem tab_all {W : World} (h : laidMetH Tryz.prog [("dapple/words.bounds", Rows.laid_dapple_words_bounds)] W) : Tab W := by
  rw [MakeChecks.laidMetH_plain _ _ _ (by kernel_rfl)] at h
  exact tab_of h
end Go.Proofs.YtdcmkifljcdmmaaGreatDoor

/- What comes in gives a walk: heaps, words, numbers. -/
namespace Go.Proofs.YtdcmkifljcdmmaaGreatDoor
open Go.ChangeShapes Go.WideShapes Go.ChangeAt Go.RowKit

theorem cells?_cell {W : World} {b off n i : Nat} {cs : List Value} (h : W.cells? 0 ⟨b, off, none⟩ n = some cs) (hi : i < n) : W.cell? ⟨b, off + i, none⟩ = cs[i]? := by
  unfold World.cells? at h
  rw [if_pos (Nat.zero_le _)] at h
  obtain ⟨v, hv, hc⟩ := Lib.mapM_at h i i (by simp [hi])
  rw [add_plain] at hc
  rw [hv, hc]
variable {H : Type} {enc : TypeId × Value → H} {W : World}
/-- All weights lie within the reach. -/
def Lt (t : TypeId) (d : DataW H) : Prop := ∀ n ∈ d.weights Tryz.prog t, n ≤ reachBytes
theorem wAll_mem {e : TypeId} : ∀ {l : List (DataW H)} {d : DataW H}, d ∈ l → ∀ n ∈ d.weights Tryz.prog e, n ∈ DataW.weightsAll Tryz.prog e l
  | x :: l, d, hd, n, hn => by
    simp only [DataW.weightsAll, List.mem_append]
    rcases List.mem_cons.1 hd with rfl | h
    · exact .inl hn
    · exact .inr (wAll_mem h n hn)
theorem elems_of {α : Type} {T e sz : Nat} (hT : Tryz.prog.underlying T = some (.slice e)) (hc : Tryz.prog.cellsOf e = sz) (hz : 0 < sz) (P : Nat → Nat → α → Prop) {sp : Nat → Bool}
    (hel : ∀ (m : Nat) (cs : List Value) (y : DataW H × List MemPlace) (b off : Nat), W.cells? 0 ⟨b, off, none⟩ sz = some cs → DataW.trod enc Tryz.prog W 0 sp true m e cs = some y → Lt e y.1 → ∃ a : α, P b off a)
    {fuel : Nat} {v : Value} {x : DataW H × List MemPlace} (h : DataW.trod enc Tryz.prog W 0 sp true fuel T [v] = some x) (hL : Lt T x.1) :
    ∃ (ra : Option Addr) (l : List α) (cap : Nat), v = .slice ra l.length cap ∧ l.length ≤ cap ∧ cap ≤ maxLen ∧ l.length * Tryz.prog.bytesOf e ≤ reachBytes ∧ ∃ b o, (l.length = 0 ∨ ra = some ⟨b, o, none⟩) ∧ ∀ (j : Nat) (a : α), l[j]? = some a → P b (o + j * sz) a := by
  rcases DataW.trod_slice hT h with ⟨hv, _⟩ | ⟨a, len, cap, elems, rest, n, hn, hv, hx, _, hl, hm, hlen, hell, _⟩
  · cases hv
    exact ⟨none, [], 0, rfl, Nat.le_refl _, Nat.zero_le _, by simp, 0, 0, .inl rfl, fun j a h => (by simp at h)⟩
  · cases hv
    rw [hc] at hell
    have hw : len * Tryz.prog.bytesOf e ≤ reachBytes := by
      have := hL ((elems.map (·.1)).length * Tryz.prog.bytesOf e + (rest.map (·.1)).length * Tryz.prog.bytesOf e) (by rw [hx]; simp only [DataW.weights, hT, List.mem_cons]; left; rw [Nat.add_mul])
      simp only [List.length_map] at this
      rw [hlen] at this; omega
    by_cases h0 : len = 0
    · subst h0
      exact ⟨_, [], cap, rfl, Nat.zero_le _, hm, by simp, 0, 0, .inl rfl, fun j a h => (by simp at h)⟩
    · have e0 := hell 0 (by omega)
      obtain ⟨y0, hy0⟩ : ∃ y, elems[0]? = some y := ⟨_, List.getElem?_eq_getElem (by omega)⟩
      rw [hy0, Option.bind_eq_some_iff] at e0
      obtain ⟨cs0, hcs0, _⟩ := e0
      obtain ⟨b, off, spot⟩ := a
      have hspot : spot = none := by
        unfold World.cells? at hcs0
        rw [if_pos (Nat.zero_le _)] at hcs0
        obtain ⟨u, _, hu⟩ := Lib.mapM_at hcs0 0 0 (by simp [hz])
        simpa [Addr.add] using World.cell?_spot hu
      subst hspot
      have hone : ∀ i, i < len → ∃ a : α, P b (off + i * sz) a := fun i hi => by
        have h1 := hell i hi
        have h2 : elems[i]? = some (elems[i]'(by omega)) := List.getElem?_eq_getElem _
        rw [h2, Option.bind_eq_some_iff] at h1
        obtain ⟨cs, hcs, hy⟩ := h1
        rw [add_plain] at hcs
        refine hel n cs _ b (off + i * sz) hcs hy (fun k hk => hL k ?_)
        rw [hx]
        simp only [DataW.weights, hT, List.mem_cons, List.mem_append]
        exact .inr (.inl (wAll_mem (List.mem_map.2 ⟨elems[i]'(by omega), List.getElem_mem _, rfl⟩) k hk))
      have hrow : ∀ (j i : Nat), i + j = len → ∃ l : List α, l.length = j ∧ ∀ (k : Nat) (a : α), l[k]? = some a → P b (off + (i + k) * sz) a := by
        intro j
        induction j with
        | zero => intro i _; exact ⟨[], rfl, fun k a h => (by simp at h)⟩
        | succ j ih =>
          intro i hij
          obtain ⟨l, h1, h2⟩ := ih (i + 1) (by omega)
          obtain ⟨a, ha⟩ := hone i (by omega)
          refine ⟨a :: l, by simp [h1], fun k x hk => ?_⟩
          cases k with
          | zero => simp at hk; subst hk; simpa using ha
          | succ k => have := h2 k x (by simpa using hk); rwa [show i + 1 + k = i + (k + 1) by omega] at this
      obtain ⟨l, h1, h2⟩ := hrow len 0 (by omega)
      subst h1
      exact ⟨_, l, cap, rfl, hl, hm, hw, b, off, .inr rfl, fun j a h => by have := h2 j a h; rwa [Nat.zero_add] at this⟩
theorem cellsWd : Tryz.prog.cellsOf 53 = 1 := by kernel_rfl
theorem cellsCl : Tryz.prog.cellsOf 55 = 4 := by kernel_rfl
theorem cellsKi : Tryz.prog.cellsOf 50 = 1 := by kernel_rfl
theorem cellsCo : Tryz.prog.cellsOf 51 = 1 := by kernel_rfl
theorem cellsI : Tryz.prog.cellsOf 3 = 1 := by kernel_rfl
theorem bytesWd : Tryz.prog.bytesOf 53 = 8 := by kernel_rfl
theorem bytesCl : Tryz.prog.bytesOf 55 = 24 := by kernel_rfl
theorem bytesI : Tryz.prog.bytesOf 3 = 8 := by kernel_rfl
theorem lt_of_cell {b o : Nat} {v : Value} (h : W.cell? ⟨b, o, none⟩ = some v) : b < W.heap.size := by
  rcases Nat.lt_or_ge b W.heap.size with h' | h'
  · exact h'
  · simp [World.cell?, Array.getElem?_eq_none h'] at h
/-- A list of words. -/
theorem words_of {sp : Nat → Bool} {fuel : Nat} {v : Value} {x : DataW H × List MemPlace} (h : DataW.trod enc Tryz.prog W 0 sp true fuel 23 [v] = some x) (hL : Lt 23 x.1) :
    ∃ (ra : Option Addr) (l : List Int) (cap : Nat), v = .slice ra l.length cap ∧ l.length ≤ 281474976710656 ∧ WR W ra l := by
  obtain ⟨ra, l, cap, hv, _, _, hw, b, o, ha, hp⟩ := elems_of (α := Int) Tryz.underlying23 cellsWd (by decide) (fun b o x => W.cell? ⟨b, o, none⟩ = some (.int .u64 x) ∧ Rng x) (fun m cs y b off hcs hy _ => by
    obtain ⟨n, rfl, _, hwf⟩ := DataW.trod_int Tryz.underlying53 hy
    have c0 := cells?_cell hcs (i := 0) (by omega)
    refine ⟨n, by simpa using c0, ?_⟩
    simp [Lit.wf, IntKind.min, IntKind.max, IntKind.signed, IntKind.bits] at hwf
    unfold Rng; omega) h hL
  rw [bytesWd] at hw
  unfold reachBytes at hw
  refine ⟨ra, l, cap, hv, by omega, b, o, ha, fun j x hx => ?_⟩
  obtain ⟨h1, h2⟩ := hp j x hx
  rw [Nat.mul_one] at h1
  exact ⟨lt_of_cell h1, h1, h2⟩
theorem take_drop_one {cs : List Value} {i : Nat} {v : Value} (h : (cs.drop i).take 1 = [v]) : cs[i]? = some v := by
  have := congrArg (·[0]?) h
  simpa [List.getElem?_take, List.getElem?_drop] using this
theorem wf8 {n : Int} (h : (Lit.int .u8 n).wf = true) : 0 ≤ n ∧ n ≤ 255 := by
  simp [Lit.wf, IntKind.min, IntKind.max, IntKind.signed, IntKind.bits] at h
  omega
theorem wf64 {n : Int} (h : (Lit.int .i64 n).wf = true) : -9223372036854775808 ≤ n ∧ n ≤ 9223372036854775807 := by
  simp [Lit.wf, IntKind.min, IntKind.max, IntKind.signed, IntKind.bits] at h
  omega
theorem wfW {n : Int} (hwf : (Lit.int .u64 n).wf = true) : Rng n := by
  simp [Lit.wf, IntKind.min, IntKind.max, IntKind.signed, IntKind.bits] at hwf
  unfold Rng; omega
/-- A list of numbers. -/
theorem ints_in {sp : Nat → Bool} {fuel : Nat} {v : Value} {x : DataW H × List MemPlace} (h : DataW.trod enc Tryz.prog W 0 sp true fuel 59 [v] = some x) (hL : Lt 59 x.1) :
    ∃ (ra : Option Addr) (l : List Int) (cap : Nat), v = .slice ra l.length cap ∧ l.length ≤ 281474976710656 ∧ RX (Value.int .i64) W ra l ∧ ∀ x ∈ l, -9223372036854775808 ≤ x ∧ x ≤ 9223372036854775807 := by
  obtain ⟨ra, l, cap, hv, _, _, hw, b, o, ha, hp⟩ := elems_of (α := Int) Tryz.underlying59 cellsI (by decide) (fun b o x => W.cell? ⟨b, o, none⟩ = some (.int .i64 x) ∧ (-9223372036854775808 ≤ x ∧ x ≤ 9223372036854775807)) (fun m cs y b off hcs hy _ => by
    obtain ⟨n, rfl, _, hwf⟩ := DataW.trod_int Tryz.underlying3 hy
    have c0 := cells?_cell hcs (i := 0) (by omega)
    exact ⟨n, by simpa using c0, wf64 hwf⟩) h hL
  rw [bytesI] at hw
  unfold reachBytes at hw
  refine ⟨ra, l, cap, hv, by omega, ⟨b, o, ha, fun j x hx => ?_⟩, fun x hx => ?_⟩
  · obtain ⟨h1, h2⟩ := hp j x hx
    rw [Nat.mul_one] at h1
    exact ⟨lt_of_cell h1, h1⟩
  · obtain ⟨j, hj⟩ := List.getElem?_of_mem hx
    exact (hp j x hj).2
/-- A list of cells. -/
theorem cells_in {sp : Nat → Bool} {fuel : Nat} {v : Value} {x : DataW H × List MemPlace} (h : DataW.trod enc Tryz.prog W 0 sp true fuel 22 [v] = some x) (hL : Lt 22 x.1) :
    ∃ (ra : Option Addr) (l : List Cl) (cap : Nat), v = .slice ra l.length cap ∧ l.length ≤ 281474976710656 ∧ HR W ra l := by
  obtain ⟨ra, l, cap, hv, _, _, hw, b, o, ha, hp⟩ := elems_of (α := Cl) Tryz.underlying22 cellsCl (by decide) (fun b o x => (W.cell? ⟨b, o, none⟩ = some (.int .u8 x.k) ∧ W.cell? ⟨b, o + 1, none⟩ = some (.int .u8 x.c) ∧ W.cell? ⟨b, o + 1 + 1, none⟩ = some (.int .u64 x.a) ∧ W.cell? ⟨b, o + 1 + 1 + 1, none⟩ = some (.int .u64 x.b)) ∧ OkK x) (fun m cs y b off hcs hy _ => by
    obtain ⟨xs, n, _, _, hl, hlen, hf⟩ := DataW.trod_struct Tryz.underlying55 hy
    have hl4 : xs.length = 4 := hlen
    obtain ⟨x0, x1, x2, x3, rfl⟩ : ∃ x0 x1 x2 x3, xs = [x0, x1, x2, x3] := by
      rcases xs with _ | ⟨x0, _ | ⟨x1, _ | ⟨x2, _ | ⟨x3, _ | ⟨x4, r⟩⟩⟩⟩⟩
      · cases hl4
      · cases hl4
      · cases hl4
      · cases hl4
      · exact ⟨x0, x1, x2, x3, rfl⟩
      · simp at hl4
    have h0 : DataW.trod enc Tryz.prog W 0 sp true n 50 ((cs.drop 0).take (Tryz.prog.cellsOf 50)) = some x0 := hf 0 _ rfl
    have h1 : DataW.trod enc Tryz.prog W 0 sp true n 51 ((cs.drop 1).take (Tryz.prog.cellsOf 51)) = some x1 := hf 1 _ rfl
    have h2 : DataW.trod enc Tryz.prog W 0 sp true n 53 ((cs.drop 2).take (Tryz.prog.cellsOf 53)) = some x2 := hf 2 _ rfl
    have h3 : DataW.trod enc Tryz.prog W 0 sp true n 53 ((cs.drop 3).take (Tryz.prog.cellsOf 53)) = some x3 := hf 3 _ rfl
    obtain ⟨p0, hp0, _, hw0⟩ := DataW.trod_int Tryz.underlying50 h0
    obtain ⟨p1, hp1, _, hw1⟩ := DataW.trod_int Tryz.underlying51 h1
    obtain ⟨p2, hp2, _, hw2⟩ := DataW.trod_int Tryz.underlying53 h2
    obtain ⟨p3, hp3, _, hw3⟩ := DataW.trod_int Tryz.underlying53 h3
    rw [cellsKi] at hp0
    rw [cellsCo] at hp1
    rw [cellsWd] at hp2 hp3
    have c0 := cells?_cell hcs (i := 0) (by omega)
    have c1 := cells?_cell hcs (i := 1) (by omega)
    have c2 := cells?_cell hcs (i := 2) (by omega)
    have c3 := cells?_cell hcs (i := 3) (by omega)
    rw [take_drop_one hp0] at c0
    rw [take_drop_one hp1] at c1
    rw [take_drop_one hp2] at c2
    rw [take_drop_one hp3] at c3
    exact ⟨⟨p0, p1, p2, p3⟩, ⟨c0, c1, c2, c3⟩, ⟨wf8 hw0, wf8 hw1, wfW hw2, wfW hw3⟩⟩) h hL
  rw [bytesCl] at hw
  unfold reachBytes at hw
  refine ⟨ra, l, cap, hv, by omega, ⟨b, o, ha, fun j x hx => ?_⟩⟩
  obtain ⟨h1, h2⟩ := hp j x hx
  exact ⟨lt_of_cell h1.1, h1, h2⟩
theorem lt_sized {ts : List TypeId} {ds : List (DataW H)} (h : (DataW.weightsEach Tryz.prog ts ds).all (· ≤ reachBytes) = true) {j : Nat} {t : TypeId} {d : DataW H} (ht : ts[j]? = some t) (hd : ds[j]? = some d) : Lt t d :=
  fun n hn => of_decide_eq_true (List.all_eq_true.1 h n (DataW.weights_mem_each ht hd n hn))
theorem cells_of2 {sp : Nat → Bool} {v : Value} {d : DataW H} {p : List MemPlace} (h : DataW.Trod enc Tryz.prog W 0 sp true 22 v d p) (hv : ∃ ra n c, v = .slice ra n c) (hL : Lt 22 d) : ∃ (ra : Option Addr) (l : List Cl) (cap : Nat), v = .slice ra l.length cap ∧ l.length ≤ 281474976710656 ∧ HR W ra l := by
  obtain ⟨ra, n, c, rfl⟩ := hv
  obtain ⟨fuel, hf⟩ := h
  exact cells_in hf hL
theorem words_of2 {sp : Nat → Bool} {v : Value} {d : DataW H} {p : List MemPlace} (h : DataW.Trod enc Tryz.prog W 0 sp true 23 v d p) (hv : ∃ ra n c, v = .slice ra n c) (hL : Lt 23 d) : ∃ (ra : Option Addr) (l : List Int) (cap : Nat), v = .slice ra l.length cap ∧ l.length ≤ 281474976710656 ∧ WR W ra l := by
  obtain ⟨ra, n, c, rfl⟩ := hv
  obtain ⟨fuel, hf⟩ := h
  exact words_of hf hL
end Go.Proofs.YtdcmkifljcdmmaaGreatDoor
