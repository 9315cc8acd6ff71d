/- What code that comes in gives a walk.; What code that comes in gives a walk: instructions, procedures, code.; What code that comes in gives a walk. -/
import Derived.Test.YtpkohocjgnodnaaGreatDoorGAC
import Derived.Test.YtpkohocjgnodnaaGreatDoorGAR
import Derived.Test.YtpkohocjgnodnaaGreatDoorHLaw
import Derived.ChangeArms
import Derived.SizedLaws
import Derived.ChangeSame
/- What code that comes in gives a walk. -/
namespace Go.Proofs.YtpkohocjgnodnaaGreatDoor
open Go.ChangeShapes Go.WideShapes Go.ChangeAt Go.RowKit

theorem cells?_cell {W : World} {b off n i : Nat} {cs : List Value} (h : W.cells? 0 ⟨b, off, none⟩ n = some cs) (hi : i < n) : W.cell? ⟨b, off + i, none⟩ = cs[i]? := by
  unfold World.cells? at h
  rw [if_pos (Nat.zero_le _)] at h
  obtain ⟨v, hv, hc⟩ := Lib.mapM_at h i i (by simp [hi])
  rw [add_plain] at hc
  rw [hv, hc]
variable {H : Type} {enc : TypeId × Value → H} {W : World}
/-- All weights lie within the reach. -/
def Lt (t : TypeId) (d : DataW H) : Prop := ∀ n ∈ d.weights Tryz.prog t, n ≤ reachBytes
theorem wAll_mem {e : TypeId} : ∀ {l : List (DataW H)} {d : DataW H}, d ∈ l → ∀ n ∈ d.weights Tryz.prog e, n ∈ DataW.weightsAll Tryz.prog e l
  | x :: l, d, hd, n, hn => by
    simp only [DataW.weightsAll, List.mem_append]
    rcases List.mem_cons.1 hd with rfl | h
    · exact .inl hn
    · exact .inr (wAll_mem h n hn)
theorem elems_of {α : Type} {T e sz : Nat} (hT : Tryz.prog.underlying T = some (.slice e)) (hc : Tryz.prog.cellsOf e = sz) (hz : 0 < sz) (P : Nat → Nat → α → Prop) {sp : Nat → Bool}
    (hel : ∀ (m : Nat) (cs : List Value) (y : DataW H × List MemPlace) (b off : Nat), W.cells? 0 ⟨b, off, none⟩ sz = some cs → DataW.trod enc Tryz.prog W 0 sp true m e cs = some y → Lt e y.1 → ∃ a : α, P b off a)
    {fuel : Nat} {v : Value} {x : DataW H × List MemPlace} (h : DataW.trod enc Tryz.prog W 0 sp true fuel T [v] = some x) (hL : Lt T x.1) :
    ∃ (ra : Option Addr) (l : List α) (cap : Nat), v = .slice ra l.length cap ∧ l.length ≤ cap ∧ cap ≤ maxLen ∧ l.length * Tryz.prog.bytesOf e ≤ reachBytes ∧ ∃ b o, (l.length = 0 ∨ ra = some ⟨b, o, none⟩) ∧ ∀ (j : Nat) (a : α), l[j]? = some a → P b (o + j * sz) a := by
  rcases DataW.trod_slice hT h with ⟨hv, _⟩ | ⟨a, len, cap, elems, rest, n, hn, hv, hx, _, hl, hm, hlen, hell, _⟩
  · cases hv
    exact ⟨none, [], 0, rfl, Nat.le_refl _, Nat.zero_le _, by simp, 0, 0, .inl rfl, fun j a h => (by simp at h)⟩
  · cases hv
    rw [hc] at hell
    have hw : len * Tryz.prog.bytesOf e ≤ reachBytes := by
      have := hL ((elems.map (·.1)).length * Tryz.prog.bytesOf e + (rest.map (·.1)).length * Tryz.prog.bytesOf e) (by rw [hx]; simp only [DataW.weights, hT, List.mem_cons]; left; rw [Nat.add_mul])
      simp only [List.length_map] at this
      rw [hlen] at this; omega
    by_cases h0 : len = 0
    · subst h0
      exact ⟨_, [], cap, rfl, Nat.zero_le _, hm, by simp, 0, 0, .inl rfl, fun j a h => (by simp at h)⟩
    · have e0 := hell 0 (by omega)
      obtain ⟨y0, hy0⟩ : ∃ y, elems[0]? = some y := ⟨_, List.getElem?_eq_getElem (by omega)⟩
      rw [hy0, Option.bind_eq_some_iff] at e0
      obtain ⟨cs0, hcs0, _⟩ := e0
      obtain ⟨b, off, spot⟩ := a
      have hspot : spot = none := by
        unfold World.cells? at hcs0
        rw [if_pos (Nat.zero_le _)] at hcs0
        obtain ⟨u, _, hu⟩ := Lib.mapM_at hcs0 0 0 (by simp [hz])
        simpa [Addr.add] using World.cell?_spot hu
      subst hspot
      have hone : ∀ i, i < len → ∃ a : α, P b (off + i * sz) a := fun i hi => by
        have h1 := hell i hi
        have h2 : elems[i]? = some (elems[i]'(by omega)) := List.getElem?_eq_getElem _
        rw [h2, Option.bind_eq_some_iff] at h1
        obtain ⟨cs, hcs, hy⟩ := h1
        rw [add_plain] at hcs
        refine hel n cs _ b (off + i * sz) hcs hy (fun k hk => hL k ?_)
        rw [hx]
        simp only [DataW.weights, hT, List.mem_cons, List.mem_append]
        exact .inr (.inl (wAll_mem (List.mem_map.2 ⟨elems[i]'(by omega), List.getElem_mem _, rfl⟩) k hk))
      have hrow : ∀ (j i : Nat), i + j = len → ∃ l : List α, l.length = j ∧ ∀ (k : Nat) (a : α), l[k]? = some a → P b (off + (i + k) * sz) a := by
        intro j
        induction j with
        | zero => intro i _; exact ⟨[], rfl, fun k a h => (by simp at h)⟩
        | succ j ih =>
          intro i hij
          obtain ⟨l, h1, h2⟩ := ih (i + 1) (by omega)
          obtain ⟨a, ha⟩ := hone i (by omega)
          refine ⟨a :: l, by simp [h1], fun k x hk => ?_⟩
          cases k with
          | zero => simp at hk; subst hk; simpa using ha
          | succ k => have := h2 k x (by simpa using hk); rwa [show i + 1 + k = i + (k + 1) by omega] at this
      obtain ⟨l, h1, h2⟩ := hrow len 0 (by omega)
      subst h1
      exact ⟨_, l, cap, rfl, hl, hm, hw, b, off, .inr rfl, fun j a h => by have := h2 j a h; rwa [Nat.zero_add] at this⟩
theorem cellsWd : Tryz.prog.cellsOf 70 = 1 := by kernel_rfl
theorem cellsIn : Tryz.prog.cellsOf 79 = 2 := by kernel_rfl
theorem cellsOp : Tryz.prog.cellsOf 77 = 1 := by kernel_rfl
theorem cellsPr : Tryz.prog.cellsOf 64 = 2 := by kernel_rfl
theorem bytesWd : Tryz.prog.bytesOf 70 = 8 := by kernel_rfl
theorem bytesIn : Tryz.prog.bytesOf 79 = 16 := by kernel_rfl
theorem bytesPr : Tryz.prog.bytesOf 64 = 32 := by kernel_rfl
theorem bytesSt : Tryz.prog.bytesOf 9 = 16 := by kernel_rfl
theorem lt_of_cell {b o : Nat} {v : Value} (h : W.cell? ⟨b, o, none⟩ = some v) : b < W.heap.size := by
  rcases Nat.lt_or_ge b W.heap.size with h' | h'
  · exact h'
  · simp [World.cell?, Array.getElem?_eq_none h'] at h
/-- A list of words. -/
theorem words_of {sp : Nat → Bool} {fuel : Nat} {v : Value} {x : DataW H × List MemPlace} (h : DataW.trod enc Tryz.prog W 0 sp true fuel 22 [v] = some x) (hL : Lt 22 x.1) :
    ∃ (ra : Option Addr) (l : List Int) (cap : Nat), v = .slice ra l.length cap ∧ l.length ≤ 281474976710656 ∧ WR W ra l := by
  obtain ⟨ra, l, cap, hv, _, _, hw, b, o, ha, hp⟩ := elems_of (α := Int) Tryz.underlying22 cellsWd (by decide) (fun b o x => W.cell? ⟨b, o, none⟩ = some (.int .u64 x) ∧ Rng x) (fun m cs y b off hcs hy _ => by
    obtain ⟨n, rfl, _, hwf⟩ := DataW.trod_int Tryz.underlying70 hy
    have c0 := cells?_cell hcs (i := 0) (by omega)
    refine ⟨n, by simpa using c0, ?_⟩
    simp [Lit.wf, IntKind.min, IntKind.max, IntKind.signed, IntKind.bits] at hwf
    unfold Rng; omega) h hL
  rw [bytesWd] at hw
  unfold reachBytes at hw
  refine ⟨ra, l, cap, hv, by omega, b, o, ha, fun j x hx => ?_⟩
  obtain ⟨h1, h2⟩ := hp j x hx
  rw [Nat.mul_one] at h1
  exact ⟨lt_of_cell h1, h1, h2⟩
/-- A list of texts. -/
theorem texts_of {sp : Nat → Bool} {fuel : Nat} {v : Value} {x : DataW H × List MemPlace} (h : DataW.trod enc Tryz.prog W 0 sp true fuel 24 [v] = some x) (hL : Lt 24 x.1) :
    ∃ (ra : Option Addr) (l : List (List UInt8)) (cap : Nat), v = .slice ra l.length cap ∧ l.length ≤ cap ∧ l.length ≤ 281474976710656 ∧ XR W ra l ∧ ∀ t ∈ l, t.length ≤ 281474976710656 := by
  obtain ⟨ra, l, cap, hv, hcap, _, hw, b, o, ha, hp⟩ := elems_of (α := List UInt8) Tryz.underlying24 cells9 (by decide) (fun b o x => W.cell? ⟨b, o, none⟩ = some (S x) ∧ x.length ≤ reachBytes) (fun m cs y b off hcs hy hy2 => by
    obtain ⟨s, rfl, hd, _⟩ := DataW.trod_string Tryz.underlying9 hy
    have c0 := cells?_cell hcs (i := 0) (by omega)
    refine ⟨s.data.toList, by rw [S_of]; simpa using c0, hy2 _ ?_⟩
    rw [hd]; simp [DataW.weights]) h hL
  rw [bytesSt] at hw
  unfold reachBytes at hw hp
  refine ⟨ra, l, cap, hv, hcap, by omega, ⟨b, o, ha, fun j x hx => ?_⟩, fun t ht => ?_⟩
  · obtain ⟨h1, h2⟩ := hp j x hx
    rw [Nat.mul_one] at h1
    exact ⟨lt_of_cell h1, h1, by unfold maxLen; omega⟩
  · obtain ⟨j, hj⟩ := List.getElem?_of_mem ht
    have := (hp j t hj).2; omega
end Go.Proofs.YtpkohocjgnodnaaGreatDoor

/- What code that comes in gives a walk: instructions, procedures, code. -/
namespace Go.Proofs.YtpkohocjgnodnaaGreatDoor
open Go.ChangeShapes Go.WideShapes Go.ChangeAt Go.RowKit

variable {H : Type} {enc : TypeId × Value → H} {W : World}
theorem cellsI : Tryz.prog.cellsOf 3 = 1 := by kernel_rfl
theorem cellsIs : Tryz.prog.cellsOf 62 = 1 := by kernel_rfl
theorem cellsWs : Tryz.prog.cellsOf 22 = 1 := by kernel_rfl
theorem cellsPs : Tryz.prog.cellsOf 23 = 1 := by kernel_rfl
theorem cellsXs : Tryz.prog.cellsOf 24 = 1 := by kernel_rfl
theorem cellsCd : Tryz.prog.cellsOf 26 = 3 := by kernel_rfl
theorem take_drop_one {cs : List Value} {i : Nat} {v : Value} (h : (cs.drop i).take 1 = [v]) : cs[i]? = some v := by
  have := congrArg (·[0]?) h
  simpa [List.getElem?_take, List.getElem?_drop] using this
theorem wf64 {n : Int} (h : (Lit.int .i64 n).wf = true) : Fit64 n := by
  simp [Lit.wf, IntKind.min, IntKind.max, IntKind.signed, IntKind.bits] at h
  unfold Fit64; omega
theorem wf8 {n : Int} (h : (Lit.int .u8 n).wf = true) : 0 ≤ n ∧ n ≤ 255 := by
  simp [Lit.wf, IntKind.min, IntKind.max, IntKind.signed, IntKind.bits] at h
  omega
/-- A list of instructions. -/
theorem instrs_of {sp : Nat → Bool} {fuel : Nat} {v : Value} {x : DataW H × List MemPlace} (h : DataW.trod enc Tryz.prog W 0 sp true fuel 62 [v] = some x) (hL : Lt 62 x.1) :
    ∃ (ra : Option Addr) (l : List Ins) (cap : Nat), v = .slice ra l.length cap ∧ l.length ≤ 281474976710656 ∧ NR W ra l ∧ ∀ y ∈ l, Fit64 y.a := by
  obtain ⟨ra, l, cap, hv, _, _, hw, b, o, ha, hp⟩ := elems_of (α := Ins) Tryz.underlying62 cellsIn (by decide) (fun b o x => W.cell? ⟨b, o, none⟩ = some (.int .u8 x.op) ∧ W.cell? ⟨b, o + 1, none⟩ = some (.int .i64 x.a) ∧ (0 ≤ x.op ∧ x.op ≤ 255) ∧ Fit64 x.a) (fun m cs y b off hcs hy _ => by
    obtain ⟨y0, y1, n, _, hl, h0, h1⟩ := trod_struct2 Tryz.underlying79 hy
    obtain ⟨p, hp, _, hw0⟩ := DataW.trod_int Tryz.underlying77 h0
    obtain ⟨q, hq, _, hw1⟩ := DataW.trod_int Tryz.underlying3 h1
    rw [show Tryz.prog.cellsOf _ = 1 from cellsOp] at hp
    rw [show Tryz.prog.cellsOf _ = 1 from cellsI] at hq
    have c0 := cells?_cell hcs (i := 0) (by omega)
    have c1 := cells?_cell hcs (i := 1) (by omega)
    rw [take_drop_one hp] at c0
    rw [take_drop_one hq] at c1
    exact ⟨⟨p, q⟩, c0, c1, wf8 hw0, wf64 hw1⟩) h hL
  rw [bytesIn] at hw
  unfold reachBytes at hw
  refine ⟨ra, l, cap, hv, by omega, ⟨b, o, ha, fun j x hx => ?_⟩, fun y hy => ?_⟩
  · obtain ⟨h1, h2, h3, h4⟩ := hp j x hx
    exact ⟨lt_of_cell h1, h1, h2, h3, h4⟩
  · obtain ⟨j, hj⟩ := List.getElem?_of_mem hy
    exact (hp j y hj).2.2.2
/-- A list of procedures. -/
theorem procs_of {sp : Nat → Bool} {fuel : Nat} {v : Value} {x : DataW H × List MemPlace} (h : DataW.trod enc Tryz.prog W 0 sp true fuel 23 [v] = some x) (hL : Lt 23 x.1) :
    ∃ (ra : Option Addr) (l : List Prc) (cap : Nat), v = .slice ra l.length cap ∧ l.length ≤ 281474976710656 ∧ PR W ra l ∧ (∀ p ∈ l, p.code.length ≤ 281474976710656) ∧ ∀ p ∈ l, Fit64 p.params ∧ ∀ y ∈ p.code, Fit64 y.a := by
  obtain ⟨ra, l, cap, hv, _, _, hw, b, o, ha, hp⟩ := elems_of (α := Prc) Tryz.underlying23 cellsPr (by decide) (fun b o p => W.cell? ⟨b, o, none⟩ = some (.int .i64 p.params) ∧ (∃ rc cc, W.cell? ⟨b, o + 1, none⟩ = some (.slice rc p.code.length cc) ∧ NR W rc p.code) ∧ p.code.length ≤ 281474976710656 ∧ Fit64 p.params ∧ ∀ y ∈ p.code, Fit64 y.a) (fun m cs y b off hcs hy hLy => by
    obtain ⟨y0, y1, n, hye, hl, h0, h1⟩ := trod_struct2 Tryz.underlying64 hy
    obtain ⟨p, hp, _, hw0⟩ := DataW.trod_int Tryz.underlying3 h0
    rw [show Tryz.prog.cellsOf _ = 1 from cellsI] at hp
    rw [cellsPr] at hl
    obtain ⟨v0, v1, rfl⟩ : ∃ v0 v1, cs = [v0, v1] := by
      rcases cs with _ | ⟨v0, _ | ⟨v1, _ | ⟨v2, r⟩⟩⟩
      · cases hl
      · cases hl
      · exact ⟨v0, v1, rfl⟩
      · simp at hl
    have h1' : DataW.trod enc Tryz.prog W 0 sp true n 62 [v1] = some y1 := by
      have := h1
      rw [show Tryz.prog.cellsOf _ = 1 from cellsIs] at this
      exact this
    have hL1 : Lt 62 y1.1 := fun k hk => hLy k (by
      rw [hye]
      simp only [DataW.weights, Tryz.underlying64]
      simp only [List.map_cons, List.map_nil, DataW.weightsEach, List.mem_append]
      exact .inr (.inl hk))
    obtain ⟨rc, code, cc, rfl, hcl, hN, hfa⟩ := instrs_of h1' hL1
    have c0 := cells?_cell hcs (i := 0) (by omega)
    have c1 := cells?_cell hcs (i := 1) (by omega)
    rw [take_drop_one hp] at c0
    exact ⟨⟨p, code⟩, c0, ⟨rc, cc, c1, hN⟩, hcl, wf64 hw0, hfa⟩) h hL
  rw [bytesPr] at hw
  unfold reachBytes at hw
  refine ⟨ra, l, cap, hv, by omega, ⟨b, o, ha, fun j x hx => ?_⟩, fun p hpm => ?_, fun p hpm => ?_⟩
  · obtain ⟨h1, h2, h3, h4⟩ := hp j x hx
    exact ⟨lt_of_cell h1, h1, h2, Nat.le_trans h3 (by unfold maxLen; decide)⟩
  · obtain ⟨j, hj⟩ := List.getElem?_of_mem hpm
    exact (hp j p hj).2.2.1
  · obtain ⟨j, hj⟩ := List.getElem?_of_mem hpm
    exact (hp j p hj).2.2.2
end Go.Proofs.YtpkohocjgnodnaaGreatDoor

/- What code that comes in gives a walk. -/
namespace Go.Proofs.YtpkohocjgnodnaaGreatDoor
open Go.ChangeShapes Go.WideShapes Go.ChangeAt Go.RowKit

variable {H : Type} {enc : TypeId × Value → H} {W : World}
theorem lt_sized {ts : List TypeId} {ds : List (DataW H)} (h : (DataW.weightsEach Tryz.prog ts ds).all (· ≤ reachBytes) = true) {j : Nat} {t : TypeId} {d : DataW H} (ht : ts[j]? = some t) (hd : ds[j]? = some d) : Lt t d :=
  fun n hn => of_decide_eq_true (List.all_eq_true.1 h n (DataW.weights_mem_each ht hd n hn))
/-- What stands of code that comes in. -/
structure InC (c : Cd) : Prop where
  gs : ∀ t ∈ c.globals, t.length ≤ 281474976710656
  sz : c.consts.length ≤ 281474976710656 ∧ c.procs.length ≤ 281474976710656 ∧ c.globals.length ≤ 281474976710656
  ps : ∀ p ∈ c.procs, p.code.length ≤ 281474976710656
  ft : ∀ p ∈ c.procs, Fit64 p.params ∧ ∀ x ∈ p.code, Fit64 x.a
  rg : ∀ x ∈ c.consts, Rng x
/-- THE CODE that comes in. -/
theorem code_of {sp : Nat → Bool} {v : Value} {d : DataW H} {p : List MemPlace} (hv : ∃ cs, v = .agg cs ∧ cs.size = Tryz.prog.cellsOf 26) (h : DataW.Trod enc Tryz.prog W 0 sp true 26 v d p) (hL : Lt 26 d) : ∃ c, CV W v c ∧ InC c := by
  obtain ⟨cs, rfl, hcs⟩ := hv
  rw [cellsCd] at hcs
  obtain ⟨v0, v1, v2, rfl⟩ : ∃ v0 v1 v2, cs = #[v0, v1, v2] := by
    rcases cs with ⟨_ | ⟨v0, _ | ⟨v1, _ | ⟨v2, _ | ⟨v3, r⟩⟩⟩⟩⟩
    · cases hcs
    · cases hcs
    · cases hcs
    · exact ⟨v0, v1, v2, rfl⟩
    · simp at hcs
  obtain ⟨fuel, hf⟩ := h
  have hf' : DataW.trod enc Tryz.prog W 0 sp true fuel 26 [v0, v1, v2] = some (d, p) := hf
  obtain ⟨xs, m, _, hx, _, hlen, hel⟩ := DataW.trod_struct Tryz.underlying26 hf'
  have hl3 : xs.length = 3 := hlen
  obtain ⟨x0, x1, x2, rfl⟩ : ∃ x0 x1 x2, xs = [x0, x1, x2] := by
    rcases xs with _ | ⟨x0, _ | ⟨x1, _ | ⟨x2, _ | ⟨x3, r⟩⟩⟩⟩
    · cases hl3
    · cases hl3
    · cases hl3
    · exact ⟨x0, x1, x2, rfl⟩
    · simp at hl3
  have f0 : DataW.trod enc Tryz.prog W 0 sp true m 22 (([v0, v1, v2].drop 0).take (Tryz.prog.cellsOf 22)) = some x0 := hel 0 _ rfl
  have f1 : DataW.trod enc Tryz.prog W 0 sp true m 23 (([v0, v1, v2].drop 1).take (Tryz.prog.cellsOf 23)) = some x1 := hel 1 _ rfl
  have f2 : DataW.trod enc Tryz.prog W 0 sp true m 24 (([v0, v1, v2].drop 2).take (Tryz.prog.cellsOf 24)) = some x2 := hel 2 _ rfl
  rw [cellsWs] at f0
  rw [cellsPs] at f1
  rw [cellsXs] at f2
  have hd : d = .agg [x0.1, x1.1, x2.1] := by cases hx; rfl
  have hw : ∀ n, n ∈ x0.1.weights Tryz.prog 22 ∨ n ∈ x1.1.weights Tryz.prog 23 ∨ n ∈ x2.1.weights Tryz.prog 24 → n ≤ reachBytes := fun n hn => hL n (by
    rw [hd]
    simp only [DataW.weights, Tryz.underlying26]
    simp only [List.map_cons, List.map_nil, DataW.weightsEach, List.mem_append]
    rcases hn with h | h | h
    · exact .inl h
    · exact .inr (.inl h)
    · exact .inr (.inr (.inl h)))
  obtain ⟨r1, l1, c1, rfl, s1, w1⟩ := words_of f0 (fun n hn => hw n (.inl hn))
  obtain ⟨r2, l2, c2, rfl, s2, w2, k2, t2⟩ := procs_of f1 (fun n hn => hw n (.inr (.inl hn)))
  obtain ⟨r3, l3, c3, rfl, s3, z3, w3, k3⟩ := texts_of f2 (fun n hn => hw n (.inr (.inr hn)))
  have hm : (281474976710656 : Nat) ≤ maxLen := by unfold maxLen; decide
  refine ⟨⟨l1, l2, l3⟩, ⟨⟨r1, c1, r2, c2, r3, c3, rfl, w1, w2, w3, s3⟩, ⟨Nat.le_trans s1 hm, Nat.le_trans s2 hm, Nat.le_trans z3 hm⟩⟩, ⟨k3, ⟨s1, s2, z3⟩, k2, t2, fun x hx => ?_⟩⟩
  obtain ⟨b, o, _, hp⟩ := w1
  obtain ⟨j, hj⟩ := List.getElem?_of_mem hx
  exact (hp j x hj).2.2
end Go.Proofs.YtpkohocjgnodnaaGreatDoor
