/- What code that comes in gives a walk. -/
import Derived.Test.YtnblieohdngmiabGreatDoorHLaw
import Derived.Test.YtnblieohdngmiabGreatDoorGD
import Derived.Test.YtnblieohdngmiabGreatDoorHBMath
import Derived.ChangeArms
import Derived.SizedLaws
namespace Go.Proofs.YtnblieohdngmiabGreatDoor
open Go.ChangeShapes Go.WideShapes Go.ChangeAt Go.RowKit

theorem cells?_cell {W : World} {b off n i : Nat} {cs : List Value} (h : W.cells? 0 ⟨b, off, none⟩ n = some cs) (hi : i < n) : W.cell? ⟨b, off + i, none⟩ = cs[i]? := by
  unfold World.cells? at h
  rw [if_pos (Nat.zero_le _)] at h
  obtain ⟨v, hv, hc⟩ := Lib.mapM_at h i i (by simp [hi])
  rw [add_plain] at hc
  rw [hv, hc]
variable {H : Type} {enc : TypeId × Value → H} {W : World}
/-- All weights lie within the reach. -/
def Lt (t : TypeId) (d : DataW H) : Prop := ∀ n ∈ d.weights Tryz.prog t, n ≤ reachBytes
theorem wAll_mem {e : TypeId} : ∀ {l : List (DataW H)} {d : DataW H}, d ∈ l → ∀ n ∈ d.weights Tryz.prog e, n ∈ DataW.weightsAll Tryz.prog e l
  | x :: l, d, hd, n, hn => by
    simp only [DataW.weightsAll, List.mem_append]
    rcases List.mem_cons.1 hd with rfl | h
    · exact .inl hn
    · exact .inr (wAll_mem h n hn)
theorem elems_of {α : Type} {T e sz : Nat} (hT : Tryz.prog.underlying T = some (.slice e)) (hc : Tryz.prog.cellsOf e = sz) (hz : 0 < sz) (P : Nat → Nat → α → Prop) {sp : Nat → Bool}
    (hel : ∀ (m : Nat) (cs : List Value) (y : DataW H × List MemPlace) (b off : Nat), W.cells? 0 ⟨b, off, none⟩ sz = some cs → DataW.trod enc Tryz.prog W 0 sp true m e cs = some y → Lt e y.1 → ∃ a : α, P b off a)
    {fuel : Nat} {v : Value} {x : DataW H × List MemPlace} (h : DataW.trod enc Tryz.prog W 0 sp true fuel T [v] = some x) (hL : Lt T x.1) :
    ∃ (ra : Option Addr) (l : List α) (cap : Nat), v = .slice ra l.length cap ∧ l.length ≤ cap ∧ cap ≤ maxLen ∧ l.length * Tryz.prog.bytesOf e ≤ reachBytes ∧ ∃ b o, (l.length = 0 ∨ ra = some ⟨b, o, none⟩) ∧ ∀ (j : Nat) (a : α), l[j]? = some a → P b (o + j * sz) a := by
  rcases DataW.trod_slice hT h with ⟨hv, _⟩ | ⟨a, len, cap, elems, rest, n, hn, hv, hx, _, hl, hm, hlen, hell, _⟩
  · cases hv
    exact ⟨none, [], 0, rfl, Nat.le_refl _, Nat.zero_le _, by simp, 0, 0, .inl rfl, fun j a h => (by simp at h)⟩
  · cases hv
    rw [hc] at hell
    have hw : len * Tryz.prog.bytesOf e ≤ reachBytes := by
      have := hL ((elems.map (·.1)).length * Tryz.prog.bytesOf e + (rest.map (·.1)).length * Tryz.prog.bytesOf e) (by rw [hx]; simp only [DataW.weights, hT, List.mem_cons]; left; rw [Nat.add_mul])
      simp only [List.length_map] at this
      rw [hlen] at this; omega
    by_cases h0 : len = 0
    · subst h0
      exact ⟨_, [], cap, rfl, Nat.zero_le _, hm, by simp, 0, 0, .inl rfl, fun j a h => (by simp at h)⟩
    · have e0 := hell 0 (by omega)
      obtain ⟨y0, hy0⟩ : ∃ y, elems[0]? = some y := ⟨_, List.getElem?_eq_getElem (by omega)⟩
      rw [hy0, Option.bind_eq_some_iff] at e0
      obtain ⟨cs0, hcs0, _⟩ := e0
      obtain ⟨b, off, spot⟩ := a
      have hspot : spot = none := by
        unfold World.cells? at hcs0
        rw [if_pos (Nat.zero_le _)] at hcs0
        obtain ⟨u, _, hu⟩ := Lib.mapM_at hcs0 0 0 (by simp [hz])
        simpa [Addr.add] using World.cell?_spot hu
      subst hspot
      have hone : ∀ i, i < len → ∃ a : α, P b (off + i * sz) a := fun i hi => by
        have h1 := hell i hi
        have h2 : elems[i]? = some (elems[i]'(by omega)) := List.getElem?_eq_getElem _
        rw [h2, Option.bind_eq_some_iff] at h1
        obtain ⟨cs, hcs, hy⟩ := h1
        rw [add_plain] at hcs
        refine hel n cs _ b (off + i * sz) hcs hy (fun k hk => hL k ?_)
        rw [hx]
        simp only [DataW.weights, hT, List.mem_cons, List.mem_append]
        exact .inr (.inl (wAll_mem (List.mem_map.2 ⟨elems[i]'(by omega), List.getElem_mem _, rfl⟩) k hk))
      have hrow : ∀ (j i : Nat), i + j = len → ∃ l : List α, l.length = j ∧ ∀ (k : Nat) (a : α), l[k]? = some a → P b (off + (i + k) * sz) a := by
        intro j
        induction j with
        | zero => intro i _; exact ⟨[], rfl, fun k a h => (by simp at h)⟩
        | succ j ih =>
          intro i hij
          obtain ⟨l, h1, h2⟩ := ih (i + 1) (by omega)
          obtain ⟨a, ha⟩ := hone i (by omega)
          refine ⟨a :: l, by simp [h1], fun k x hk => ?_⟩
          cases k with
          | zero => simp at hk; subst hk; simpa using ha
          | succ k => have := h2 k x (by simpa using hk); rwa [show i + 1 + k = i + (k + 1) by omega] at this
      obtain ⟨l, h1, h2⟩ := hrow len 0 (by omega)
      subst h1
      exact ⟨_, l, cap, rfl, hl, hm, hw, b, off, .inr rfl, fun j a h => by have := h2 j a h; rwa [Nat.zero_add] at this⟩
theorem cellsWd : Tryz.prog.cellsOf 31 = 1 := by kernel_rfl
theorem cellsIn : Tryz.prog.cellsOf 46 = 2 := by kernel_rfl
theorem cellsOp : Tryz.prog.cellsOf 44 = 1 := by kernel_rfl
theorem cellsPr : Tryz.prog.cellsOf 29 = 2 := by kernel_rfl
theorem bytesWd : Tryz.prog.bytesOf 31 = 8 := by kernel_rfl
theorem bytesIn : Tryz.prog.bytesOf 46 = 16 := by kernel_rfl
theorem bytesPr : Tryz.prog.bytesOf 29 = 32 := by kernel_rfl
theorem bytesSt : Tryz.prog.bytesOf 9 = 16 := by kernel_rfl
theorem lt_of_cell {b o : Nat} {v : Value} (h : W.cell? ⟨b, o, none⟩ = some v) : b < W.heap.size := by
  rcases Nat.lt_or_ge b W.heap.size with h' | h'
  · exact h'
  · simp [World.cell?, Array.getElem?_eq_none h'] at h
/-- A list of words. -/
theorem words_of {sp : Nat → Bool} {fuel : Nat} {v : Value} {x : DataW H × List MemPlace} (h : DataW.trod enc Tryz.prog W 0 sp true fuel 22 [v] = some x) (hL : Lt 22 x.1) :
    ∃ (ra : Option Addr) (l : List Int) (cap : Nat), v = .slice ra l.length cap ∧ l.length ≤ 281474976710656 ∧ WR W ra l := by
  obtain ⟨ra, l, cap, hv, _, _, hw, b, o, ha, hp⟩ := elems_of (α := Int) Tryz.underlying22 cellsWd (by decide) (fun b o x => W.cell? ⟨b, o, none⟩ = some (.int .u64 x) ∧ Rng x) (fun m cs y b off hcs hy _ => by
    obtain ⟨n, rfl, _, hwf⟩ := DataW.trod_int Tryz.underlying31 hy
    have c0 := cells?_cell hcs (i := 0) (by omega)
    refine ⟨n, by simpa using c0, ?_⟩
    simp [Lit.wf, IntKind.min, IntKind.max, IntKind.signed, IntKind.bits] at hwf
    unfold Rng; omega) h hL
  rw [bytesWd] at hw
  unfold reachBytes at hw
  refine ⟨ra, l, cap, hv, by omega, b, o, ha, fun j x hx => ?_⟩
  obtain ⟨h1, h2⟩ := hp j x hx
  rw [Nat.mul_one] at h1
  exact ⟨lt_of_cell h1, h1, h2⟩
/-- A list of texts. -/
theorem texts_of {sp : Nat → Bool} {fuel : Nat} {v : Value} {x : DataW H × List MemPlace} (h : DataW.trod enc Tryz.prog W 0 sp true fuel 24 [v] = some x) (hL : Lt 24 x.1) :
    ∃ (ra : Option Addr) (l : List (List UInt8)) (cap : Nat), v = .slice ra l.length cap ∧ l.length ≤ cap ∧ l.length ≤ 281474976710656 ∧ XR W ra l ∧ ∀ t ∈ l, t.length ≤ 281474976710656 := by
  obtain ⟨ra, l, cap, hv, hcap, _, hw, b, o, ha, hp⟩ := elems_of (α := List UInt8) Tryz.underlying24 cells9 (by decide) (fun b o x => W.cell? ⟨b, o, none⟩ = some (S x) ∧ x.length ≤ reachBytes) (fun m cs y b off hcs hy hy2 => by
    obtain ⟨s, rfl, hd, _⟩ := DataW.trod_string Tryz.underlying9 hy
    have c0 := cells?_cell hcs (i := 0) (by omega)
    refine ⟨s.data.toList, by rw [S_of]; simpa using c0, hy2 _ ?_⟩
    rw [hd]; simp [DataW.weights]) h hL
  rw [bytesSt] at hw
  unfold reachBytes at hw hp
  refine ⟨ra, l, cap, hv, hcap, by omega, ⟨b, o, ha, fun j x hx => ?_⟩, fun t ht => ?_⟩
  · obtain ⟨h1, h2⟩ := hp j x hx
    rw [Nat.mul_one] at h1
    exact ⟨lt_of_cell h1, h1, by unfold maxLen; omega⟩
  · obtain ⟨j, hj⟩ := List.getElem?_of_mem ht
    have := (hp j t hj).2; omega
end Go.Proofs.YtnblieohdngmiabGreatDoor
