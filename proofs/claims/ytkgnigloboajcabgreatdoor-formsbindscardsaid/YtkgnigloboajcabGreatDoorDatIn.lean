/- A datum that comes in. -/
import Derived.Test.YtkgnigloboajcabGreatDoorHLaw
import Derived.Test.YtkgnigloboajcabGreatDoorOfDat
import Derived.ChangeArms
import Derived.SizedLaws
namespace Go.Proofs.YtkgnigloboajcabGreatDoor
open Go.ChangeShapes Go.WideShapes Go.ChangeAt Go.RowKit

theorem cells?_cell {W : World} {b off n i : Nat} {cs : List Value} (h : W.cells? 0 ⟨b, off, none⟩ n = some cs) (hi : i < n) : W.cell? ⟨b, off + i, none⟩ = cs[i]? := by
  unfold World.cells? at h
  rw [if_pos (Nat.zero_le _)] at h
  obtain ⟨v, hv, hc⟩ := Lib.mapM_at h i i (by simp [hi])
  rw [add_plain] at hc
  rw [hv, hc]
variable {H : Type} {enc : TypeId × Value → H} {W : World}
/-- All weights lie within the reach. -/
def Lt (t : TypeId) (d : DataW H) : Prop := ∀ n ∈ d.weights Tryz.prog t, n ≤ reachBytes
theorem lt_sized {ts : List TypeId} {ds : List (DataW H)} (h : (DataW.weightsEach Tryz.prog ts ds).all (· ≤ reachBytes) = true) {j : Nat} {t : TypeId} {d : DataW H} (ht : ts[j]? = some t) (hd : ds[j]? = some d) : Lt t d :=
  fun n hn => of_decide_eq_true (List.all_eq_true.1 h n (DataW.weights_mem_each ht hd n hn))
theorem wAll_mem {e : TypeId} : ∀ {l : List (DataW H)} {d : DataW H}, d ∈ l → ∀ n ∈ d.weights Tryz.prog e, n ∈ DataW.weightsAll Tryz.prog e l
  | x :: l, d, hd, n, hn => by
    simp only [DataW.weightsAll, List.mem_append]
    rcases List.mem_cons.1 hd with rfl | h
    · exact .inl hn
    · exact .inr (wAll_mem h n hn)
theorem elemsF_of {α : Type} {T e sz : Nat} (hT : Tryz.prog.underlying T = some (.slice e)) (hc : Tryz.prog.cellsOf e = sz) (hz : 0 < sz) (P : Nat → Nat → α → Prop) {sp : Nat → Bool} {fuel : Nat}
    (hel : ∀ (m : Nat) (cs : List Value) (y : DataW H × List MemPlace) (b off : Nat), m < fuel → W.cells? 0 ⟨b, off, none⟩ sz = some cs → DataW.trod enc Tryz.prog W 0 sp true m e cs = some y → Lt e y.1 → ∃ a : α, P b off a)
    {v : Value} {x : DataW H × List MemPlace} (h : DataW.trod enc Tryz.prog W 0 sp true fuel T [v] = some x) (hL : Lt T x.1) :
    ∃ (ra : Option Addr) (l : List α) (cap : Nat), v = .slice ra l.length cap ∧ l.length ≤ cap ∧ cap ≤ maxLen ∧ l.length * Tryz.prog.bytesOf e ≤ reachBytes ∧ ∃ b o, (l.length = 0 ∨ ra = some ⟨b, o, none⟩) ∧ ∀ (j : Nat) (a : α), l[j]? = some a → P b (o + j * sz) a := by
  rcases DataW.trod_slice hT h with ⟨hv, _⟩ | ⟨a, len, cap, elems, rest, n, hn, hv, hx, _, hl, hm, hlen, hell, _⟩
  · cases hv
    exact ⟨none, [], 0, rfl, Nat.le_refl _, Nat.zero_le _, by simp, 0, 0, .inl rfl, fun j a h => (by simp at h)⟩
  · cases hv
    rw [hc] at hell
    have hw : len * Tryz.prog.bytesOf e ≤ reachBytes := by
      have := hL ((elems.map (·.1)).length * Tryz.prog.bytesOf e + (rest.map (·.1)).length * Tryz.prog.bytesOf e) (by rw [hx]; simp only [DataW.weights, hT, List.mem_cons]; left; rw [Nat.add_mul])
      simp only [List.length_map] at this
      rw [hlen] at this; omega
    by_cases h0 : len = 0
    · subst h0
      exact ⟨_, [], cap, rfl, Nat.zero_le _, hm, by simp, 0, 0, .inl rfl, fun j a h => (by simp at h)⟩
    · have e0 := hell 0 (by omega)
      obtain ⟨y0, hy0⟩ : ∃ y, elems[0]? = some y := ⟨_, List.getElem?_eq_getElem (by omega)⟩
      rw [hy0, Option.bind_eq_some_iff] at e0
      obtain ⟨cs0, hcs0, _⟩ := e0
      obtain ⟨b, off, spot⟩ := a
      have hspot : spot = none := by
        unfold World.cells? at hcs0
        rw [if_pos (Nat.zero_le _)] at hcs0
        obtain ⟨u, _, hu⟩ := Lib.mapM_at hcs0 0 0 (by simp [hz])
        simpa [Addr.add] using World.cell?_spot hu
      subst hspot
      have hone : ∀ i, i < len → ∃ a : α, P b (off + i * sz) a := fun i hi => by
        have h1 := hell i hi
        have h2 : elems[i]? = some (elems[i]'(by omega)) := List.getElem?_eq_getElem _
        rw [h2, Option.bind_eq_some_iff] at h1
        obtain ⟨cs, hcs, hy⟩ := h1
        rw [add_plain] at hcs
        refine hel n cs _ b (off + i * sz) (by omega) hcs hy (fun k hk => hL k ?_)
        rw [hx]
        simp only [DataW.weights, hT, List.mem_cons, List.mem_append]
        exact .inr (.inl (wAll_mem (List.mem_map.2 ⟨elems[i]'(by omega), List.getElem_mem _, rfl⟩) k hk))
      have hrow : ∀ (j i : Nat), i + j = len → ∃ l : List α, l.length = j ∧ ∀ (k : Nat) (a : α), l[k]? = some a → P b (off + (i + k) * sz) a := by
        intro j
        induction j with
        | zero => intro i _; exact ⟨[], rfl, fun k a h => (by simp at h)⟩
        | succ j ih =>
          intro i hij
          obtain ⟨l, h1, h2⟩ := ih (i + 1) (by omega)
          obtain ⟨a, ha⟩ := hone i (by omega)
          refine ⟨a :: l, by simp [h1], fun k x hk => ?_⟩
          cases k with
          | zero => simp at hk; subst hk; simpa using ha
          | succ k => have := h2 k x (by simpa using hk); rwa [show i + 1 + k = i + (k + 1) by omega] at this
      obtain ⟨l, h1, h2⟩ := hrow len 0 (by omega)
      subst h1
      exact ⟨_, l, cap, rfl, hl, hm, hw, b, off, .inr rfl, fun j a h => by have := h2 j a h; rwa [Nat.zero_add] at this⟩
theorem cellsDat : Tryz.prog.cellsOf 28 = 5 := by kernel_rfl
theorem cellsDK : Tryz.prog.cellsOf 25 = 1 := by kernel_rfl
theorem cellsI64 : Tryz.prog.cellsOf 2 = 1 := by kernel_rfl
theorem cellsSD : Tryz.prog.cellsOf 26 = 1 := by kernel_rfl
theorem cellsBool : Tryz.prog.cellsOf 4 = 1 := by kernel_rfl
theorem bytesDat : Tryz.prog.bytesOf 28 = 64 := by kernel_rfl
theorem five5 {cs : List Value} (h : cs.length = 5) : ∃ v0 v1 v2 v3 v4, cs = [v0, v1, v2, v3, v4] := by
  rcases cs with _ | ⟨v0, _ | ⟨v1, _ | ⟨v2, _ | ⟨v3, _ | ⟨v4, _ | ⟨v5, r⟩⟩⟩⟩⟩⟩
  · cases h
  · cases h
  · cases h
  · cases h
  · cases h
  · exact ⟨v0, v1, v2, v3, v4, rfl⟩
  · simp at h
theorem datL_of {sp : Nat → Bool} {fuel : Nat} {cs : List Value} {x : DataW H × List MemPlace} (h : DataW.trod enc Tryz.prog W 0 sp true fuel 28 cs = some x) (hL : Lt 28 x.1) :
    ∃ (k n : Int) (t : List UInt8) (v : Value) (d : Bool) (m : Nat) (y : DataW H × List MemPlace), fuel = m + 1 ∧ cs = [.int .u8 k, .int .i64 n, S t, v, .bool d] ∧ t.length ≤ reachBytes ∧ DataW.trod enc Tryz.prog W 0 sp true m 26 [v] = some y ∧ Lt 26 y.1 := by
  obtain ⟨xs, m, hm, hxv, hl, hx, hf⟩ := DataW.trod_struct Tryz.underlying28 h
  rw [cellsDat] at hl
  have hx5 : xs.length = 5 := hx
  have f0 : DataW.trod enc Tryz.prog W 0 sp true m 25 ((cs.drop 0).take (Tryz.prog.cellsOf 25)) = xs[0]? := hf 0 _ rfl
  have f1 : DataW.trod enc Tryz.prog W 0 sp true m 2 ((cs.drop 1).take (Tryz.prog.cellsOf 2)) = xs[1]? := hf 1 _ rfl
  have f2 : DataW.trod enc Tryz.prog W 0 sp true m 9 ((cs.drop 2).take (Tryz.prog.cellsOf 9)) = xs[2]? := hf 2 _ rfl
  have f3 : DataW.trod enc Tryz.prog W 0 sp true m 26 ((cs.drop 3).take (Tryz.prog.cellsOf 26)) = xs[3]? := hf 3 _ rfl
  have f4 : DataW.trod enc Tryz.prog W 0 sp true m 4 ((cs.drop 4).take (Tryz.prog.cellsOf 4)) = xs[4]? := hf 4 _ rfl
  obtain ⟨x0, x1, x2, x3, x4, rfl⟩ : ∃ x0 x1 x2 x3 x4, xs = [x0, x1, x2, x3, x4] := by
    rcases xs with _ | ⟨x0, _ | ⟨x1, _ | ⟨x2, _ | ⟨x3, _ | ⟨x4, _ | ⟨x5, r⟩⟩⟩⟩⟩⟩
    · cases hx5
    · cases hx5
    · cases hx5
    · cases hx5
    · cases hx5
    · exact ⟨x0, x1, x2, x3, x4, rfl⟩
    · simp at hx5
  obtain ⟨k, c0, _⟩ := DataW.trod_int Tryz.underlying25 (show _ = some x0 from f0)
  obtain ⟨n, c1, _⟩ := DataW.trod_int Tryz.underlying2 (show _ = some x1 from f1)
  obtain ⟨s, c2, he2, hs⟩ := DataW.trod_string Tryz.underlying9 (show _ = some x2 from f2)
  obtain ⟨d, c4, _⟩ := DataW.trod_bool Tryz.underlying4 (show _ = some x4 from f4)
  obtain ⟨v0, v1, v2, v3, v4, rfl⟩ := five5 hl
  rw [show ([v0, v1, v2, v3, v4].drop 0).take (Tryz.prog.cellsOf 25) = [v0] by rw [cellsDK]; rfl] at c0
  rw [show ([v0, v1, v2, v3, v4].drop 1).take (Tryz.prog.cellsOf 2) = [v1] by rw [cellsI64]; rfl] at c1
  rw [show ([v0, v1, v2, v3, v4].drop 2).take (Tryz.prog.cellsOf 9) = [v2] by rw [cellsStr]; rfl] at c2
  rw [show ([v0, v1, v2, v3, v4].drop 3).take (Tryz.prog.cellsOf 26) = [v3] by rw [cellsSD]; rfl] at f3
  rw [show ([v0, v1, v2, v3, v4].drop 4).take (Tryz.prog.cellsOf 4) = [v4] by rw [cellsBool]; rfl] at c4
  cases c0
  cases c1
  cases c2
  cases c4
  have hw : ∀ (j : Nat) (ty : TypeId) (u : DataW H), (([25, 2, 9, 26, 4] : List TypeId))[j]? = some ty → ([x0.1, x1.1, x2.1, x3.1, x4.1])[j]? = some u → Lt ty u := fun j ty u h1 h2 n hn => hL n (by
    rw [hxv]
    simp only [DataW.weights, Tryz.underlying28]
    exact DataW.weights_mem_each h1 h2 n hn)
  refine ⟨k, n, s.data.toList, v3, d, m, x3, hm, by simp [S], ?_, f3, hw 3 _ _ rfl rfl⟩
  refine hw 2 _ _ rfl rfl _ ?_
  rw [he2]; simp [DataW.weights]
/-- One datum of a row that comes in. -/
def Pd (W : World) (b o : Nat) (x : Dt) : Prop := (W.cell? ⟨b, o, none⟩ = some (.int .u8 x.k) ∧ W.cell? ⟨b, o + 1, none⟩ = some (.int .i64 x.n) ∧ W.cell? ⟨b, o + 2, none⟩ = some (S x.t) ∧ W.cell? ⟨b, o + 4, none⟩ = some (.bool x.d)) ∧ (∃ rk ck, W.cell? ⟨b, o + 3, none⟩ = some (.slice rk x.s.len ck) ∧ RS W rk x.s) ∧ x.s.len ≤ maxLen ∧ x.t.length ≤ 281474976710656 ∧ x.s.sl
def foL : List Dt → Fo
  | [] => .nil
  | x :: l => x.fo (foL l)
theorem foL_len : ∀ l, (foL l).len = l.length
  | [] => rfl
  | _ :: l => by simp only [foL, Dt.fo, Fo.len, foL_len l, List.length_cons]
theorem foL_rd {b : Nat} : ∀ {l : List Dt} {o : Nat}, (∀ (j : Nat) (x : Dt), l[j]? = some x → Pd W b (o + j * 5) x) → Rd W b o (foL l)
  | [], _, _ => trivial
  | x :: l, o, h => by
    obtain ⟨⟨h1, h2, h3, h4⟩, ⟨rk, ck, h5, b', o', hz, hr⟩, h6, _, _⟩ := h 0 x rfl
    simp only [Nat.zero_mul, Nat.add_zero] at h1 h2 h3 h4 h5
    exact ⟨⟨cell_lt h1, h1, h2, h3, h4, h6⟩, ⟨rk, ck, b', o', h5, hz, hr⟩, foL_rd fun j y hy => by
      have := h (j + 1) y (by simpa using hy)
      rwa [show o + (j + 1) * 5 = o + 5 + j * 5 by omega] at this⟩
theorem foL_sl {b : Nat} : ∀ {l : List Dt} {o : Nat}, (∀ (j : Nat) (x : Dt), l[j]? = some x → Pd W b (o + j * 5) x) → (foL l).sl
  | [], _, _ => trivial
  | x :: l, o, h => by
    obtain ⟨_, _, _, h7, h8⟩ := h 0 x rfl
    exact ⟨h7, h8, foL_sl (o := o + 5) fun j y hy => by
      have := h (j + 1) y (by simpa using hy)
      rwa [show o + (j + 1) * 5 = o + 5 + j * 5 by omega] at this⟩
theorem dataL_of {sp : Nat → Bool} : ∀ (fuel : Nat) (v : Value) (x : DataW H × List MemPlace), DataW.trod enc Tryz.prog W 0 sp true fuel 26 [v] = some x → Lt 26 x.1 →
    ∃ (ra : Option Addr) (c : Nat) (f : Fo), v = .slice ra f.len c ∧ f.len ≤ c ∧ f.len ≤ 281474976710656 ∧ RS W ra f ∧ f.sl := by
  intro fuel
  induction fuel using Nat.strongRecOn with
  | _ fuel ih =>
    intro v x h hL
    obtain ⟨ra, l, cap, hv, hcap, _, hw, b, o, ha, hp⟩ := elemsF_of (α := Dt) Tryz.underlying26 cellsDat (by decide) (Pd W) (fun m cs y b off hm hcs hy hy2 => by
      obtain ⟨k, n, t, v, d, m', y', hm', rfl, ht, hk, hk2⟩ := datL_of hy hy2
      obtain ⟨rk, ck, f, rfl, _, hl, hR, hs⟩ := ih m' (by omega) v y' hk hk2
      have c0 := cells?_cell hcs (i := 0) (by omega)
      have c1 := cells?_cell hcs (i := 1) (by omega)
      have c2 := cells?_cell hcs (i := 2) (by omega)
      have c3 := cells?_cell hcs (i := 3) (by omega)
      have c4 := cells?_cell hcs (i := 4) (by omega)
      exact ⟨⟨k, n, t, f, d⟩, ⟨c0, c1, c2, c4⟩, ⟨rk, ck, c3, hR⟩, by show f.len ≤ maxLen; unfold maxLen; omega, by show t.length ≤ _; unfold reachBytes at ht; omega, hs⟩) h hL
    rw [bytesDat] at hw
    unfold reachBytes at hw
    refine ⟨ra, cap, foL l, by rw [foL_len]; exact hv, by rw [foL_len]; exact hcap, by rw [foL_len]; omega, ⟨b, o, by rw [foL_len]; exact ha, foL_rd hp⟩, foL_sl hp⟩
/-- THE DATUM that comes in. -/
theorem datum_of {sp : Nat → Bool} {v : Value} {d : DataW H} {p : List MemPlace} (hv : ∃ cs, v = .agg cs ∧ cs.size = Tryz.prog.cellsOf 28) (h : DataW.Trod enc Tryz.prog W 0 sp true 28 v d p) (hL : Lt 28 d) : ∃ (x : Dt) (rk : Option Addr) (ck : Nat), v = datV x (.slice rk x.s.len ck) ∧ RS W rk x.s ∧ x.s.len ≤ maxLen ∧ x.t.length ≤ 281474976710656 ∧ x.s.sl := by
  obtain ⟨cs, rfl, hcs⟩ := hv
  rw [cellsDat] at hcs
  obtain ⟨v0, v1, v2, v3, v4, hl⟩ := five5 (cs := cs.toList) (by simpa using hcs)
  obtain ⟨fuel, hf⟩ := h
  have hf' : DataW.trod enc Tryz.prog W 0 sp true fuel 28 [v0, v1, v2, v3, v4] = some (d, p) := by rw [← hl]; exact hf
  obtain ⟨k, n, t, v, b, m, y, _, he, ht, hk, hk2⟩ := datL_of hf' hL
  obtain ⟨rk, ck, f, rfl, _, hl2, hR, hs⟩ := dataL_of m v y hk hk2
  refine ⟨⟨k, n, t, f, b⟩, rk, ck, ?_, hR, by show f.len ≤ maxLen; unfold maxLen; omega, by show t.length ≤ _; unfold reachBytes at ht; omega, hs⟩
  have e : cs = #[.int .u8 k, .int .i64 n, S t, .slice rk f.len ck, .bool b] := by
    apply Array.toList_inj.1; rw [hl, he]
  rw [e]
end Go.Proofs.YtkgnigloboajcabGreatDoor
