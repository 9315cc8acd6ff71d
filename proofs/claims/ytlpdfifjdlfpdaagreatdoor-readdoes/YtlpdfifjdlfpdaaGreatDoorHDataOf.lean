/- What a list of data that comes in gives a walk: its data. -/
import Derived.Test.YtlpdfifjdlfpdaaGreatDoorHLaw
import Derived.Test.YtlpdfifjdlfpdaaGreatDoorGK
import Derived.ChangeArms
namespace Go.Proofs.YtlpdfifjdlfpdaaGreatDoor
open Go.ChangeShapes Go.WideShapes Go.ChangeAt Go.RowKit

/-- No text is longer than a text can be. -/
def Fo.st : Fo → Prop
  | .nil => True
  | .cons _ _ t s _ r => t.length ≤ maxLen ∧ s.st ∧ r.st

theorem cells41 : Tryz.prog.cellsOf 58 = 5 := by kernel_rfl
theorem cells39 : Tryz.prog.cellsOf 56 = 1 := by kernel_rfl
theorem cells2 : Tryz.prog.cellsOf 2 = 1 := by kernel_rfl
theorem cellsS : Tryz.prog.cellsOf 9 = 1 := by kernel_rfl
theorem cells23 : Tryz.prog.cellsOf 23 = 1 := by kernel_rfl
theorem cellsB : Tryz.prog.cellsOf 4 = 1 := by kernel_rfl

theorem take_drop_one {cs : List Value} {i : Nat} {v : Value} (h : (cs.drop i).take 1 = [v]) : cs[i]? = some v := by
  have := congrArg (·[0]?) h
  simpa [List.getElem?_take, List.getElem?_drop] using this

theorem cells?_cell {W : World} {b off n i : Nat} {cs : List Value} (h : W.cells? 0 ⟨b, off, none⟩ n = some cs) (hi : i < n) : W.cell? ⟨b, off + i, none⟩ = cs[i]? := by
  unfold World.cells? at h
  rw [if_pos (Nat.zero_le _)] at h
  obtain ⟨v, hv, hc⟩ := Lib.mapM_at h i i (by simp [hi])
  rw [add_plain] at hc
  rw [hv, hc]

theorem five5 {cs : List Value} (h : cs.length = 5) : ∃ v0 v1 v2 v3 v4, cs = [v0, v1, v2, v3, v4] := by
  rcases cs with _ | ⟨v0, _ | ⟨v1, _ | ⟨v2, _ | ⟨v3, _ | ⟨v4, _ | ⟨v5, r⟩⟩⟩⟩⟩⟩
  · cases h
  · cases h
  · cases h
  · cases h
  · cases h
  · exact ⟨v0, v1, v2, v3, v4, rfl⟩
  · simp at h
variable {H : Type} {enc : TypeId × Value → H} {W : World}
theorem dat_of {sp : Nat → Bool} {fuel : Nat} {cs : List Value} {x : DataW H × List MemPlace} (h : DataW.trod enc Tryz.prog W 0 sp true fuel 58 cs = some x) :
    ∃ (k n : Int) (t : List UInt8) (v : Value) (d : Bool) (m : Nat) (y : DataW H × List MemPlace), fuel = m + 1 ∧ cs = [.int .u8 k, .int .i64 n, S t, v, .bool d] ∧ t.length ≤ maxLen ∧ DataW.trod enc Tryz.prog W 0 sp true m 23 [v] = some y := by
  obtain ⟨xs, m, hm, _, hl, hx, hf⟩ := DataW.trod_struct Tryz.underlying58 h
  rw [cells41] at hl
  have hx5 : xs.length = 5 := hx
  have f0 : DataW.trod enc Tryz.prog W 0 sp true m 56 ((cs.drop 0).take (Tryz.prog.cellsOf 56)) = xs[0]? := hf 0 _ rfl
  have f1 : DataW.trod enc Tryz.prog W 0 sp true m 2 ((cs.drop 1).take (Tryz.prog.cellsOf 2)) = xs[1]? := hf 1 _ rfl
  have f2 : DataW.trod enc Tryz.prog W 0 sp true m 9 ((cs.drop 2).take (Tryz.prog.cellsOf 9)) = xs[2]? := hf 2 _ rfl
  have f3 : DataW.trod enc Tryz.prog W 0 sp true m 23 ((cs.drop 3).take (Tryz.prog.cellsOf 23)) = xs[3]? := hf 3 _ rfl
  have f4 : DataW.trod enc Tryz.prog W 0 sp true m 4 ((cs.drop 4).take (Tryz.prog.cellsOf 4)) = xs[4]? := hf 4 _ rfl
  obtain ⟨x0, e0⟩ : ∃ y, xs[0]? = some y := ⟨xs[0], by simp⟩
  obtain ⟨x1, e1⟩ : ∃ y, xs[1]? = some y := ⟨xs[1], by simp⟩
  obtain ⟨x2, e2⟩ : ∃ y, xs[2]? = some y := ⟨xs[2], by simp⟩
  obtain ⟨x3, e3⟩ : ∃ y, xs[3]? = some y := ⟨xs[3], by simp⟩
  obtain ⟨x4, e4⟩ : ∃ y, xs[4]? = some y := ⟨xs[4], by simp⟩
  rw [e0] at f0
  rw [e1] at f1
  rw [e2] at f2
  rw [e3] at f3
  rw [e4] at f4
  obtain ⟨k, c0, _⟩ := DataW.trod_int Tryz.underlying56 f0
  obtain ⟨n, c1, _⟩ := DataW.trod_int Tryz.underlying2 f1
  obtain ⟨s, c2, _, hs⟩ := DataW.trod_string Tryz.underlying9 f2
  obtain ⟨d, c4, _⟩ := DataW.trod_bool Tryz.underlying4 f4
  obtain ⟨v0, v1, v2, v3, v4, rfl⟩ := five5 hl
  rw [show ([v0, v1, v2, v3, v4].drop 0).take (Tryz.prog.cellsOf 56) = [v0] by rw [cells39]; rfl] at c0
  rw [show ([v0, v1, v2, v3, v4].drop 1).take (Tryz.prog.cellsOf 2) = [v1] by rw [cells2]; rfl] at c1
  rw [show ([v0, v1, v2, v3, v4].drop 2).take (Tryz.prog.cellsOf 9) = [v2] by rw [cellsS]; rfl] at c2
  rw [show ([v0, v1, v2, v3, v4].drop 3).take (Tryz.prog.cellsOf 23) = [v3] by rw [cells23]; rfl] at f3
  rw [show ([v0, v1, v2, v3, v4].drop 4).take (Tryz.prog.cellsOf 4) = [v4] by rw [cellsB]; rfl] at c4
  cases c0
  cases c1
  cases c2
  cases c4
  exact ⟨k, n, s.data.toList, v3, d, m, x3, hm, by simp [S], by simpa using hs, f3⟩

theorem row_of {sp : Nat → Bool} {b off len m : Nat} (ih : ∀ (v : Value) (y : DataW H × List MemPlace) (m' : Nat), m = m' + 1 → DataW.trod enc Tryz.prog W 0 sp true m' 23 [v] = some y → ∃ (ra : Option Addr) (l c : Nat) (f : Fo), v = .slice ra l c ∧ f.len = l ∧ l ≤ maxLen ∧ RS W ra f ∧ f.st)
    (hel : ∀ i, i < len → ∃ y, (W.cells? 0 ⟨b, off + i * 5, none⟩ 5).bind (DataW.trod enc Tryz.prog W 0 sp true m 58) = some y) :
    ∀ (j i : Nat), i + j = len → ∃ f : Fo, f.len = j ∧ Rd W b (off + i * 5) f ∧ f.st
  | 0, i, _ => ⟨.nil, rfl, trivial, trivial⟩
  | j + 1, i, hij => by
    obtain ⟨f, h1, h2, h3⟩ := row_of ih hel j (i + 1) (by omega)
    obtain ⟨y, hy⟩ := hel i (by omega)
    rw [Option.bind_eq_some_iff] at hy
    obtain ⟨cs, hcs, hy⟩ := hy
    obtain ⟨k, n, t, v, d, m', y', hm, rfl, ht, hk⟩ := dat_of hy
    obtain ⟨ra, l, c, s, rfl, rfl, hl, ⟨b', o', hz, hR⟩, hst⟩ := ih v y' m' hm hk
    have c0 := cells?_cell hcs (i := 0) (by omega)
    have c1 := cells?_cell hcs (i := 1) (by omega)
    have c2 := cells?_cell hcs (i := 2) (by omega)
    have c3 := cells?_cell hcs (i := 3) (by omega)
    have c4 := cells?_cell hcs (i := 4) (by omega)
    have hb : b < W.heap.size := by
      rcases Nat.lt_or_ge b W.heap.size with h | h
      · exact h
      · simp [World.cell?, Array.getElem?_eq_none h] at c0
    refine ⟨.cons k n t s d f, by simp [Fo.len, h1], ⟨⟨hb, c0, c1, c2, c4, hl⟩, ⟨ra, c, b', o', c3, hz, hR⟩, ?_⟩, ht, hst, h3⟩
    rw [show off + i * 5 + 5 = off + (i + 1) * 5 by omega]
    exact h2

/-- THE DATA that a list is. -/
theorem data_of {sp : Nat → Bool} : ∀ (fuel : Nat) (v : Value) (x : DataW H × List MemPlace), DataW.trod enc Tryz.prog W 0 sp true fuel 23 [v] = some x →
    ∃ (ra : Option Addr) (l c : Nat) (f : Fo), v = .slice ra l c ∧ f.len = l ∧ l ≤ maxLen ∧ RS W ra f ∧ f.st := by
  intro fuel
  induction fuel using Nat.strongRecOn with
  | _ fuel ih =>
    intro v x h
    rcases DataW.trod_slice Tryz.underlying23 h with ⟨hc, _⟩ | ⟨a, len, cap, elems, rest, n, hn, hc, _, _, hl, hm, hlen, hel, _⟩
    · cases hc
      exact ⟨none, 0, 0, .nil, rfl, rfl, Nat.zero_le _, ⟨0, 0, .inl rfl, trivial⟩, trivial⟩
    · cases hc
      rw [cells41] at hel
      by_cases h0 : len = 0
      · subst h0
        exact ⟨_, 0, cap, .nil, rfl, rfl, Nat.zero_le _, ⟨0, 0, .inl rfl, trivial⟩, trivial⟩
      · have e0 := hel 0 (by omega)
        obtain ⟨y0, hy0⟩ : ∃ y, elems[0]? = some y := ⟨elems[0], by simp⟩
        rw [hy0, Option.bind_eq_some_iff] at e0
        obtain ⟨cs0, hcs0, _⟩ := e0
        obtain ⟨b, off, spot⟩ := a
        have hspot : spot = none := by
          unfold World.cells? at hcs0
          rw [if_pos (Nat.zero_le _)] at hcs0
          obtain ⟨u, _, hu⟩ := Lib.mapM_at hcs0 0 0 (by simp)
          simpa [Addr.add] using World.cell?_spot hu
        subst hspot
        obtain ⟨f, h1, h2, h3⟩ := row_of (enc := enc) (W := W) (sp := sp) (b := b) (off := off) (len := len) (m := n) (fun v y m' hm' hk => ih m' (by omega) v y hk)
          (fun i hi => ⟨elems[i]'(by omega), by
            have := hel i hi
            rw [add_plain] at this
            rw [this]; simp⟩) len 0 (by omega)
        exact ⟨_, len, cap, f, rfl, h1, by omega, ⟨b, off, .inr rfl, by simpa using h2⟩, h3⟩
end Go.Proofs.YtlpdfifjdlfpdaaGreatDoor
