/- The document's line, whole.; The document's Parse. -/
import Derived.Test.YtpkohocjgnodnaaGreatDoorGAZ
import Derived.Test.YtpkohocjgnodnaaGreatDoorGBA
import Derived.Test.YtpkohocjgnodnaaGreatDoorHZCheck
import Derived.Test.YtpkohocjgnodnaaGreatDoorHZLinI
/- The document's line, whole. -/
namespace Go.Proofs.YtpkohocjgnodnaaGreatDoor
open Go.RowKit

/-- line, of whatever code and text. -/
theorem dLine_any (c : Cd) (s : List UInt8) (base : Nat) (v1 v2 v3 : Value) (vs : List Value) (w : World) (hl : s.length ≤ 140737488355328) (hO : OC w base v1 v2 v3 vs c) (hB : base ≤ w.heap.size)
    (hn : c.consts.length ≤ 1099511627776 ∧ c.globals.length ≤ 1099511627776 ∧ c.procs.length ≤ 1099511627776 ∧ ∀ p ∈ c.procs, p.code.length ≤ 1099511627776) :
    Calls Tryz.prog 41 #[.agg #[v1, v2, v3], S s] w fun e w' => LineR (takeV c s) base e w' ∧ Below base w w' ∧ KC w w' := by
  obtain ⟨n1, n2, n3, n4⟩ := hn
  cases hC : Lib.hasPrefix s constA with
  | true => exact line_const c s base v1 v2 v3 vs w hl hO hB ⟨n1, n2, n3⟩ hC
  | false =>
    cases hG : Lib.hasPrefix s globA with
    | true => exact line_glob c s base v1 v2 v3 vs w hl hO hB ⟨n1, n2, n3⟩ hC hG
    | false =>
      cases hP : Lib.hasPrefix s procA with
      | true => exact line_proc c s base v1 v2 v3 vs w hl hO hB ⟨n1, n2, n3⟩ hC hG hP
      | false =>
        cases hI : Lib.hasPrefix s [32] with
        | false => exact line_none c s base v1 v2 v3 vs w hl hO hB ⟨n1, n2, n3⟩ hC hG hP hI
        | true =>
          by_cases hp0 : c.procs.length = 0
          · exact line_ins0 c s base v1 v2 v3 vs w hl hO hB hp0 hC hG hP hI
          · obtain ⟨cs, pl, gs⟩ := c
            obtain ⟨ps, p, rfl⟩ := last_split pl (fun e => hp0 (by rw [e]; rfl))
            have hvl := hO.hv
            obtain ⟨us, u, rfl⟩ := last_split vs (fun e => by rw [e] at hvl; simp at hvl)
            exact line_ins cs ps p gs s base v1 v2 v3 us u w hl hO hB (by simp at n3; omega) (n4 p (by simp)) hC hG hP hI
end Go.Proofs.YtpkohocjgnodnaaGreatDoor

/- The document's Parse. -/
namespace Go.Proofs.YtpkohocjgnodnaaGreatDoor
open Go.RowKit

theorem S_extractM (B : ByteArray) (a b : Nat) : Value.string (B.extract a b) = S ((B.data.toList.drop a).take (b - a)) := by
  have := Lib.extract_data B a b
  rw [← S_of, this]
/-- How Parse's boxes stand: the answer's, that of nothing, that of what has been read. -/
structure PB (w W : World) (v1 v2 v3 : Value) (vs : List Value) (c : Cd) : Prop where
  res : W.heap[w.heap.size]? = some ZC
  non : W.heap[w.heap.size + 1]? = some ZC
  box : W.heap[w.heap.size + 2]? = some (.cells #[v1, v2, v3] 26 (0, 0))
  oc : OC W (w.heap.size + 3) v1 v2 v3 vs c
  b : Below w.heap.size w W
theorem PB.lt {w W : World} {v1 v2 v3 : Value} {vs : List Value} {c : Cd} (h : PB w W v1 v2 v3 vs c) : w.heap.size + 2 < W.heap.size := (Array.getElem?_eq_some_iff.1 h.box).1
theorem PB.cells {w W : World} {v1 v2 v3 : Value} {vs : List Value} {c : Cd} (h : PB w W v1 v2 v3 vs c) :
    (W.cell? ⟨w.heap.size, 0, none⟩ = some (.slice none 0 0) ∧ W.cell? ⟨w.heap.size, 1, none⟩ = some (.slice none 0 0) ∧ W.cell? ⟨w.heap.size, 2, none⟩ = some (.slice none 0 0) ∧ W.frozen? ⟨w.heap.size, 0, none⟩ = false ∧ W.frozen? ⟨w.heap.size, 1, none⟩ = false ∧ W.frozen? ⟨w.heap.size, 2, none⟩ = false) ∧
    (W.cell? ⟨w.heap.size + 1, 0, none⟩ = some (.slice none 0 0) ∧ W.cell? ⟨w.heap.size + 1, 1, none⟩ = some (.slice none 0 0) ∧ W.cell? ⟨w.heap.size + 1, 2, none⟩ = some (.slice none 0 0)) ∧
    (W.cell? ⟨w.heap.size + 2, 0, none⟩ = some v1 ∧ W.cell? ⟨w.heap.size + 2, 1, none⟩ = some v2 ∧ W.cell? ⟨w.heap.size + 2, 2, none⟩ = some v3 ∧ W.frozen? ⟨w.heap.size + 2, 0, none⟩ = false ∧ W.frozen? ⟨w.heap.size + 2, 1, none⟩ = false ∧ W.frozen? ⟨w.heap.size + 2, 2, none⟩ = false) := by
  have h1 := h.res
  have h2 := h.non
  have h3 := h.box
  refine ⟨⟨?_, ?_, ?_, ?_, ?_, ?_⟩, ⟨?_, ?_, ?_⟩, ?_, ?_, ?_, ?_, ?_, ?_⟩ <;> simp [World.cell?, World.frozen?, h1, h2, h3]
theorem PB.new (w : World) : PB w (((w.alloc ZC).alloc ZC).alloc ZC) (.slice none 0 0) (.slice none 0 0) (.slice none 0 0) [] noCd := by
  have e1 : (w.alloc ZC).heap.size = w.heap.size + 1 := World.size_alloc ..
  have e2 : ((w.alloc ZC).alloc ZC).heap.size = w.heap.size + 2 := by rw [World.size_alloc, e1]
  have h2 := heap_alloc_new (w.alloc ZC) ZC
  rw [e1] at h2
  have h3 := heap_alloc_new ((w.alloc ZC).alloc ZC) ZC
  rw [e2] at h3
  exact ⟨(Below.heap_alloc _ _ _ (by rw [e2]; omega)).trans ((Below.heap_alloc _ _ _ (by rw [e1]; omega)).trans (heap_alloc_new w _)), (Below.heap_alloc _ _ _ (by rw [e2]; omega)).trans h2, h3, OC.empty _ _,
    (((Below.refl _ w).alloc (Nat.le_refl _) _).alloc (by rw [e1]; omega) _).alloc (by rw [e2]; omega) _⟩
theorem PB.fin {w W : World} {v1 v2 v3 : Value} {vs : List Value} {c : Cd} (h : PB w W v1 v2 v3 vs c) (x y z : Value) :
    Below w.heap.size w (((W.setCell ⟨w.heap.size, 0, none⟩ x).setCell ⟨w.heap.size, 1, none⟩ y).setCell ⟨w.heap.size, 2, none⟩ z) ∧ OC (((W.setCell ⟨w.heap.size, 0, none⟩ x).setCell ⟨w.heap.size, 1, none⟩ y).setCell ⟨w.heap.size, 2, none⟩ z) (w.heap.size + 3) v1 v2 v3 vs c :=
  ⟨((h.b.setCell (p := ⟨w.heap.size, 0, none⟩) (Nat.le_refl _) x).setCell (p := ⟨w.heap.size, 1, none⟩) (Nat.le_refl _) y).setCell (p := ⟨w.heap.size, 2, none⟩) (Nat.le_refl _) z, h.oc.set3 ⟨_, h.res⟩ x y z⟩
theorem PB.below {w W W' : World} {v1 v2 v3 : Value} {vs : List Value} {c : Cd} (h : PB w W v1 v2 v3 vs c) (hb : Below W.heap.size W W') : PB w W' v1 v2 v3 vs c := by
  have := h.lt
  exact ⟨(hb.block _ (by omega)).trans h.res, (hb.block _ (by omega)).trans h.non, (hb.block _ (by omega)).trans h.box, h.oc.below hb, h.b.trans (hb.mono (by omega))⟩
/-- The same without what has been read. -/
structure PN (w W : World) (v1 v2 v3 : Value) : Prop where
  res : W.heap[w.heap.size]? = some ZC
  non : W.heap[w.heap.size + 1]? = some ZC
  box : W.heap[w.heap.size + 2]? = some (.cells #[v1, v2, v3] 26 (0, 0))
  b : Below w.heap.size w W
theorem PB.away {w W W' : World} {v1 v2 v3 : Value} {vs : List Value} {c : Cd} (h : PB w W v1 v2 v3 vs c) (hb : Below (w.heap.size + 3) W W') : PN w W' v1 v2 v3 :=
  ⟨(hb.block _ (by omega)).trans h.res, (hb.block _ (by omega)).trans h.non, (hb.block _ (by omega)).trans h.box, h.b.trans (hb.mono (by omega))⟩
theorem PN.lt {w W : World} {v1 v2 v3 : Value} (h : PN w W v1 v2 v3) : w.heap.size + 2 < W.heap.size := (Array.getElem?_eq_some_iff.1 h.box).1
theorem PN.fin {w W : World} {v1 v2 v3 : Value} (h : PN w W v1 v2 v3) (x y z : Value) : Below w.heap.size w (((W.setCell ⟨w.heap.size, 0, none⟩ x).setCell ⟨w.heap.size, 1, none⟩ y).setCell ⟨w.heap.size, 2, none⟩ z) :=
  ((h.b.setCell (p := ⟨w.heap.size, 0, none⟩) (Nat.le_refl _) x).setCell (p := ⟨w.heap.size, 1, none⟩) (Nat.le_refl _) y).setCell (p := ⟨w.heap.size, 2, none⟩) (Nat.le_refl _) z
theorem PN.cells {w W : World} {v1 v2 v3 : Value} (h : PN w W v1 v2 v3) :
    (W.cell? ⟨w.heap.size, 0, none⟩ = some (.slice none 0 0) ∧ W.cell? ⟨w.heap.size, 1, none⟩ = some (.slice none 0 0) ∧ W.cell? ⟨w.heap.size, 2, none⟩ = some (.slice none 0 0) ∧ W.frozen? ⟨w.heap.size, 0, none⟩ = false ∧ W.frozen? ⟨w.heap.size, 1, none⟩ = false ∧ W.frozen? ⟨w.heap.size, 2, none⟩ = false) ∧
    (W.cell? ⟨w.heap.size + 1, 0, none⟩ = some (.slice none 0 0) ∧ W.cell? ⟨w.heap.size + 1, 1, none⟩ = some (.slice none 0 0) ∧ W.cell? ⟨w.heap.size + 1, 2, none⟩ = some (.slice none 0 0)) ∧
    (W.cell? ⟨w.heap.size + 2, 0, none⟩ = some v1 ∧ W.cell? ⟨w.heap.size + 2, 1, none⟩ = some v2 ∧ W.cell? ⟨w.heap.size + 2, 2, none⟩ = some v3 ∧ W.frozen? ⟨w.heap.size + 2, 0, none⟩ = false ∧ W.frozen? ⟨w.heap.size + 2, 1, none⟩ = false ∧ W.frozen? ⟨w.heap.size + 2, 2, none⟩ = false) := by
  have h1 := h.res
  have h2 := h.non
  have h3 := h.box
  refine ⟨⟨?_, ?_, ?_, ?_, ?_, ?_⟩, ⟨?_, ?_, ?_⟩, ?_, ?_, ?_, ?_, ?_, ?_⟩ <;> simp [World.cell?, World.frozen?, h1, h2, h3]
/-- A line more: line's answer, then its box, then what is read is written. -/
theorem PN.next {w W6 : World} {v1 v2 v3 u1 u2 u3 : Value} {us : List Value} {c' : Cd} (h : PN w W6 v1 v2 v3) (ho : OC W6 (w.heap.size + 3) u1 u2 u3 us c') :
    PB w (((W6.setCell ⟨w.heap.size + 2, 0, none⟩ u1).setCell ⟨w.heap.size + 2, 1, none⟩ u2).setCell ⟨w.heap.size + 2, 2, none⟩ u3) u1 u2 u3 us c' := by
  have hc : isC W6 (w.heap.size + 2) := ⟨_, h.box⟩
  refine ⟨?_, ?_, ?_, ?_, ?_⟩
  · exact (Below.heap_setCell _ _ _ _ (by show w.heap.size ≠ w.heap.size + 2; omega)).trans ((Below.heap_setCell _ _ _ _ (by show w.heap.size ≠ w.heap.size + 2; omega)).trans ((Below.heap_setCell _ _ _ _ (by show w.heap.size ≠ w.heap.size + 2; omega)).trans h.res))
  · exact (Below.heap_setCell _ _ _ _ (by show w.heap.size + 1 ≠ w.heap.size + 2; omega)).trans ((Below.heap_setCell _ _ _ _ (by show w.heap.size + 1 ≠ w.heap.size + 2; omega)).trans ((Below.heap_setCell _ _ _ _ (by show w.heap.size + 1 ≠ w.heap.size + 2; omega)).trans h.non))
  · exact set_atC (j := 2) (set_atC (j := 1) (set_atC (j := 0) h.box u1) u2) u3
  · exact ho.set3 hc u1 u2 u3
  · exact ((h.b.setCell (p := ⟨w.heap.size + 2, 0, none⟩) (by show w.heap.size ≤ w.heap.size + 2; omega) u1).setCell (p := ⟨w.heap.size + 2, 1, none⟩) (by show w.heap.size ≤ w.heap.size + 2; omega) u2).setCell (p := ⟨w.heap.size + 2, 2, none⟩) (by show w.heap.size ≤ w.heap.size + 2; omega) u3
theorem PB.slices {w W : World} {v1 v2 v3 : Value} {vs : List Value} {c : Cd} (h : PB w W v1 v2 v3 vs c) : ∃ r1 d1 r2 d2 r3 d3, v1 = .slice r1 c.consts.length d1 ∧ v2 = .slice r2 c.procs.length d2 ∧ v3 = .slice r3 c.globals.length d3 := by
  obtain ⟨r1, d1, e1⟩ := own_slice' h.oc.o1
  obtain ⟨r2, d2, e2⟩ := own_slice' h.oc.o2
  obtain ⟨r3, d3, e3⟩ := own_slice' h.oc.o3
  exact ⟨r1, d1, r2, d2, r3, d3, e1, e2, e3⟩
theorem line_none10 {l : List UInt8} {j : Nat} (h : (10 : UInt8) ∉ l.take j) (hj : l.length ≤ j) : (10 : UInt8) ∉ l := by rwa [List.take_of_length_le hj] at h
theorem parsed_next {l : List UInt8} {c : Cd} {n : Int} {j : Nat} (h : (10 : UInt8) ∉ l.take j) (r : List UInt8) (hd : l.drop j = 10 :: r) : parsedV l c n = match takeV c (l.take j) with | some c' => parsedV r c' (n + 1) | none => (noCd, n) := by
  have e := List.take_append_drop j l
  rw [hd] at e
  have := parsedV_line (r := r) (c := c) (n := n) h
  rw [e] at this
  exact this
theorem Lim.mono {c : Cd} {a b : Nat} (h : Lim c a) (hab : a ≤ b) : Lim c b := ⟨Nat.le_trans h.1 hab, Nat.le_trans h.2.1 hab, Nat.le_trans h.2.2.1 hab, fun p hp => Nat.le_trans (h.2.2.2 p hp) hab⟩
end Go.Proofs.YtpkohocjgnodnaaGreatDoor
