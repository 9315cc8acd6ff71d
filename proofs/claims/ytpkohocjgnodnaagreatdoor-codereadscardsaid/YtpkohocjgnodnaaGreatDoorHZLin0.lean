/- The document's line: what its walks share. -/
import Derived.Test.YtpkohocjgnodnaaGreatDoorHZWord
import Derived.Test.YtpkohocjgnodnaaGreatDoorHZInst
import Derived.Test.YtpkohocjgnodnaaGreatDoorGAP
namespace Go.Proofs.YtpkohocjgnodnaaGreatDoor
open Go.RowKit

/-- A block that holds a Code. -/
def isC (w : World) (g : Nat) : Prop := ∃ cur, w.heap[g]? = some (.cells cur 26 (0, 0))
theorem isC.set {w : World} {b j : Nat} {v : Value} (h : isC w b) : isC (w.setCell ⟨b, j, none⟩ v) b := by
  obtain ⟨cur, h⟩ := h
  exact ⟨_, set_atC h v⟩
theorem own_notC {w : World} {base e size n : Nat} {v : Value} {xs : List Value} (h : w.ownsRow base e size v n xs) (he : e ≠ 26) {g : Nat} (hg : v.ownBlock = some g) : ¬ isC w g := fun ⟨cur, k⟩ => by
  obtain ⟨c, k2⟩ := own_type h hg
  rw [k2] at k
  cases k
  exact he rfl
/-- Where nothing but boxes of Code turns, code stays. -/
theorem OC.cd {w w' : World} {base : Nat} {v1 v2 v3 : Value} {vs : List Value} {c : Cd} (h : OC w base v1 v2 v3 vs c) (hk : ∀ g, g < w.heap.size → ¬ isC w g → w'.heap[g]? = w.heap[g]?) : OC w' base v1 v2 v3 vs c := by
  have key : ∀ {e s n : Nat} {v : Value} {xs : List Value}, w.ownsRow base e s v n xs → e ≠ 26 → w'.ownsRow base e s v n xs := fun ho he => own_same ho (fun g hg => hk g (ho.lt g hg).2 (own_notC ho he hg))
  exact ⟨key h.o1 (by decide), key h.o2 (by decide), key h.o3 (by decide), h.hv, fun j p v hp hv => key (h.code j p v hp hv) (by decide), h.inc⟩
theorem OC.setC {w : World} {base b j : Nat} {v1 v2 v3 v : Value} {vs : List Value} {c : Cd} (h : OC w base v1 v2 v3 vs c) (hb : isC w b) : OC (w.setCell ⟨b, j, none⟩ v) base v1 v2 v3 vs c :=
  h.cd (fun _ _ hn => Below.heap_setCell _ _ _ _ (fun e => hn (e ▸ hb)))
theorem OC.set3 {w : World} {base b : Nat} {v1 v2 v3 : Value} {vs : List Value} {c : Cd} (h : OC w base v1 v2 v3 vs c) (hb : isC w b) (x y z : Value) : OC (((w.setCell ⟨b, 0, none⟩ x).setCell ⟨b, 1, none⟩ y).setCell ⟨b, 2, none⟩ z) base v1 v2 v3 vs c :=
  ((h.setC hb).setC hb.set).setC hb.set.set
theorem OC.below {w w' : World} {base : Nat} {v1 v2 v3 : Value} {vs : List Value} {c : Cd} (h : OC w base v1 v2 v3 vs c) (hb : Below w.heap.size w w') : OC w' base v1 v2 v3 vs c := h.same (fun g _ hg => hb.block g hg)
abbrev C3 (r1 : Option Addr) (n1 d1 : Nat) (r2 : Option Addr) (n2 d2 : Nat) (r3 : Option Addr) (n3 d3 : Nat) : Value := .agg #[.slice r1 n1 d1, .slice r2 n2 d2, .slice r3 n3 d3]
/-- What line tells: the code with a line more, or that there is none. -/
def LineR (o : Option Cd) (base : Nat) (e : Ending) (w' : World) : Prop := ∃ r1 n1 d1 r2 n2 d2 r3 n3 d3 ok, e = .returned (.tuple #[C3 r1 n1 d1 r2 n2 d2 r3 n3 d3, .bool ok]) ∧
  ((∃ c' vs, o = some c' ∧ ok = true ∧ OC w' base (.slice r1 n1 d1) (.slice r2 n2 d2) (.slice r3 n3 d3) vs c') ∨ (o = none ∧ ok = false))
/-- Boxes of Code that were there stay. -/
def KC (w w' : World) : Prop := ∀ g, g < w.heap.size → isC w g → w'.heap[g]? = w.heap[g]?
/-- The box of the code that comes in, and that of the answer. -/
structure LB (w W : World) (base bc br : Nat) (u1 u2 u3 : Value) : Prop where
  box : W.heap[bc]? = some (.cells #[u1, u2, u3] 26 (0, 0))
  res : W.heap[br]? = some ZC
  b : Below base w W
  kc : KC w W
theorem LB.isc {w W : World} {base bc br : Nat} {u1 u2 u3 : Value} (h : LB w W base bc br u1 u2 u3) : isC W bc ∧ isC W br := ⟨⟨_, h.box⟩, ⟨_, h.res⟩⟩
theorem LB.lt {w W : World} {base bc br : Nat} {u1 u2 u3 : Value} (h : LB w W base bc br u1 u2 u3) : bc < W.heap.size ∧ br < W.heap.size := ⟨(Array.getElem?_eq_some_iff.1 h.box).1, (Array.getElem?_eq_some_iff.1 h.res).1⟩
theorem LB.below {w W W' : World} {base bc br : Nat} {u1 u2 u3 : Value} (h : LB w W base bc br u1 u2 u3) (hb : Below W.heap.size W W') (hB : base ≤ W.heap.size) : LB w W' base bc br u1 u2 u3 :=
  ⟨(hb.block _ h.lt.1).trans h.box, (hb.block _ h.lt.2).trans h.res, h.b.trans (hb.mono hB), fun g hg hc => (hb.block g (Nat.lt_of_lt_of_le hg h.b.size)).trans (h.kc g hg hc)⟩
theorem LB.cells {w W : World} {base bc br : Nat} {u1 u2 u3 : Value} (h : LB w W base bc br u1 u2 u3) :
    (W.cell? ⟨bc, 0, none⟩ = some u1 ∧ W.cell? ⟨bc, 1, none⟩ = some u2 ∧ W.cell? ⟨bc, 2, none⟩ = some u3 ∧ W.frozen? ⟨bc, 0, none⟩ = false ∧ W.frozen? ⟨bc, 1, none⟩ = false ∧ W.frozen? ⟨bc, 2, none⟩ = false) ∧
    (W.cell? ⟨br, 0, none⟩ = some (.slice none 0 0) ∧ W.cell? ⟨br, 1, none⟩ = some (.slice none 0 0) ∧ W.cell? ⟨br, 2, none⟩ = some (.slice none 0 0) ∧ W.frozen? ⟨br, 0, none⟩ = false ∧ W.frozen? ⟨br, 1, none⟩ = false ∧ W.frozen? ⟨br, 2, none⟩ = false) := by
  have h1 := h.box
  have h2 := h.res
  refine ⟨⟨?_, ?_, ?_, ?_, ?_, ?_⟩, ?_, ?_, ?_, ?_, ?_, ?_⟩ <;> simp [World.cell?, World.frozen?, h1, h2]
theorem LB.new (w : World) (base : Nat) (hB : base ≤ w.heap.size) (u1 u2 u3 : Value) : LB w ((w.alloc (CO u1 u2 u3)).alloc ZC) base w.heap.size (w.heap.size + 1) u1 u2 u3 := by
  have e1 : (w.alloc (CO u1 u2 u3)).heap.size = w.heap.size + 1 := World.size_alloc ..
  have h := heap_alloc_new (w.alloc (CO u1 u2 u3)) ZC
  rw [e1] at h
  exact ⟨(Below.heap_alloc _ _ _ (by rw [e1]; omega)).trans (heap_alloc_new w _), h, ((Below.refl _ w).alloc hB _).alloc (by rw [e1]; omega) _, fun g hg _ => (Below.heap_alloc _ _ _ (by rw [e1]; omega)).trans (Below.heap_alloc _ _ _ hg)⟩
/-- A row behind the box has grown, and its place in the box is written: place k. -/
theorem LB.grown {w W W6 : World} {base bc br : Nat} {u1 u2 u3 u v : Value} (h : LB w W base bc br u1 u2 u3) (hk : ∀ g, g < W.heap.size → u.ownBlock ≠ some g → W6.heap[g]? = W.heap[g]?) (_ : W.heap.size ≤ W6.heap.size)
    (hb : Below base W W6) (hc : u.ownBlock ≠ some bc) (hr : u.ownBlock ≠ some br) (hne : bc ≠ br) (hB : base ≤ bc) (hnC : ∀ g, isC W g → u.ownBlock ≠ some g) (hwb : w.heap.size ≤ bc) (k : Nat) (a1 a2 a3 : Value) (he : (#[u1, u2, u3] : Array Value).setIfInBounds k v = #[a1, a2, a3]) :
    LB w (W6.setCell ⟨bc, k, none⟩ v) base bc br a1 a2 a3 := by
  have h1 := (hk bc h.lt.1 hc).trans h.box
  have h2 := set_atC (j := k) h1 v
  rw [he] at h2
  exact ⟨h2, (Below.heap_setCell _ _ _ _ (Ne.symm hne)).trans ((hk br h.lt.2 hr).trans h.res), (h.b.trans hb).setCell (p := ⟨bc, k, none⟩) hB v, fun g hg hc => (Below.heap_setCell _ _ _ _ (by show g ≠ bc; omega)).trans ((hk g (Nat.lt_of_lt_of_le hg h.b.size) (hnC g (by obtain ⟨cur, e⟩ := hc; exact ⟨cur, (h.kc g hg ⟨cur, e⟩).trans e⟩))).trans (h.kc g hg hc))⟩
theorem LB.fin {w W : World} {base bc br : Nat} {u1 u2 u3 : Value} (h : LB w W base bc br u1 u2 u3) (hB : base ≤ br) (hw : w.heap.size ≤ br) (x y z : Value) : Below base w (((W.setCell ⟨br, 0, none⟩ x).setCell ⟨br, 1, none⟩ y).setCell ⟨br, 2, none⟩ z) ∧ KC w (((W.setCell ⟨br, 0, none⟩ x).setCell ⟨br, 1, none⟩ y).setCell ⟨br, 2, none⟩ z) :=
  ⟨((h.b.setCell (p := ⟨br, 0, none⟩) hB x).setCell (p := ⟨br, 1, none⟩) hB y).setCell (p := ⟨br, 2, none⟩) hB z, fun g hg hc => (same3 _ _ _ _ _ (by omega)).trans (h.kc g hg hc)⟩
theorem LB.finD {w W : World} {base bc br : Nat} {u1 u2 u3 : Value} (h : LB w W base bc br u1 u2 u3) (hB : base ≤ br) (hw : w.heap.size ≤ br) (x y z : Value) : Below base w (((W.setCell ⟨br, 0, none⟩ x).setCell ⟨br, 1, none⟩ y).setCell ⟨br, 2, none⟩ z).drew ∧ KC w (((W.setCell ⟨br, 0, none⟩ x).setCell ⟨br, 1, none⟩ y).setCell ⟨br, 2, none⟩ z).drew :=
  ⟨(h.fin hB hw x y z).1.drew, (h.fin hB hw x y z).2⟩
end Go.Proofs.YtpkohocjgnodnaaGreatDoor
