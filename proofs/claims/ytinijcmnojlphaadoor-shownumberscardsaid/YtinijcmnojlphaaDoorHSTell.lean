/- A builder that is the last field of a teller: copyCheck, WriteByte, WriteString there. -/
import Derived.Test.YtinijcmnojlphaaDoorHSNames
import Derived.Shelf.Strings.BuilderK
namespace Go.Proofs.YtinijcmnojlphaaDoor
open Go.RowKit Go.Maps Go.ChangeMaps

/-- A teller's block: what is seen, names, labels, how many have come; its builder's own address, its bytes. -/
def TlAt (B b : Nat) (a0 a1 a2 a3 a4 p : Value) (l : List UInt8) (w : World) : Prop :=
  B ≤ b ∧ ∃ v, w.heap[b]? = some (.cells #[a0, a1, a2, a3, a4, p, v] 55 (0, 0)) ∧ w.ownsRowF B 5 1 v l.length (Lib.byteCells l) ∧ v.ownBlock ≠ some b
def Tl (B b : Nat) (a0 a1 a2 a3 a4 : Value) (l : List UInt8) (w : World) : Prop :=
  TlAt B b a0 a1 a2 a3 a4 (.pointer none) l w ∨ TlAt B b a0 a1 a2 a3 a4 (.pointer (some ⟨b, 5, none⟩)) l w
theorem TlAt.cell {B b : Nat} {a0 a1 a2 a3 a4 p : Value} {l : List UInt8} {w : World} (h : TlAt B b a0 a1 a2 a3 a4 p l w) : w.cell? ⟨b, 5, none⟩ = some p := by
  obtain ⟨_, v, hb, _⟩ := h
  simp [World.cell?, hb]
theorem TlAt.shape {B b : Nat} {a0 a1 a2 a3 a4 p : Value} {l : List UInt8} {w : World} (h : TlAt B b a0 a1 a2 a3 a4 p l w) : w.shape? b = some (55, 7) := by
  obtain ⟨_, v, hb, _⟩ := h
  simp [World.shape?, hb]
theorem TlAt.frozen {B b : Nat} {a0 a1 a2 a3 a4 p : Value} {l : List UInt8} {w : World} (h : TlAt B b a0 a1 a2 a3 a4 p l w) : w.frozen? ⟨b, 5, none⟩ = false := by
  obtain ⟨_, v, hb, _⟩ := h
  simp [World.frozen?, hb]
theorem grown_set (w : World) (a : Addr) (q : Value) : w.grownBy (w.setCell a q) (some a.block) := ⟨rfl, rfl, rfl, by simp [World.setCell], fun k _ hk => Below.heap_setCell _ _ _ _ (fun e => hk (by simp [e]))⟩
theorem TlAt.used {B b : Nat} {a0 a1 a2 a3 a4 p : Value} {l : List UInt8} {w : World} (h : TlAt B b a0 a1 a2 a3 a4 p l w) (q : Value) : TlAt B b a0 a1 a2 a3 a4 q l (w.setCell ⟨b, 5, none⟩ q) := by
  obtain ⟨hB, v, hb, hown, hne⟩ := h
  refine ⟨hB, v, ?_, hown.kept (grown_set w ⟨b, 5, none⟩ q) (Or.inr hne), hne⟩
  simp [World.setCell, Array.getElem?_modify, hb]
theorem TlAt.put {B b : Nat} {a0 a1 a2 a3 a4 p v v' : Value} {l : List UInt8} {w : World} (hB : B ≤ b) (hb : w.heap[b]? = some (.cells #[a0, a1, a2, a3, a4, p, v] 55 (0, 0))) (hown : w.ownsRowF B 5 1 v' l.length (Lib.byteCells l)) : TlAt B b a0 a1 a2 a3 a4 p l (w.setCell ⟨b, 6, none⟩ v') := by
  have hne := Lib.ownBlock_neF hown hb (by decide)
  refine ⟨hB, v', ?_, hown.kept (grown_set w ⟨b, 6, none⟩ v') (Or.inr hne), hne⟩
  simp [World.setCell, Array.getElem?_modify, hb]
/-- What writing turns: the teller's block, and rows of bytes from B on. -/
def Kp (B b : Nat) (w w' : World) : Prop := Below B w w' ∧ Lib.OthersKept 5 (some b) w w'
theorem Kp.refl (B b : Nat) (w : World) : Kp B b w w := ⟨Below.refl _ _, Lib.OthersKept.refl _ _ _⟩
theorem Kp.trans {B b : Nat} {u v w : World} (h : Kp B b u v) (k : Kp B b v w) : Kp B b u w := ⟨h.1.trans k.1, h.2.trans k.2⟩
theorem Kp.below {B b : Nat} {w w' : World} (h : Below w.heap.size w w') (hB : B ≤ w.heap.size) : Kp B b w w' := ⟨h.mono hB, fun k _ hk _ _ => (h.block k (Array.getElem?_eq_some_iff.1 hk).1).trans hk⟩
theorem bInfo : ∃ j, Tryd.prog.info? 53 = some j ∧ j.size = 2 := Option.map_eq_some_iff.1 (by kernel_rfl : (Tryd.prog.info? 53).map (·.size) = some 2)
theorem bLies : liesAt Tryd.prog Tryd.prog.depth 55 (7 / Tryd.prog.cellsOf 55) 5 53 1 = true := by kernel_rfl
set_option maxHeartbeats 1000000 in
set_option maxRecDepth 100000 in
theorem copy_used (b : Nat) (w : World) (h0 : w.cell? ⟨b, 5, none⟩ = some (.pointer (some ⟨b, 5, none⟩))) :
    Calls Tryd.prog 44 #[.pointer (some ⟨b, 5, none⟩)] w fun e w' => e = .returned (.tuple #[]) ∧ w' = w := by
  obtain ⟨j, hj, _⟩ := bInfo
  go_enter Tryd.func44, Tryd.ntmps44
  go_wp2
  rw [Lib.run_neq_ptr_same w _ Tryd.underlying50 hj]
  go_wp2
  go_end0
  exact ⟨rfl, rfl⟩
set_option maxHeartbeats 1000000 in
set_option maxRecDepth 100000 in
theorem copy_fresh (b : Nat) (w : World) (h0 : w.cell? ⟨b, 5, none⟩ = some (.pointer none)) (hsh : w.shape? b = some (55, 7)) (hfz : w.frozen? ⟨b, 5, none⟩ = false) :
    Calls Tryd.prog 44 #[.pointer (some ⟨b, 5, none⟩)] w fun e w' => e = .returned (.tuple #[]) ∧ w' = w.setCell ⟨b, 5, none⟩ (.pointer (some ⟨b, 5, none⟩)) := by
  obtain ⟨j, hj, hjs⟩ := bInfo
  go_enter Tryd.func44, Tryd.ntmps44
  go_wp2
  rw [Lib.run_to_unsafe w ⟨b, 5, none⟩ Tryd.underlying50 Tryd.underlying118 hj (by rw [hjs]; decide) hsh (by show 5 < 7; decide)]
  simp only [Result.andThen]
  rw [Oper.upon_value]
  go_wp2
  rw [run_callFunc_extern Tryd.func56 (by kernel_rfl) (by kernel_rfl) (by kernel_rfl) (e := Extern.AbiNoEscape.same) (by kernel_rfl)]
  rw [Lib.run_noEscape]
  simp only [Result.andThen]
  rw [Oper.upon_value]
  go_wp2
  rw [Lib.run_from_unsafe w ⟨b, 5, none⟩ Tryd.underlying118 Tryd.underlying50 hj hsh bLies]
  simp only [Result.andThen]
  rw [Oper.upon_value]
  go_wp2
  go_end0
  exact ⟨rfl, rfl⟩
theorem copy_any (B b : Nat) (a0 a1 a2 a3 a4 : Value) (l : List UInt8) (w : World) (h : Tl B b a0 a1 a2 a3 a4 l w) :
    Calls Tryd.prog 44 #[.pointer (some ⟨b, 5, none⟩)] w fun e w' => e = .returned (.tuple #[]) ∧ TlAt B b a0 a1 a2 a3 a4 (.pointer (some ⟨b, 5, none⟩)) l w' ∧ Kp B b w w' := by
  rcases h with h | h
  · refine (copy_fresh b w h.cell h.shape h.frozen).mono ?_
    rintro e w' ⟨rfl, rfl⟩
    exact ⟨rfl, h.used _, (Below.refl B w).setCell (p := ⟨b, 5, none⟩) h.1 _, (Lib.OthersKept.refl _ _ w).setCell ⟨b, 5, none⟩ rfl _⟩
  · refine (copy_used b w h.cell).mono ?_
    rintro e w' ⟨rfl, rfl⟩
    exact ⟨rfl, h, Kp.refl ..⟩
end Go.Proofs.YtinijcmnojlphaaDoor
