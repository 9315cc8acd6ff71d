/- Word and tail, with any fuel.; String at a teller's builder. -/
import Derived.Test.YtejmoopgfnjaaaaDoorK21
import Derived.Shelf.RegionOpenPlain
import Derived.Lib.UnsafeStr
/- Word and tail, with any fuel. -/
namespace Go.Proofs.YtejmoopgfnjaaaaDoor
open Go.RowKit Go.Maps Go.ChangeMaps

theorem tells_upto (E : Env) (hE : EnvOk E) : ∀ fu j, j ≤ fu → CallC E j true 21 ∧ CallC E j false 39 := by
  intro fu
  induction fu with
  | zero =>
    intro j hj
    obtain rfl : j = 0 := by omega
    refine ⟨?_, ?_⟩
    · intro f k x r l n w ht
      unfold tell at ht
      cases ht
    · intro f k x r l n w ht
      unfold tell at ht
      cases ht
  | succ fu ih =>
    intro j hj
    by_cases h : j ≤ fu
    · exact ih j h
    · obtain rfl : j = fu + 1 := by omega
      exact ⟨word_step E hE fu (ih fu (Nat.le_refl _)).1 (ih fu (Nat.le_refl _)).2, tail_step E hE fu (fun i hi => (ih i hi).1)⟩
/-- Word writes what is told. -/
theorem word_tells (E : Env) (hE : EnvOk E) (fu : Nat) : CallC E fu true 21 := (tells_upto E hE fu fu (Nat.le_refl _)).1
end Go.Proofs.YtejmoopgfnjaaaaDoor

/- String at a teller's builder. -/
namespace Go.Proofs.YtejmoopgfnjaaaaDoor
open Go.RowKit Go.Maps Go.ChangeMaps

set_option maxHeartbeats 1000000 in
set_option maxRecDepth 100000 in
theorem string_any (B b : Nat) (a0 a1 a2 a3 a4 : Value) (l : List UInt8) (w : World) (h : Tl B b a0 a1 a2 a3 a4 l w) (h0 : l ≠ []) :
    Calls Tryd.prog 22 #[.pointer (some ⟨b, 5, none⟩)] w fun e w' => e = .returned (S l) ∧ Below B w w' := by
  obtain ⟨hB, p, v, hp, hbk, hown, hne⟩ := h.block
  have hl0 : l.length ≠ 0 := by simpa using h0
  obtain ⟨g, cap, cur, fz, rfl, hbg, hg, hfz, hnc, hcm, hcs, htake⟩ : ∃ g cap cur fz, v = .slice (some ⟨g, 0, none⟩) l.length cap ∧ B ≤ g ∧ w.heap[g]? = some (.cells cur 5 fz) ∧ fz.2 ≤ l.length * 1 ∧ l.length ≤ cap ∧ cap ≤ maxLen ∧ cur.size = cap * 1 ∧ cur.toList.take (l.length * 1) = Lib.byteCells l := by
    rcases hown.2 with ⟨_, hz⟩ | ⟨g, cap, cur, fz, hv, r⟩
    · exact absurd hz hl0
    · exact ⟨g, cap, cur, fz, hv, r⟩
  have c1 : w.drew.cell? ⟨b, 6, none⟩ = some (.slice (some ⟨g, 0, none⟩) l.length cap) := heap_cell (w := w.drew) (j := 6) hbk rfl
  have hSD : (Builtin.unsafeSliceData_ #[61] 97 #[.slice (some ⟨g, 0, none⟩) l.length cap]).run Tryd.prog w.drew = .ok (.pointer (some ⟨g, 0, none⟩)) w.drew :=
    Lib.run_unsafeSliceData_row _ _ _ _ _ _ (by omega)
  have hUS : (Builtin.unsafeString_ #[97, 3] 9 #[.pointer (some ⟨g, 0, none⟩), .int .i64 l.length]).run Tryd.prog w.drew = .ok (.string ⟨l.toArray⟩) (w.drew.freeze ⟨g, 0, none⟩ l.length) := by
    refine Lib.run_unsafeString_row w.drew 97 3 9 5 Tryd.underlying97 (by kernel_rfl) g cur.size (by have hg' : w.drew.heap[g]? = some (.cells cur 5 fz) := hg; simp [World.shape?, hg']) l h0 (by omega) (by unfold maxLen at hcm; omega) ?_
    intro j x hx
    have := hown.cells (g := g) rfl j (.int .u8 x.toNat) (by simp [Lib.byteCells, hx])
    exact this
  have HB : Hid (Below B w (w.drew.freeze ⟨g, 0, none⟩ l.length)) := Lib.below_freeze (Below.drew (Below.refl B w)) (p := ⟨g, 0, none⟩) hbg _
  have hmx : Tryd.prog.follows .mixedOrders = true := by kernel_rfl
  clear h hown htake hcs hcm hnc hfz hg hbk hne
  go_enter Tryd.func22, Tryd.ntmps22
  go_wp2
  go_region_o
  all_goals (go_wp2; go_ret; exact ⟨rfl, HB.out⟩)
end Go.Proofs.YtejmoopgfnjaaaaDoor
