/- A sweeper in memory; its small calls. -/
import Derived.Test.YtjbfpklbgefacaaHMSnap
namespace Go.Proofs.Ytjbfpklbgefacaa
open Go.RowKit

abbrev swO (hb : Nat) (at' fr : Int) : Obj := .cells #[.pointer (some ⟨hb, 0, none⟩), .int .i64 at', .int .i64 fr] 45
/-- How a sweeper lies. -/
def SW (w : World) (sb hb : Nat) (at' fr : Int) : Prop := w.heap[sb]? = some (swO hb at' fr)
theorem SW.lt {w : World} {sb hb : Nat} {a f : Int} (h : SW w sb hb a f) : sb < w.heap.size := heap_lt h
theorem SW.kept {w w' : World} {sb hb : Nat} {a f : Int} (h : SW w sb hb a f) (hk : w'.heap[sb]? = w.heap[sb]?) : SW w' sb hb a f := hk.trans h
theorem SW.cell {w : World} {sb hb : Nat} {a f : Int} (h : SW w sb hb a f) : w.cell? ⟨sb, 0, none⟩ = some (.pointer (some ⟨hb, 0, none⟩)) ∧ w.cell? ⟨sb, 1, none⟩ = some (.int .i64 a) ∧ w.cell? ⟨sb, 2, none⟩ = some (.int .i64 f) ∧ ∀ j, w.frozen? ⟨sb, j, none⟩ = false :=
  ⟨heap_cell h rfl, heap_cell h rfl, heap_cell h rfl, fun j => by simp [World.frozen?, show w.heap[sb]? = _ from h]⟩
theorem SW.set {w : World} {sb hb : Nat} {a f : Int} (h : SW w sb hb a f) (a' f' : Int) : SW ((w.setCell ⟨sb, 1, none⟩ (.int .i64 a')).setCell ⟨sb, 2, none⟩ (.int .i64 f')) sb hb a' f' :=
  set_atC (set_atC h _) _
theorem SW.set1 {w : World} {sb hb : Nat} {a f : Int} (h : SW w sb hb a f) (a' : Int) : SW (w.setCell ⟨sb, 1, none⟩ (.int .i64 a')) sb hb a' f :=
  set_atC h _
theorem fr_set1 (w : World) (sb j : Nat) (v : Value) : Fr (fun g => g ≠ sb) w (w.setCell ⟨sb, j, none⟩ v) :=
  ⟨(Below.refl 0 w).setCell (p := ⟨sb, j, none⟩) (Nat.zero_le _) _, fun _ hg _ => Below.heap_setCell _ _ _ _ hg⟩
theorem fr_set2 (w : World) (sb j k : Nat) (v u : Value) : Fr (fun g => g ≠ sb) w ((w.setCell ⟨sb, j, none⟩ v).setCell ⟨sb, k, none⟩ u) :=
  (fr_set1 w sb j v).trans (fr_set1 _ sb k u)
set_option maxRecDepth 100000 in
set_option maxHeartbeats 4000000 in
theorem len_any {hb ab : Nat} {h : List Cl} (w : World) (H : CH w hb ab h) : Calls Try.prog 25 #[.pointer (some ⟨hb, 0, none⟩)] w fun e w' => e = .returned (.int .i64 h.length) ∧ w' = w := by
  have c1 : w.cell? ⟨hb, 0, none⟩ = some (.slice (some ⟨ab, 0, none⟩) h.length h.length) := heap_cell H.v rfl
  clear H
  go_enter Try.func25, Try.ntmps25
  go_wp2
  go_ret
  exact ⟨rfl, rfl⟩
set_option maxRecDepth 100000 in
set_option maxHeartbeats 4000000 in
theorem at_any {sb hb : Nat} {a f : Int} (w : World) (H : SW w sb hb a f) : Calls Try.prog 18 #[.pointer (some ⟨sb, 1, none⟩)] w fun e w' => e = .returned (.int .i64 a) ∧ w' = w := by
  obtain ⟨c0, c1, c2, _⟩ := H.cell
  clear H
  go_enter Try.func18, Try.ntmps18
  go_wp2
  go_ret
  exact ⟨rfl, rfl⟩
set_option maxRecDepth 100000 in
set_option maxHeartbeats 4000000 in
theorem freed_any {sb hb : Nat} {a f : Int} (w : World) (H : SW w sb hb a f) : Calls Try.prog 19 #[.pointer (some ⟨sb, 1, none⟩)] w fun e w' => e = .returned (.int .i64 f) ∧ w' = w := by
  obtain ⟨c0, c1, c2, _⟩ := H.cell
  clear H
  go_enter Try.func19, Try.ntmps19
  go_wp2
  go_ret
  exact ⟨rfl, rfl⟩
set_option maxRecDepth 100000 in
set_option maxHeartbeats 4000000 in
theorem begin_any {sb hb : Nat} {a f : Int} (w : World) (H : SW w sb hb a f) : Calls Try.prog 11 #[.pointer (some ⟨sb, 1, none⟩)] w fun e w' => e = .returned (.tuple #[]) ∧ SW w' sb hb 0 0 ∧ Fr (fun g => g ≠ sb) w w' := by
  obtain ⟨c0, c1, c2, cf⟩ := H.cell
  have HH : Hid (SW w sb hb a f) := H
  clear H
  go_enter Try.func11, Try.ntmps11
  go_wp2
  refine bodyPost_end (results_none rfl _ _ _) rfl ?_
  exact ⟨rfl, HH.out.set 0 0, fr_set2 w sb 1 2 _ _⟩
def b1 (b : Bool) : Int := if b then 1 else 0
set_option maxRecDepth 100000 in
set_option maxHeartbeats 4000000 in
theorem note_any {sb hb : Nat} {a f : Nat} (b : Bool) (w : World) (H : SW w sb hb a f) (ha : a ≤ 100000) (hf : f ≤ 100000) : Calls Try.prog 30 #[.pointer (some ⟨sb, 1, none⟩), .bool b] w fun e w' => e = .returned (.tuple #[]) ∧ SW w' sb hb (a + 1 : Nat) (f + b.toNat : Nat) ∧ Fr (fun g => g ≠ sb) w w' := by
  obtain ⟨c0, c1, c2, cf⟩ := H.cell
  have HH : Hid (SW w sb hb a f) := H
  clear H
  cases b
  · go_enter Try.func30, Try.ntmps30
    go_wp2
    refine bodyPost_end (results_none rfl _ _ _) rfl ?_
    exact ⟨rfl, HH.out.set1 _, fr_set1 w sb 1 _⟩
  · go_enter Try.func30, Try.ntmps30
    go_wp2
    refine bodyPost_end (results_none rfl _ _ _) rfl ?_
    exact ⟨rfl, HH.out.set _ _, fr_set2 w sb 1 2 _ _⟩
set_option maxRecDepth 100000 in
set_option maxHeartbeats 4000000 in
theorem done_any {sb hb ab : Nat} {a f : Int} {h : List Cl} (w : World) (H : SW w sb hb a f) (C : CH w hb ab h) : Calls Try.prog 20 #[.pointer (some ⟨sb, 0, none⟩)] w fun e w' => e = .returned (.bool (a == (h.length : Int))) ∧ Below w.heap.size w w' := by
  obtain ⟨c0, c1, c2, cf⟩ := H.cell
  have HA : Hid (∀ W, W.heap = w.heap → Calls Try.prog 18 #[.pointer (some ⟨sb, 1, none⟩)] W fun e w' => e = .returned (.int .i64 a) ∧ w' = W) := fun W hW => at_any W (H.kept (by rw [hW]))
  have HL : Hid (∀ W, W.heap = w.heap → Calls Try.prog 25 #[.pointer (some ⟨hb, 0, none⟩)] W fun e w' => e = .returned (.int .i64 h.length) ∧ w' = W) := fun W hW => len_any W (C.kept (by rw [hW]) (by rw [hW]) (fun q cs _ => by rw [hW]))
  clear H C
  go_enter Try.func20, Try.ntmps20
  go_wp2_with fail
  go_quiet (first | (go_at_call 18; exact Calls.quiet_of_same (HA.out _ rfl)) | (go_at_call 25; exact Calls.quiet_of_same (HL.out _ rfl)))
  go_wp2_with fail
  go_ret
  exact ⟨rfl, below_drewN (Below.refl _ w) _⟩
/-- A sweeper that is made. -/
def SnewR (w : World) (hb n : Nat) (e : Ending) (w' : World) : Prop := ∃ sb, e = .returned (.pointer (some ⟨sb, 0, none⟩)) ∧ SW w' sb hb n 0 ∧ Below w.heap.size w w' ∧ w.heap.size ≤ sb
set_option maxRecDepth 100000 in
set_option maxHeartbeats 4000000 in
theorem snew_any {hb ab : Nat} {h : List Cl} (w : World) (C : CH w hb ab h) : Calls Try.prog 9 #[.pointer (some ⟨hb, 0, none⟩)] w fun e w' => SnewR w hb h.length e w' := by
  have HL : Hid (Calls Try.prog 25 #[.pointer (some ⟨hb, 0, none⟩)] w fun e w' => e = .returned (.int .i64 h.length) ∧ w' = w) := len_any w C
  clear C
  go_enter Try.func9, Try.ntmps9
  go_wp2_with fail
  refine Calls.mono HL.out ?_
  rintro e w' ⟨rfl, hw'⟩
  rw [hw']
  clear hw'
  go_wp2_with fail
  go_ret
  exact ⟨w.heap.size, rfl, heap_alloc_new w _, (Below.refl _ w).alloc (Nat.le_refl _) _, Nat.le_refl _⟩
end Go.Proofs.Ytjbfpklbgefacaa
