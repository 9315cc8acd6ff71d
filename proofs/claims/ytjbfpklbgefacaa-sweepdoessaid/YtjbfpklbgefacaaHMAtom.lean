/- Pointers that are laid, loaded and exchanged by sync/atomic, in the run of one goroutine; the methods of Pointer. -/
import Derived.Test.YtjbfpklbgefacaaHBBase
import Derived.Laws.LoneSync
namespace Go.Proofs.Ytjbfpklbgefacaa
open Go.RowKit

abbrev cV (x : Cl) : Value := .agg #[.int .u8 x.k, .int .u8 x.c, .int .u64 x.a, .int .u64 x.b]
abbrev cL (x : Cl) : Array Value := #[.int .u8 x.k, .int .u8 x.c, .int .u64 x.a, .int .u64 x.b]
/-- A block that is a state. -/
def SB (w : World) (q : Nat) (x : Cl) : Prop := w.heap[q]? = some (.cells (cL x) 84 (0, 0))
theorem SB.lt {w : World} {q : Nat} {x : Cl} (h : SB w q x) : q < w.heap.size := heap_lt h
theorem SB.cell {w : World} {q : Nat} {x : Cl} (h : SB w q x) : w.cell? ⟨q, 0, none⟩ = some (.int .u8 x.k) ∧ w.cell? ⟨q, 1, none⟩ = some (.int .u8 x.c) ∧ w.cell? ⟨q, 2, none⟩ = some (.int .u64 x.a) ∧ w.cell? ⟨q, 3, none⟩ = some (.int .u64 x.b) :=
  ⟨heap_cell h rfl, heap_cell h rfl, heap_cell h rfl, heap_cell h rfl⟩
theorem SB.kept {w w' : World} {q : Nat} {x : Cl} (h : SB w q x) (hk : w'.heap[q]? = w.heap[q]?) : SB w' q x := hk.trans h

theorem conv_in {w : World} {q : Nat} {x : Cl} (h : SB w q x) : (convert 74 78 (.pointer (some ⟨q, 0, none⟩))).run Try.prog w = .ok (.pointer (some ⟨q, 0, none⟩)) w :=
  run_convert_to_unsafe (t := 84) Try.underlying74 Try.underlying78 (by kernel_rfl) h.cell.1
theorem lies_state : liesAt Try.prog Try.prog.depth 84 (4 / Try.prog.cellsOf 84) 0 84 1 = true := by kernel_rfl
theorem conv_out {w : World} {q : Nat} {x : Cl} (h : SB w q x) : (convert 78 74 (.pointer (some ⟨q, 0, none⟩))).run Try.prog w = .ok (.pointer (some ⟨q, 0, none⟩)) w := by
  have hs : w.shape? q = some (84, 4) := by simp [World.shape?, show w.heap[q]? = _ from h]
  simp [convert, go_sem, Conv.unsafePointer, Conv.seenAt, viewAt, hs, variablesAt, lies_state]

theorem aload {a p : Addr} {w : World} (hc : w.cell? a = some (.pointer (some p))) : (callFunc 40 #[.pointer (some a)]).run Try.prog w = .ok (.value (.pointer (some p))) w := by
  rw [run_callFunc_extern Try.func40 (by kernel_rfl) (by kernel_rfl) (by kernel_rfl) (e := Extern.Atomic.loadT .ptr) (by kernel_rfl)]
  change (Sem.run Try.prog (do Extern.Atomic.read .ptr (← asAddr (.pointer (some a)))) w).andThen _ = _
  simp [Extern.Atomic.read, asAddr, hc, Result.andThen]
theorem astore {a : Addr} {u : Value} {p : Option Addr} {w : World} (hc : w.cell? a = some u) (hz : w.frozen? a = false) : (callFunc 42 #[.pointer (some a), .pointer p]).run Try.prog w = .ok (.value (.tuple #[])) (w.setCell a (.pointer p)) := by
  rw [run_callFunc_extern Try.func42 (by kernel_rfl) (by kernel_rfl) (by kernel_rfl) (e := Extern.Atomic.storeT) (by kernel_rfl)]
  change (Sem.run Try.prog (do
    store (← asAddr (.pointer (some a))) (.pointer p) .atomic
    pure Extern.Atomic.none_) w).andThen _ = _
  simp [asAddr, hc, hz, run_store Try.prog w a (.pointer p) .atomic rfl, Result.andThen, Extern.Atomic.none_]
theorem acas {a : Addr} {q : Nat} {p : Option Addr} {w : World} (hc : w.cell? a = some (.pointer (some ⟨q, 0, none⟩))) (hz : w.frozen? a = false) : (callFunc 44 #[.pointer (some a), .pointer (some ⟨q, 0, none⟩), .pointer p]).run Try.prog w = .ok (.value (.bool true)) (w.setCell a (.pointer p)) := by
  rw [run_callFunc_extern Try.func44 (by kernel_rfl) (by kernel_rfl) (by kernel_rfl) (e := Extern.Atomic.casT .ptr) (by kernel_rfl)]
  change (Sem.run Try.prog (do
    let a' ← asAddr (.pointer (some a))
    if ← Extern.Atomic.touchesFrozen a' then unsupported (.unsafePointer "a write to bytes that a string shares")
    let eq ← match Extern.Atomic.T.ptr, ← Extern.Atomic.read .ptr a', Value.pointer (some ⟨q, 0, none⟩) with
      | _, .int _ x, .int _ y => pure (x == y)
      | .ptr, .pointer x, .pointer y => samePointer x y
      | .int _, .pointer (some _), .int _ 0 | .int _, .int _ 0, .pointer (some _) => pure false
      | .int _, .pointer (some _), _ | .int _, _, .pointer (some _) => unsupported .addressObserved
      | _, _, _ => stuck "atomic.CompareAndSwap: old is no T"
    if eq then store a' (.pointer p) .atomic
    pure (Value.bool eq)) w).andThen _ = _
  simp [Extern.Atomic.touchesFrozen, Extern.Atomic.read, asAddr, viewAt, World.shape?_isSome_of_cell? hc, hc, hz, samePointer, sameAddr, run_store Try.prog w a (.pointer p) .atomic rfl, Result.andThen]

set_option maxRecDepth 100000 in
set_option maxHeartbeats 4000000 in
theorem pload_any {ab i q : Nat} {x : Cl} {w : World} (hc : w.cell? ⟨ab, i, none⟩ = some (.pointer (some ⟨q, 0, none⟩))) (hq : SB w q x) :
    Calls Try.prog 29 #[.pointer (some ⟨ab, i, none⟩)] w fun e w' => e = .returned (.pointer (some ⟨q, 0, none⟩)) ∧ w' = w := by
  have h1 := aload hc
  have h2 := conv_out hq
  go_enter Try.func29, Try.ntmps29
  go_wp2
  go_ret
  exact ⟨rfl, rfl⟩
set_option maxRecDepth 100000 in
set_option maxHeartbeats 4000000 in
theorem pstore_any {ab i q : Nat} {x : Cl} {u : Value} {w : World} (hc : w.cell? ⟨ab, i, none⟩ = some u) (hz : w.frozen? ⟨ab, i, none⟩ = false) (hq : SB w q x) :
    Calls Try.prog 36 #[.pointer (some ⟨ab, i, none⟩), .pointer (some ⟨q, 0, none⟩)] w fun e w' => e = .returned (.tuple #[]) ∧ w' = w.setCell ⟨ab, i, none⟩ (.pointer (some ⟨q, 0, none⟩)) := by
  have h1 := astore (p := some ⟨q, 0, none⟩) hc hz
  have h2 := conv_in hq
  go_enter Try.func36, Try.ntmps36
  go_wp2
  go_end0
  exact ⟨rfl, rfl⟩
set_option maxRecDepth 100000 in
set_option maxHeartbeats 4000000 in
theorem pcas_any {ab i q r : Nat} {x y : Cl} {w : World} (hc : w.cell? ⟨ab, i, none⟩ = some (.pointer (some ⟨q, 0, none⟩))) (hz : w.frozen? ⟨ab, i, none⟩ = false) (hq : SB w q x) (hr : SB w r y) :
    Calls Try.prog 41 #[.pointer (some ⟨ab, i, none⟩), .pointer (some ⟨q, 0, none⟩), .pointer (some ⟨r, 0, none⟩)] w fun e w' => e = .returned (.bool true) ∧ w' = w.setCell ⟨ab, i, none⟩ (.pointer (some ⟨r, 0, none⟩)) := by
  have h1 := acas (p := some ⟨r, 0, none⟩) hc hz
  have h2 := conv_in hq
  have h3 := conv_in hr
  go_enter Try.func41, Try.ntmps41
  go_wp2
  go_ret
  exact ⟨rfl, rfl⟩
end Go.Proofs.Ytjbfpklbgefacaa
