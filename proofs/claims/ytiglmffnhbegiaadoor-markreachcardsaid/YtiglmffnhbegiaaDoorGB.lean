/- Pointers that are laid, loaded and exchanged by sync/atomic, in the run of one goroutine; the methods of Pointer.; A heap of atomic cells in memory; the small functions.; exchange: what a function makes of a cell is laid in its place. -/
import Derived.Test.YtiglmffnhbegiaaDoorGA
import Derived.Laws.LoneSync
import Derived.Laws.StructEq
import Derived.ChangeKeysEq
import Derived.Deep.RegionHeld3
import Derived.RegionCalls
/- Pointers that are laid, loaded and exchanged by sync/atomic, in the run of one goroutine; the methods of Pointer. -/
namespace Go.Proofs.YtiglmffnhbegiaaDoor
open Go.RowKit

abbrev cV (x : Cl) : Value := .agg #[.int .u8 x.k, .int .u8 x.c, .int .u64 x.a, .int .u64 x.b]
abbrev cL (x : Cl) : Array Value := #[.int .u8 x.k, .int .u8 x.c, .int .u64 x.a, .int .u64 x.b]
/-- A block that is a state. -/
def SB (w : World) (q : Nat) (x : Cl) : Prop := w.heap[q]? = some (.cells (cL x) 142 (0, 0))
theorem SB.lt {w : World} {q : Nat} {x : Cl} (h : SB w q x) : q < w.heap.size := heap_lt h
theorem SB.cell {w : World} {q : Nat} {x : Cl} (h : SB w q x) : w.cell? ⟨q, 0, none⟩ = some (.int .u8 x.k) ∧ w.cell? ⟨q, 1, none⟩ = some (.int .u8 x.c) ∧ w.cell? ⟨q, 2, none⟩ = some (.int .u64 x.a) ∧ w.cell? ⟨q, 3, none⟩ = some (.int .u64 x.b) :=
  ⟨heap_cell h rfl, heap_cell h rfl, heap_cell h rfl, heap_cell h rfl⟩
theorem SB.kept {w w' : World} {q : Nat} {x : Cl} (h : SB w q x) (hk : w'.heap[q]? = w.heap[q]?) : SB w' q x := hk.trans h

theorem conv_in {w : World} {q : Nat} {x : Cl} (h : SB w q x) : (convert 132 136 (.pointer (some ⟨q, 0, none⟩))).run Tryd.prog w = .ok (.pointer (some ⟨q, 0, none⟩)) w :=
  run_convert_to_unsafe (t := 142) Tryd.underlying132 Tryd.underlying136 (by kernel_rfl) h.cell.1
theorem lies_state : liesAt Tryd.prog Tryd.prog.depth 142 (4 / Tryd.prog.cellsOf 142) 0 142 1 = true := by kernel_rfl
theorem conv_out {w : World} {q : Nat} {x : Cl} (h : SB w q x) : (convert 136 132 (.pointer (some ⟨q, 0, none⟩))).run Tryd.prog w = .ok (.pointer (some ⟨q, 0, none⟩)) w := by
  have hs : w.shape? q = some (142, 4) := by simp [World.shape?, show w.heap[q]? = _ from h]
  simp [convert, go_sem, Conv.unsafePointer, Conv.seenAt, viewAt, hs, variablesAt, lies_state]

theorem aload {a p : Addr} {w : World} (hc : w.cell? a = some (.pointer (some p))) : (callFunc 97 #[.pointer (some a)]).run Tryd.prog w = .ok (.value (.pointer (some p))) w := by
  rw [run_callFunc_extern Tryd.func97 (by kernel_rfl) (by kernel_rfl) (by kernel_rfl) (e := Extern.Atomic.loadT .ptr) (by kernel_rfl)]
  change (Sem.run Tryd.prog (do Extern.Atomic.read .ptr (← asAddr (.pointer (some a)))) w).andThen _ = _
  simp [Extern.Atomic.read, asAddr, hc, Result.andThen]
theorem astore {a : Addr} {u : Value} {p : Option Addr} {w : World} (hc : w.cell? a = some u) (hz : w.frozen? a = false) : (callFunc 95 #[.pointer (some a), .pointer p]).run Tryd.prog w = .ok (.value (.tuple #[])) (w.setCell a (.pointer p)) := by
  rw [run_callFunc_extern Tryd.func95 (by kernel_rfl) (by kernel_rfl) (by kernel_rfl) (e := Extern.Atomic.storeT) (by kernel_rfl)]
  change (Sem.run Tryd.prog (do
    store (← asAddr (.pointer (some a))) (.pointer p) .atomic
    pure Extern.Atomic.none_) w).andThen _ = _
  simp [asAddr, hc, hz, run_store Tryd.prog w a (.pointer p) .atomic rfl, Result.andThen, Extern.Atomic.none_]
theorem acas {a : Addr} {q : Nat} {p : Option Addr} {w : World} (hc : w.cell? a = some (.pointer (some ⟨q, 0, none⟩))) (hz : w.frozen? a = false) : (callFunc 104 #[.pointer (some a), .pointer (some ⟨q, 0, none⟩), .pointer p]).run Tryd.prog w = .ok (.value (.bool true)) (w.setCell a (.pointer p)) := by
  rw [run_callFunc_extern Tryd.func104 (by kernel_rfl) (by kernel_rfl) (by kernel_rfl) (e := Extern.Atomic.casT .ptr) (by kernel_rfl)]
  change (Sem.run Tryd.prog (do
    let a' ← asAddr (.pointer (some a))
    if ← Extern.Atomic.touchesFrozen a' then unsupported (.unsafePointer "a write to bytes that a string shares")
    let eq ← match Extern.Atomic.T.ptr, ← Extern.Atomic.read .ptr a', Value.pointer (some ⟨q, 0, none⟩) with
      | _, .int _ x, .int _ y => pure (x == y)
      | .ptr, .pointer x, .pointer y => samePointer x y
      | .int _, .pointer (some _), .int _ 0 | .int _, .int _ 0, .pointer (some _) => pure false
      | .int _, .pointer (some _), _ | .int _, _, .pointer (some _) => unsupported .addressObserved
      | _, _, _ => stuck "atomic.CompareAndSwap: old is no T"
    if eq then store a' (.pointer p) .atomic
    pure (Value.bool eq)) w).andThen _ = _
  simp [Extern.Atomic.touchesFrozen, Extern.Atomic.read, asAddr, viewAt, World.shape?_isSome_of_cell? hc, hc, hz, samePointer, sameAddr, run_store Tryd.prog w a (.pointer p) .atomic rfl, Result.andThen]

set_option maxRecDepth 100000 in
set_option maxHeartbeats 4000000 in
theorem pload_any {ab i q : Nat} {x : Cl} {w : World} (hc : w.cell? ⟨ab, i, none⟩ = some (.pointer (some ⟨q, 0, none⟩))) (hq : SB w q x) :
    Calls Tryd.prog 75 #[.pointer (some ⟨ab, i, none⟩)] w fun e w' => e = .returned (.pointer (some ⟨q, 0, none⟩)) ∧ w' = w := by
  have h1 := aload hc
  have h2 := conv_out hq
  go_enter Tryd.func75, Tryd.ntmps75
  go_wp2
  go_ret
  exact ⟨rfl, rfl⟩
set_option maxRecDepth 100000 in
set_option maxHeartbeats 4000000 in
theorem pstore_any {ab i q : Nat} {x : Cl} {u : Value} {w : World} (hc : w.cell? ⟨ab, i, none⟩ = some u) (hz : w.frozen? ⟨ab, i, none⟩ = false) (hq : SB w q x) :
    Calls Tryd.prog 67 #[.pointer (some ⟨ab, i, none⟩), .pointer (some ⟨q, 0, none⟩)] w fun e w' => e = .returned (.tuple #[]) ∧ w' = w.setCell ⟨ab, i, none⟩ (.pointer (some ⟨q, 0, none⟩)) := by
  have h1 := astore (p := some ⟨q, 0, none⟩) hc hz
  have h2 := conv_in hq
  go_enter Tryd.func67, Tryd.ntmps67
  go_wp2
  go_end0
  exact ⟨rfl, rfl⟩
set_option maxRecDepth 100000 in
set_option maxHeartbeats 4000000 in
theorem pcas_any {ab i q r : Nat} {x y : Cl} {w : World} (hc : w.cell? ⟨ab, i, none⟩ = some (.pointer (some ⟨q, 0, none⟩))) (hz : w.frozen? ⟨ab, i, none⟩ = false) (hq : SB w q x) (hr : SB w r y) :
    Calls Tryd.prog 96 #[.pointer (some ⟨ab, i, none⟩), .pointer (some ⟨q, 0, none⟩), .pointer (some ⟨r, 0, none⟩)] w fun e w' => e = .returned (.bool true) ∧ w' = w.setCell ⟨ab, i, none⟩ (.pointer (some ⟨r, 0, none⟩)) := by
  have h1 := acas (p := some ⟨r, 0, none⟩) hc hz
  have h2 := conv_in hq
  have h3 := conv_in hr
  go_enter Tryd.func96, Tryd.ntmps96
  go_wp2
  go_ret
  exact ⟨rfl, rfl⟩
end Go.Proofs.YtiglmffnhbegiaaDoor

/- A heap of atomic cells in memory; the small functions. -/
namespace Go.Proofs.YtiglmffnhbegiaaDoor
open Go.RowKit

def c0 : Cl := ⟨0, 0, 0, 0⟩
theorem c0_ok : OkK c0 := ⟨⟨by decide, by decide⟩, ⟨by decide, by decide⟩, ⟨by decide, by decide⟩, ⟨by decide, by decide⟩⟩
theorem cl_eq {x y : Cl} : (x.k == y.k && (x.c == y.c && (x.a == y.a && x.b == y.b))) = true ↔ x = y := by
  cases x; cases y; simp
/-- How a heap lies: its block, its row of pointers, the states. -/
structure CH (w : World) (hb ab : Nat) (h : List Cl) : Prop where
  v : w.heap[hb]? = some (.cells #[.slice (some ⟨ab, 0, none⟩) h.length h.length] 131 (0, 0))
  r : ∃ cs : Array Value, w.heap[ab]? = some (.cells cs 138 (0, 0)) ∧ cs.size = h.length ∧ ∀ (k : Nat) (x : Cl), h[k]? = some x → ∃ q : Nat, cs[k]? = some (.pointer (some ⟨q, 0, none⟩)) ∧ SB w q x
  ok : ∀ x ∈ h, OkK x
  len : h.length ≤ 4096
/-- States stay as they are. -/
def Ks (w w' : World) : Prop := ∀ (q : Nat) (cs : Array Value), w.heap[q]? = some (.cells cs 142 (0, 0)) → w'.heap[q]? = w.heap[q]?
theorem CH.kept {w w' : World} {hb ab : Nat} {h : List Cl} (H : CH w hb ab h) (h1 : w'.heap[hb]? = w.heap[hb]?) (h2 : w'.heap[ab]? = w.heap[ab]?) (h3 : Ks w w') : CH w' hb ab h := by
  obtain ⟨cs, r1, r2, r3⟩ := H.r
  refine ⟨h1.trans H.v, ⟨cs, h2.trans r1, r2, fun k x hx => ?_⟩, H.ok, H.len⟩
  obtain ⟨q, s1, s2⟩ := r3 k x hx
  exact ⟨q, s1, s2.kept (h3 q _ s2)⟩
/-- A state that is in use. -/
def Us (w : World) (ab g : Nat) : Prop := ∃ (cs : Array Value) (k : Nat), w.heap[ab]? = some (.cells cs 138 (0, 0)) ∧ cs[k]? = some (.pointer (some ⟨g, 0, none⟩))
theorem Us.kept {w w' : World} {ab g : Nat} (h : Us w' ab g) (hk : w'.heap[ab]? = w.heap[ab]?) : Us w ab g := by
  obtain ⟨cs, k, h1, h2⟩ := h
  exact ⟨cs, k, hk.symm.trans h1, h2⟩
theorem CH.us {w w' : World} {hb ab : Nat} {h : List Cl} (H : CH w hb ab h) (h1 : w'.heap[hb]? = w.heap[hb]?) (h2 : w'.heap[ab]? = w.heap[ab]?) (h3 : ∀ g, Us w ab g → w'.heap[g]? = w.heap[g]?) : CH w' hb ab h := by
  obtain ⟨cs, r1, r2, r3⟩ := H.r
  refine ⟨h1.trans H.v, ⟨cs, h2.trans r1, r2, fun k x hx => ?_⟩, H.ok, H.len⟩
  obtain ⟨q, s1, s2⟩ := r3 k x hx
  exact ⟨q, s1, s2.kept (h3 q ⟨cs, k, r1, s1⟩)⟩
theorem CH.used {w : World} {hb ab g : Nat} {h : List Cl} (H : CH w hb ab h) (hg : Us w ab g) : g < w.heap.size ∧ ∃ x, SB w g x := by
  obtain ⟨cs, r1, r2, r3⟩ := H.r
  obtain ⟨cs', k, h1, h2⟩ := hg
  rw [r1] at h1
  cases h1
  have hk : k < h.length := by rw [← r2]; exact (Array.getElem?_eq_some_iff.1 h2).1
  obtain ⟨q, s1, s2⟩ := r3 k _ (List.getElem?_eq_getElem hk)
  rw [h2] at s1
  cases s1
  exact ⟨s2.lt, _, s2⟩
theorem CH.lt {w : World} {hb ab : Nat} {h : List Cl} (H : CH w hb ab h) : hb < w.heap.size ∧ ab < w.heap.size := by
  obtain ⟨cs, r1, _⟩ := H.r
  exact ⟨heap_lt H.v, heap_lt r1⟩
theorem CH.ne {w : World} {hb ab : Nat} {h : List Cl} (H : CH w hb ab h) : hb ≠ ab := by
  obtain ⟨cs, r1, _⟩ := H.r
  exact ty_ne H.v r1 (by decide)
theorem CH.below {w w' : World} {hb ab : Nat} {h : List Cl} (H : CH w hb ab h) (hB : Below w.heap.size w w') : CH w' hb ab h :=
  H.kept (hB.block _ H.lt.1) (hB.block _ H.lt.2) (fun _ _ hq => hB.block _ (heap_lt hq))
theorem CH.at {w : World} {hb ab k : Nat} {h : List Cl} {x : Cl} (H : CH w hb ab h) (hx : h[k]? = some x) : w.cell? ⟨hb, 0, none⟩ = some (.slice (some ⟨ab, 0, none⟩) h.length h.length) ∧ w.frozen? ⟨ab, k, none⟩ = false ∧ ∃ q, w.cell? ⟨ab, k, none⟩ = some (.pointer (some ⟨q, 0, none⟩)) ∧ SB w q x := by
  obtain ⟨cs, r1, r2, r3⟩ := H.r
  obtain ⟨q, s1, s2⟩ := r3 k x hx
  exact ⟨heap_cell H.v rfl, by simp [World.frozen?, r1], q, heap_cell r1 s1, s2⟩
/-- A cell is exchanged. -/
theorem CH.set {w w' : World} {hb ab k q : Nat} {h : List Cl} {y : Cl} (H : CH w hb ab h) (hB : Below w.heap.size w w') (hk : k < h.length) (hq : SB w' q y) (hy : OkK y) : CH (w'.setCell ⟨ab, k, none⟩ (.pointer (some ⟨q, 0, none⟩))) hb ab (h.set k y) := by
  have H' := H.below hB
  obtain ⟨cs, r1, r2, r3⟩ := H'.r
  have hne := H'.ne
  have hs : ∀ g, g ≠ ab → (w'.setCell ⟨ab, k, none⟩ (.pointer (some ⟨q, 0, none⟩))).heap[g]? = w'.heap[g]? := fun g hg => Below.heap_setCell _ _ _ _ hg
  have nq : ∀ g z, SB w' g z → g ≠ ab := fun g z hz => ty_ne (show w'.heap[g]? = _ from hz) r1 (by decide)
  refine ⟨?_, ⟨_, set_atC r1 _, by simp [r2], fun j x hx => ?_⟩, fun x hx => ?_, by simpa using H'.len⟩
  · rw [hs _ hne]; simpa using H'.v
  · by_cases e : k = j
    · subst e
      rw [List.getElem?_set_self hk] at hx
      cases hx
      exact ⟨q, by simp [r2, hk], hq.kept (hs _ (nq _ _ hq))⟩
    · rw [List.getElem?_set_ne e] at hx
      obtain ⟨p, s1, s2⟩ := r3 j x hx
      exact ⟨p, by rw [Array.getElem?_setIfInBounds_ne e]; exact s1, s2.kept (hs _ (nq _ _ s2))⟩
  · rcases List.mem_or_eq_of_mem_set hx with h1 | h1
    · exact H'.ok x h1
    · exact h1 ▸ hy

theorem eql_words (a b c d : Int) (w : World) : (Op.equalIn 9999 140 (.agg #[.int .u64 a, .int .u64 b]) (.agg #[.int .u64 c, .int .u64 d])).run Tryd.prog w = .ok (a == c && b == d) w := by
  obtain ⟨i, hi⟩ : ∃ i, Tryd.prog.info? 29 = some i := info_of_underlying Tryd.underlying29
  rw [show (9999 : Nat) = 9998 + 1 from rfl, run_equalIn_array w 9998 _ _ Tryd.underlying140 hi]
  have hc : Tryd.prog.cellsOf 29 = 1 := by kernel_rfl
  have hp : Tryd.prog.plainKey 29 = true := by kernel_rfl
  rw [hc]
  simp only [List.range, List.range.loop, Op.eqItems, Sem.run_bind, Nat.zero_mul, Nat.one_mul]
  rw [run_part_plain w hp (v := .int .u64 a) rfl]
  simp only [Result.andThen_ok]
  rw [run_part_plain w hp (v := .int .u64 c) rfl]
  simp only [Result.andThen_ok]
  rw [show (9998 : Nat) = 9997 + 1 from rfl, run_equalIn_int w 9997 _ _ _ _ _ Tryd.underlying29]
  simp only [Result.andThen_ok]
  cases h : (a == c)
  · simp
  · simp only [Bool.true_and, Bool.not_true, Bool.false_eq_true, if_false, Sem.run_bind]
    rw [run_part_plain w hp (v := .int .u64 b) rfl]
    simp only [Result.andThen_ok]
    rw [run_part_plain w hp (v := .int .u64 d) rfl]
    simp only [Result.andThen_ok]
    rw [run_equalIn_int w 9997 _ _ _ _ _ Tryd.underlying29]
    simp only [Result.andThen_ok]
    cases h2 : (b == d) <;> simp
theorem eql_state (x y : Cl) (w : World) : (binOp .eql 142 (cV x) (cV y)).run Tryd.prog w = .ok (.bool (x.k == y.k && (x.c == y.c && (x.a == y.a && x.b == y.b)))) w := by
  simp [go_sem, eql_words]
  by_cases h1 : x.k = y.k
  · by_cases h2 : x.c = y.c
    · cases h3 : (x.a == y.a && x.b == y.b) <;> (simp [h1, h2]; simpa using h3)
    · simp [h1, h2]
  · simp [h1]
set_option maxRecDepth 100000 in
set_option maxHeartbeats 4000000 in
theorem isFree_any (x : Cl) (w : World) : Calls Tryd.prog 74 #[cV x] w fun e w' => e = .returned (.bool (x.k == 0)) ∧ Below w.heap.size w w' := by
  have HB : Hid (Below w.heap.size w (w.alloc (.cells #[.int .u8 x.k, .int .u8 x.c, .int .u64 x.a, .int .u64 x.b] 142))) := (Below.refl _ w).alloc (Nat.le_refl _) _
  go_enter Tryd.func74, Tryd.ntmps74
  go_wp2
  go_ret
  exact ⟨rfl, HB.out⟩
set_option maxRecDepth 100000 in
set_option maxHeartbeats 4000000 in
theorem isColour_any (c : Int) (w : World) : Calls Tryd.prog 71 #[.int .u8 c] w fun e w' => e = .returned (.bool (decide (c ≤ 2))) ∧ w' = w := by
  go_enter Tryd.func71, Tryd.ntmps71
  go_wp2
  go_ret
  exact ⟨rfl, rfl⟩
def inB (n : Nat) (i : Int) : Bool := decide (0 ≤ i) && decide (i < n)
theorem inB_iff {n : Nat} {i : Int} : inB n i = true ↔ ∃ k : Nat, i = k ∧ k < n := by
  unfold inB
  simp
  constructor
  · rintro ⟨h1, h2⟩
    exact ⟨i.toNat, by omega, by omega⟩
  · rintro ⟨k, rfl, hk⟩
    omega
set_option maxRecDepth 100000 in
set_option maxHeartbeats 4000000 in
theorem has_any {hb ab : Nat} {h : List Cl} (i : Int) (w : World) (H : CH w hb ab h) : Calls Tryd.prog 70 #[.pointer (some ⟨hb, 0, none⟩), .int .i64 i] w fun e w' => e = .returned (.bool (inB h.length i)) ∧ w' = w := by
  have c1 : w.cell? ⟨hb, 0, none⟩ = some (.slice (some ⟨ab, 0, none⟩) h.length h.length) := heap_cell H.v rfl
  unfold inB
  clear H
  by_cases h1 : 0 ≤ i
  · have z1 : decide (0 ≤ i) = true := by simpa using h1
    have z2 : decide (i ≥ 0) = true := by simpa using h1
    rw [z1, Bool.true_and]
    go_enter Tryd.func70, Tryd.ntmps70
    go_wp2
    go_ret
    exact ⟨rfl, rfl⟩
  · have z1 : decide (0 ≤ i) = false := by simpa using h1
    have z2 : decide (i ≥ 0) = false := by simpa using h1
    rw [z1, Bool.false_and]
    go_enter Tryd.func70, Tryd.ntmps70
    go_wp2
    go_ret
    exact ⟨rfl, rfl⟩
set_option maxRecDepth 100000 in
set_option maxHeartbeats 4000000 in
theorem isField_any (i : Int) (w : World) : Calls Tryd.prog 100 #[.int .i64 i] w fun e w' => e = .returned (.bool (inB 2 i)) ∧ w' = w := by
  unfold inB
  by_cases h1 : 0 ≤ i
  · have z1 : decide (0 ≤ i) = true := by simpa using h1
    have z2 : decide (i ≥ 0) = true := by simpa using h1
    rw [z1, Bool.true_and]
    go_enter Tryd.func100, Tryd.ntmps100
    go_wp2
    go_ret
    exact ⟨rfl, rfl⟩
  · have z1 : decide (0 ≤ i) = false := by simpa using h1
    have z2 : decide (i ≥ 0) = false := by simpa using h1
    rw [z1, Bool.false_and]
    go_enter Tryd.func100, Tryd.ntmps100
    go_wp2
    go_ret
    exact ⟨rfl, rfl⟩
set_option maxRecDepth 100000 in
set_option maxHeartbeats 4000000 in
theorem hasField_any {hb ab : Nat} {h : List Cl} (i f : Int) (w : World) (H : CH w hb ab h) : Calls Tryd.prog 87 #[.pointer (some ⟨hb, 0, none⟩), .int .i64 i, .int .i64 f] w fun e w' => e = .returned (.bool (inB h.length i && inB 2 f)) ∧ w' = w := by
  have HA : Hid (Calls Tryd.prog 70 #[.pointer (some ⟨hb, 0, none⟩), .int .i64 i] w fun e w' => e = .returned (.bool (inB h.length i)) ∧ w' = w) := has_any i w H
  have HF : Hid (Calls Tryd.prog 100 #[.int .i64 f] w fun e w' => e = .returned (.bool (inB 2 f)) ∧ w' = w) := isField_any f w
  clear H
  cases h1 : inB h.length i
  · rw [h1] at HA
    clear h1
    go_enter Tryd.func87, Tryd.ntmps87
    go_wp2_with (first | (go_at_call 70; refine HA.out.mono ?_; rintro e w' ⟨rfl, rfl⟩))
    go_ret
    exact ⟨rfl, rfl⟩
  · rw [h1] at HA
    clear h1
    go_enter Tryd.func87, Tryd.ntmps87
    go_wp2_with (first | (go_at_call 70; refine HA.out.mono ?_; rintro e w' ⟨rfl, rfl⟩) | (go_at_call 100; refine HF.out.mono ?_; rintro e w' ⟨rfl, rfl⟩))
    go_ret
    exact ⟨rfl, rfl⟩
end Go.Proofs.YtiglmffnhbegiaaDoor

/- exchange: what a function makes of a cell is laid in its place. -/
namespace Go.Proofs.YtiglmffnhbegiaaDoor
open Go.RowKit

/-- What a function that is handed in tells of a state. -/
structure NextOk (w : World) (f : Nat) (caps : Array Value) (x y : Cl) (er : Int) : Prop where
  enter : ∀ (args : Array Value) (W : World), (callFunc f args).run Tryd.prog W = .ok (.enter f args) W
  call : ∀ W, Below w.heap.size w W → Calls Tryd.prog f (#[cV x] ++ caps) W fun e W' => e = .returned (.tuple #[cV y, .int .i64 er]) ∧ Below W.heap.size W W'
/-- What an exchange leaves. -/
def ExR (hb ab : Nat) (h : List Cl) (w w' : World) : Prop := CH w' hb ab h ∧ Fr (fun g => g ≠ ab) w w' ∧ ∀ g, Us w' ab g → Us w ab g ∨ w.heap.size ≤ g
theorem fr_exo {ab : Nat} {w w' : World} (h : Below w.heap.size w w') : Fr (fun g => g ≠ ab) w w' := ⟨h.mono (Nat.zero_le _), fun g _ hl => h.block g hl⟩
/-- A cell is exchanged, whatever else was made. -/
theorem CH.put {w W : World} {hb ab k q : Nat} {h : List Cl} {y : Cl} {cs : Array Value} (H : CH w hb ab h) (hF : Fr (fun g => g ≠ ab) w W) (hk : k < h.length) (h0 : w.heap[ab]? = some (.cells cs 138 (0, 0)))
    (h1 : W.heap[ab]? = some (.cells (cs.setIfInBounds k (.pointer (some ⟨q, 0, none⟩))) 138 (0, 0))) (hq : SB W q y) (hy : OkK y) : CH W hb ab (h.set k y) := by
  obtain ⟨cs', r1, r2, r3⟩ := H.r
  rw [h0] at r1
  cases r1
  have nq : ∀ g z, SB w g z → g ≠ ab := fun g z hz => ty_ne (show w.heap[g]? = _ from hz) h0 (by decide)
  refine ⟨?_, ⟨_, h1, by simp [r2], fun j x hx => ?_⟩, fun x hx => ?_, by simpa using H.len⟩
  · rw [hF.2 _ H.ne H.lt.1]; simpa using H.v
  · by_cases e : k = j
    · subst e
      rw [List.getElem?_set_self hk] at hx
      cases hx
      exact ⟨q, by simp [r2, hk], hq⟩
    · rw [List.getElem?_set_ne e] at hx
      obtain ⟨p, s1, s2⟩ := r3 j x hx
      exact ⟨p, by rw [Array.getElem?_setIfInBounds_ne e]; exact s1, s2.kept (hF.2 _ (nq _ _ s2) s2.lt)⟩
  · rcases List.mem_or_eq_of_mem_set hx with h1 | h1
    · exact H.ok x h1
    · exact h1 ▸ hy
theorem ExR.of {hb ab : Nat} {h : List Cl} {w w' : World} (H : CH w hb ab h) (hB : Below w.heap.size w w') : ExR hb ab h w w' := ⟨H.below hB, fr_exo hB, fun _ hg => .inl (hg.kept (hB.block _ H.lt.2))⟩
theorem ExR.trans {hb ab : Nat} {h h' : List Cl} {w w' w'' : World} (a : ExR hb ab h w w') (b : ExR hb ab h' w' w'') : ExR hb ab h' w w'' :=
  ⟨b.1, a.2.1.trans b.2.1, fun g hg => by
    rcases b.2.2 g hg with h1 | h1
    · exact a.2.2 g h1
    · exact .inr (Nat.le_trans a.2.1.1.size h1)⟩
theorem us_put {w W : World} {ab k q : Nat} {cs : Array Value} (h0 : w.heap[ab]? = some (.cells cs 138 (0, 0)))
    (h1 : W.heap[ab]? = some (.cells (cs.setIfInBounds k (.pointer (some ⟨q, 0, none⟩))) 138 (0, 0))) (hq : w.heap.size ≤ q) : ∀ g, Us W ab g → Us w ab g ∨ w.heap.size ≤ g := fun g hg => by
  obtain ⟨cs', j, a1, a2⟩ := hg
  rw [h1] at a1
  cases a1
  rw [Array.getElem?_setIfInBounds] at a2
  split at a2
  · split at a2
    · cases a2; exact .inr hq
    · cases a2
  · exact .inl ⟨cs, j, h0, a2⟩
theorem fr_set {ab k : Nat} {w w' : World} {v : Value} (h : Below w.heap.size w w') : Fr (fun g => g ≠ ab) w (w'.setCell ⟨ab, k, none⟩ v) :=
  ⟨(h.mono (Nat.zero_le _)).setCell (p := ⟨ab, k, none⟩) (Nat.zero_le _) _, fun g hg hl => (Below.heap_setCell _ _ _ _ hg).trans (h.block g hl)⟩
theorem below_dr {n : Nat} {w w' : World} (h : Below n w w') : Below n w w'.drew := h.drew
theorem below_s4 {n g : Nat} {w w' : World} (h : Below n w w') (hg : n ≤ g) (a b c d : Value) : Below n w ((((w'.setCell ⟨g, 0, none⟩ a).setCell ⟨g, 1, none⟩ b).setCell ⟨g, 2, none⟩ c).setCell ⟨g, 3, none⟩ d) :=
  (((h.setCell (p := ⟨g, 0, none⟩) hg _).setCell (p := ⟨g, 1, none⟩) hg _).setCell (p := ⟨g, 2, none⟩) hg _).setCell (p := ⟨g, 3, none⟩) hg _
theorem s4_far {g k : Nat} {w : World} (h : k ≠ g) (a b c d : Value) : ((((w.setCell ⟨g, 0, none⟩ a).setCell ⟨g, 1, none⟩ b).setCell ⟨g, 2, none⟩ c).setCell ⟨g, 3, none⟩ d).heap[k]? = w.heap[k]? :=
  (Below.heap_setCell _ _ _ _ h).trans ((Below.heap_setCell _ _ _ _ h).trans ((Below.heap_setCell _ _ _ _ h).trans (Below.heap_setCell _ _ _ _ h)))
theorem sb_s4 {g : Nat} {w : World} {x y : Cl} (h : SB w g x) : SB ((((w.setCell ⟨g, 0, none⟩ (.int .u8 y.k)).setCell ⟨g, 1, none⟩ (.int .u8 y.c)).setCell ⟨g, 2, none⟩ (.int .u64 y.a)).setCell ⟨g, 3, none⟩ (.int .u64 y.b)) g y :=
  (set_atC (set_atC (set_atC (set_atC h _) _) _) _).trans rfl
theorem sb_new (w : World) (x : Cl) : SB (w.alloc (.cells (cL x) 142)) w.heap.size x := heap_alloc_new w _
theorem sb_old {w : World} {g : Nat} {x : Cl} (h : SB w g x) (o : Obj) : SB (w.alloc o) g x := (Below.heap_alloc _ _ _ h.lt).trans h
theorem results_cc {fn : Func} {tmps : Array Value} {s t u g1 g2 : Nat} {x y : Cl} {v : Value} {W : World} (hres : fn.results = #[.cell s 142, .cell t 142, .tmp u])
    (h1 : tmps[s]? = some (.pointer (some ⟨g1, 0, none⟩))) (h2 : tmps[t]? = some (.pointer (some ⟨g2, 0, none⟩))) (h3 : tmps[u]? = some v) (k1 : SB W g1 x) (k2 : SB W g2 y) : (results fn tmps).run Tryd.prog W = .ok (.tuple #[cV x, cV y, v]) W := by
  obtain ⟨a0, a1, a2, a3⟩ := k1.cell
  obtain ⟨b0, b1, b2, b3⟩ := k2.cell
  obtain ⟨l1, e1⟩ := Array.getElem?_eq_some_iff.1 h1
  obtain ⟨l2, e2⟩ := Array.getElem?_eq_some_iff.1 h2
  obtain ⟨l3, e3⟩ := Array.getElem?_eq_some_iff.1 h3
  simp [results, hres, go_sem, l1, e1, l2, e2, l3, e3, a0, a1, a2, a3, b0, b1, b2, b3]
theorem results_c1 {fn : Func} {tmps : Array Value} {s u g1 : Nat} {x : Cl} {v : Value} {W : World} (hres : fn.results = #[.cell s 142, .tmp u])
    (h1 : tmps[s]? = some (.pointer (some ⟨g1, 0, none⟩))) (h3 : tmps[u]? = some v) (k1 : SB W g1 x) : (results fn tmps).run Tryd.prog W = .ok (.tuple #[cV x, v]) W := by
  obtain ⟨a0, a1, a2, a3⟩ := k1.cell
  obtain ⟨l1, e1⟩ := Array.getElem?_eq_some_iff.1 h1
  obtain ⟨l3, e3⟩ := Array.getElem?_eq_some_iff.1 h3
  simp [results, hres, go_sem, l1, e1, l3, e3, a0, a1, a2, a3]
theorem below_drewN {n : Nat} {w0 w : World} (h : Below n w0 w) (k : Nat) : Below n w0 (w.drewN k) := by
  induction k generalizing w with
  | zero => exact h
  | succ k ih => exact (ih h).drew
theorem sb_drewN {w : World} {g : Nat} {x : Cl} (h : SB w g x) (k : Nat) : SB (w.drewN k) g x := ((below_drewN (Below.refl w.heap.size w) k).block g h.lt).trans h
theorem heap_drw (w : World) : w.drew.heap = w.heap := rfl
theorem s8_far {g1 g2 k : Nat} {w5 : World} (h1 : k ≠ g1) (h2 : k ≠ g2) (a1 a2 a3 a4 b1 b2 b3 b4 : Value) : (((((((((w5.setCell ⟨g1, 0, none⟩ a1).setCell ⟨g1, 1, none⟩ a2).setCell ⟨g1, 2, none⟩ a3).setCell ⟨g1, 3, none⟩ a4).setCell ⟨g2, 0, none⟩ b1).setCell ⟨g2, 1, none⟩ b2).setCell ⟨g2, 2, none⟩ b3).setCell ⟨g2, 3, none⟩ b4).drew).heap[k]? = w5.heap[k]? := by
  rw [heap_drw]
  exact (s4_far h2 _ _ _ _).trans (s4_far h1 _ _ _ _)
theorem fr_s8 {A : Nat → Prop} {g1 g2 : Nat} {w w5 : World} (h : Fr A w w5) (h1 : w.heap.size ≤ g1) (h2 : w.heap.size ≤ g2) (a1 a2 a3 a4 b1 b2 b3 b4 : Value) : Fr A w (((((((((w5.setCell ⟨g1, 0, none⟩ a1).setCell ⟨g1, 1, none⟩ a2).setCell ⟨g1, 2, none⟩ a3).setCell ⟨g1, 3, none⟩ a4).setCell ⟨g2, 0, none⟩ b1).setCell ⟨g2, 1, none⟩ b2).setCell ⟨g2, 2, none⟩ b3).setCell ⟨g2, 3, none⟩ b4).drew) :=
  ⟨(below_s4 (below_s4 h.1 (Nat.zero_le _) _ _ _ _) (Nat.zero_le _) _ _ _ _).drew, fun g hg hl => (s8_far (by omega) (by omega) _ _ _ _ _ _ _ _).trans (h.2 g hg hl)⟩
theorem sb_drew {w : World} {g : Nat} {x : Cl} (h : SB w g x) : SB w.drew g x := h
theorem two_new (w : World) (o o' : Obj) : ((w.alloc o).alloc o').heap[w.heap.size]? = some o ∧ ((w.alloc o).alloc o').heap[w.heap.size + 1]? = some o' := by
  have h1 := heap_alloc_new (w.alloc o) o'
  rw [World.size_alloc] at h1
  exact ⟨(Below.heap_alloc _ _ _ (by rw [World.size_alloc]; omega)).trans (heap_alloc_new w o), h1⟩
theorem zero_cells {w : World} {g : Nat} (h : SB w g c0) : (w.cell? ⟨g, 0, none⟩ = some (.int .u8 0) ∧ w.cell? ⟨g, 1, none⟩ = some (.int .u8 0) ∧ w.cell? ⟨g, 2, none⟩ = some (.int .u64 0) ∧ w.cell? ⟨g, 3, none⟩ = some (.int .u64 0)) ∧ ∀ j, w.frozen? ⟨g, j, none⟩ = false :=
  ⟨h.cell, fun j => by simp [World.frozen?, show w.heap[g]? = _ from h]⟩
set_option maxRecDepth 100000 in
set_option maxHeartbeats 8000000 in
theorem exchange_bad {hb ab k f : Nat} {caps : Array Value} {h : List Cl} {x y : Cl} {er : Int} {w : World} (H : CH w hb ab h) (hx : h[k]? = some x) (hN : NextOk w f caps x y er) (he : er ≠ 0) :
    Calls Tryd.prog 72 #[.pointer (some ⟨hb, 0, none⟩), .int .i64 k, .func (.func f) #[] caps] w fun e w' => e = .returned (.tuple #[cV c0, cV c0, .int .i64 er]) ∧ Below w.heap.size w w' := by
  have hk : k < h.length := (List.getElem?_eq_some_iff.1 hx).1
  obtain ⟨a1, a2, q, a3, a4⟩ := H.at hx
  have l1 := H.lt
  have lq := a4.lt
  have i1 : (k : Int) < (h.length : Int) := by omega
  have HN : Hid (NextOk w f caps x y er) := hN
  have z1 : (er != 0) = true := by simpa using he
  obtain ⟨w2, hw2⟩ : ∃ w2, w2 = (w.alloc (.cells (cL c0) 142)).alloc (.cells (cL c0) 142) := ⟨_, rfl⟩
  have HB2 : Hid (Below w.heap.size w w2) := hw2 ▸ ((Below.refl _ w).alloc (Nat.le_refl _) _).alloc (by rw [World.size_alloc]; omega) _
  have H2 := H.below HB2.out
  obtain ⟨b1, b2, q2, b3, b4⟩ := H2.at hx
  have eq : q2 = q := by
    have := (HB2.out.cell (p := ⟨ab, k, none⟩) l1.2).trans a3
    rw [b3] at this
    cases this
    rfl
  subst eq
  have HL : Hid (Calls Tryd.prog 75 #[.pointer (some ⟨ab, k, none⟩)] w2 fun e w' => e = .returned (.pointer (some ⟨q2, 0, none⟩)) ∧ w' = w2) := pload_any b3 b4
  obtain ⟨d0, d1, d2, d3⟩ := b4.cell
  have s2 : w2.heap.size = w.heap.size + 1 + 1 := by rw [hw2, World.size_alloc, World.size_alloc]
  have hen := HN.out.enter
  have HC : Hid (Calls Tryd.prog f (#[cV x] ++ caps) w2 fun e W' => e = .returned (.tuple #[cV y, .int .i64 er]) ∧ Below w2.heap.size w2 W') := HN.out.call w2 HB2.out
  have lq2 := b4.lt
  have lh2 := H2.lt
  clear H H2 hN a1 a2 a3 a4 b2 b3 b4 hx l1 lq
  go_enter Tryd.func72, Tryd.ntmps72
  go_wp2_with fail
  refine wp_loop_rounds 1 ?_
  rw [rounds_succ]
  unfold cL c0 at hw2
  rw [← hw2]
  have HW2 : Hid (w2 = (w.alloc (.cells (cL c0) 142)).alloc (.cells (cL c0) 142)) := hw2
  clear hw2
  go_wp2_with fail
  refine Calls.mono HL.out ?_
  rintro e w' ⟨rfl, hw'⟩
  rw [hw']
  clear hw'
  go_wp2_with fail
  refine Calls.mono HC.out ?_
  rintro e w3 ⟨rfl, hb3⟩
  have HB3 : Hid (Below w2.heap.size w2 w3) := hb3
  have t1 := two_new w (.cells (cL c0) 142) (.cells (cL c0) 142)
  rw [← HW2.out] at t1
  obtain ⟨⟨e0, e1, e2, e3⟩, ef⟩ := zero_cells (w := w3) (g := w.heap.size) ((hb3.block _ (by omega)).trans t1.1)
  obtain ⟨⟨g0, g1, g2, g3⟩, gf⟩ := zero_cells (w := w3) (g := w.heap.size + 1) ((hb3.block _ (by omega)).trans t1.2)
  have s3 : w.heap.size + 1 + 1 ≤ w3.heap.size := by have := hb3.size; omega
  have u1 : w.heap.size < w3.heap.size := by omega
  have u2 : w.heap.size + 1 < w3.heap.size := by omega
  have u3 : w.heap.size ≠ w3.heap.size := by omega
  have u4 : w.heap.size + 1 ≠ w3.heap.size := by omega
  have HS6 : Hid (SB w3 w.heap.size c0) := (hb3.block _ (by omega)).trans t1.1
  have HS7 : Hid (SB w3 (w.heap.size + 1) c0) := (hb3.block _ (by omega)).trans t1.2
  clear t1 hb3 s2 lq2 lh2 d0 d1 d2 d3 b1 HL HC HN
  have B3 : Below w.heap.size w w3 := HB2.out.trans (HB3.out.mono HB2.out.size)
  have HB : Hid (Below w.heap.size w w3) := B3
  clear B3
  go_wp2_with fail
  refine bodyPost_ret (results_cc (x := c0) (y := c0) (g1 := w.heap.size) (g2 := w.heap.size + 1) rfl rfl rfl rfl ?_ ?_) rfl ?_
  · refine sb_old ?_ _
    refine SB.kept ?_ (s4_far (by omega) _ _ _ _)
    exact sb_s4 (y := c0) HS6.out
  · refine sb_old ?_ _
    refine sb_s4 (x := c0) (y := c0) ?_
    exact SB.kept HS7.out (s4_far (by omega) _ _ _ _)
  · refine ⟨rfl, ?_⟩
    refine Below.alloc ?_ (by simp only [World.size_setCell]; exact HB.out.size) _
    refine below_s4 ?_ (Nat.le_succ _) _ _ _ _
    exact below_s4 HB.out (Nat.le_refl _) _ _ _ _
end Go.Proofs.YtiglmffnhbegiaaDoor
