/- A heap of atomic cells in memory; the small functions. -/
import Derived.Test.YtjbfpklbgefacaaHMAtom
import Derived.Laws.StructEq
import Derived.ChangeKeysEq
namespace Go.Proofs.Ytjbfpklbgefacaa
open Go.RowKit

def c0 : Cl := ⟨0, 0, 0, 0⟩
theorem c0_ok : OkK c0 := ⟨⟨by decide, by decide⟩, ⟨by decide, by decide⟩, ⟨by decide, by decide⟩, ⟨by decide, by decide⟩⟩
theorem cl_eq {x y : Cl} : (x.k == y.k && (x.c == y.c && (x.a == y.a && x.b == y.b))) = true ↔ x = y := by
  cases x; cases y; simp
/-- How a heap lies: its block, its row of pointers, the states. -/
structure CH (w : World) (hb ab : Nat) (h : List Cl) : Prop where
  v : w.heap[hb]? = some (.cells #[.slice (some ⟨ab, 0, none⟩) h.length h.length] 73 (0, 0))
  r : ∃ cs : Array Value, w.heap[ab]? = some (.cells cs 80 (0, 0)) ∧ cs.size = h.length ∧ ∀ (k : Nat) (x : Cl), h[k]? = some x → ∃ q : Nat, cs[k]? = some (.pointer (some ⟨q, 0, none⟩)) ∧ SB w q x
  ok : ∀ x ∈ h, OkK x
  len : h.length ≤ 4096
/-- States stay as they are. -/
def Ks (w w' : World) : Prop := ∀ (q : Nat) (cs : Array Value), w.heap[q]? = some (.cells cs 84 (0, 0)) → w'.heap[q]? = w.heap[q]?
theorem CH.kept {w w' : World} {hb ab : Nat} {h : List Cl} (H : CH w hb ab h) (h1 : w'.heap[hb]? = w.heap[hb]?) (h2 : w'.heap[ab]? = w.heap[ab]?) (h3 : Ks w w') : CH w' hb ab h := by
  obtain ⟨cs, r1, r2, r3⟩ := H.r
  refine ⟨h1.trans H.v, ⟨cs, h2.trans r1, r2, fun k x hx => ?_⟩, H.ok, H.len⟩
  obtain ⟨q, s1, s2⟩ := r3 k x hx
  exact ⟨q, s1, s2.kept (h3 q _ s2)⟩
/-- A state that is in use. -/
def Us (w : World) (ab g : Nat) : Prop := ∃ (cs : Array Value) (k : Nat), w.heap[ab]? = some (.cells cs 80 (0, 0)) ∧ cs[k]? = some (.pointer (some ⟨g, 0, none⟩))
theorem Us.kept {w w' : World} {ab g : Nat} (h : Us w' ab g) (hk : w'.heap[ab]? = w.heap[ab]?) : Us w ab g := by
  obtain ⟨cs, k, h1, h2⟩ := h
  exact ⟨cs, k, hk.symm.trans h1, h2⟩
theorem CH.us {w w' : World} {hb ab : Nat} {h : List Cl} (H : CH w hb ab h) (h1 : w'.heap[hb]? = w.heap[hb]?) (h2 : w'.heap[ab]? = w.heap[ab]?) (h3 : ∀ g, Us w ab g → w'.heap[g]? = w.heap[g]?) : CH w' hb ab h := by
  obtain ⟨cs, r1, r2, r3⟩ := H.r
  refine ⟨h1.trans H.v, ⟨cs, h2.trans r1, r2, fun k x hx => ?_⟩, H.ok, H.len⟩
  obtain ⟨q, s1, s2⟩ := r3 k x hx
  exact ⟨q, s1, s2.kept (h3 q ⟨cs, k, r1, s1⟩)⟩
theorem CH.used {w : World} {hb ab g : Nat} {h : List Cl} (H : CH w hb ab h) (hg : Us w ab g) : g < w.heap.size ∧ ∃ x, SB w g x := by
  obtain ⟨cs, r1, r2, r3⟩ := H.r
  obtain ⟨cs', k, h1, h2⟩ := hg
  rw [r1] at h1
  cases h1
  have hk : k < h.length := by rw [← r2]; exact (Array.getElem?_eq_some_iff.1 h2).1
  obtain ⟨q, s1, s2⟩ := r3 k _ (List.getElem?_eq_getElem hk)
  rw [h2] at s1
  cases s1
  exact ⟨s2.lt, _, s2⟩
theorem CH.lt {w : World} {hb ab : Nat} {h : List Cl} (H : CH w hb ab h) : hb < w.heap.size ∧ ab < w.heap.size := by
  obtain ⟨cs, r1, _⟩ := H.r
  exact ⟨heap_lt H.v, heap_lt r1⟩
theorem CH.ne {w : World} {hb ab : Nat} {h : List Cl} (H : CH w hb ab h) : hb ≠ ab := by
  obtain ⟨cs, r1, _⟩ := H.r
  exact ty_ne H.v r1 (by decide)
theorem CH.below {w w' : World} {hb ab : Nat} {h : List Cl} (H : CH w hb ab h) (hB : Below w.heap.size w w') : CH w' hb ab h :=
  H.kept (hB.block _ H.lt.1) (hB.block _ H.lt.2) (fun _ _ hq => hB.block _ (heap_lt hq))
theorem CH.at {w : World} {hb ab k : Nat} {h : List Cl} {x : Cl} (H : CH w hb ab h) (hx : h[k]? = some x) : w.cell? ⟨hb, 0, none⟩ = some (.slice (some ⟨ab, 0, none⟩) h.length h.length) ∧ w.frozen? ⟨ab, k, none⟩ = false ∧ ∃ q, w.cell? ⟨ab, k, none⟩ = some (.pointer (some ⟨q, 0, none⟩)) ∧ SB w q x := by
  obtain ⟨cs, r1, r2, r3⟩ := H.r
  obtain ⟨q, s1, s2⟩ := r3 k x hx
  exact ⟨heap_cell H.v rfl, by simp [World.frozen?, r1], q, heap_cell r1 s1, s2⟩
/-- A cell is exchanged. -/
theorem CH.set {w w' : World} {hb ab k q : Nat} {h : List Cl} {y : Cl} (H : CH w hb ab h) (hB : Below w.heap.size w w') (hk : k < h.length) (hq : SB w' q y) (hy : OkK y) : CH (w'.setCell ⟨ab, k, none⟩ (.pointer (some ⟨q, 0, none⟩))) hb ab (h.set k y) := by
  have H' := H.below hB
  obtain ⟨cs, r1, r2, r3⟩ := H'.r
  have hne := H'.ne
  have hs : ∀ g, g ≠ ab → (w'.setCell ⟨ab, k, none⟩ (.pointer (some ⟨q, 0, none⟩))).heap[g]? = w'.heap[g]? := fun g hg => Below.heap_setCell _ _ _ _ hg
  have nq : ∀ g z, SB w' g z → g ≠ ab := fun g z hz => ty_ne (show w'.heap[g]? = _ from hz) r1 (by decide)
  refine ⟨?_, ⟨_, set_atC r1 _, by simp [r2], fun j x hx => ?_⟩, fun x hx => ?_, by simpa using H'.len⟩
  · rw [hs _ hne]; simpa using H'.v
  · by_cases e : k = j
    · subst e
      rw [List.getElem?_set_self hk] at hx
      cases hx
      exact ⟨q, by simp [r2, hk], hq.kept (hs _ (nq _ _ hq))⟩
    · rw [List.getElem?_set_ne e] at hx
      obtain ⟨p, s1, s2⟩ := r3 j x hx
      exact ⟨p, by rw [Array.getElem?_setIfInBounds_ne e]; exact s1, s2.kept (hs _ (nq _ _ s2))⟩
  · rcases List.mem_or_eq_of_mem_set hx with h1 | h1
    · exact H'.ok x h1
    · exact h1 ▸ hy

theorem eql_words (a b c d : Int) (w : World) : (Op.equalIn 9999 82 (.agg #[.int .u64 a, .int .u64 b]) (.agg #[.int .u64 c, .int .u64 d])).run Try.prog w = .ok (a == c && b == d) w := by
  obtain ⟨i, hi⟩ : ∃ i, Try.prog.info? 37 = some i := info_of_underlying Try.underlying37
  rw [show (9999 : Nat) = 9998 + 1 from rfl, run_equalIn_array w 9998 _ _ Try.underlying82 hi]
  have hc : Try.prog.cellsOf 37 = 1 := by kernel_rfl
  have hp : Try.prog.plainKey 37 = true := by kernel_rfl
  rw [hc]
  simp only [List.range, List.range.loop, Op.eqItems, Sem.run_bind, Nat.zero_mul, Nat.one_mul]
  rw [run_part_plain w hp (v := .int .u64 a) rfl]
  simp only [Result.andThen_ok]
  rw [run_part_plain w hp (v := .int .u64 c) rfl]
  simp only [Result.andThen_ok]
  rw [show (9998 : Nat) = 9997 + 1 from rfl, run_equalIn_int w 9997 _ _ _ _ _ Try.underlying37]
  simp only [Result.andThen_ok]
  cases h : (a == c)
  · simp
  · simp only [Bool.true_and, Bool.not_true, Bool.false_eq_true, if_false, Sem.run_bind]
    rw [run_part_plain w hp (v := .int .u64 b) rfl]
    simp only [Result.andThen_ok]
    rw [run_part_plain w hp (v := .int .u64 d) rfl]
    simp only [Result.andThen_ok]
    rw [run_equalIn_int w 9997 _ _ _ _ _ Try.underlying37]
    simp only [Result.andThen_ok]
    cases h2 : (b == d) <;> simp
theorem eql_state (x y : Cl) (w : World) : (binOp .eql 84 (cV x) (cV y)).run Try.prog w = .ok (.bool (x.k == y.k && (x.c == y.c && (x.a == y.a && x.b == y.b)))) w := by
  simp [go_sem, eql_words]
  by_cases h1 : x.k = y.k
  · by_cases h2 : x.c = y.c
    · cases h3 : (x.a == y.a && x.b == y.b) <;> (simp [h1, h2]; simpa using h3)
    · simp [h1, h2]
  · simp [h1]
set_option maxRecDepth 100000 in
set_option maxHeartbeats 4000000 in
theorem isFree_any (x : Cl) (w : World) : Calls Try.prog 35 #[cV x] w fun e w' => e = .returned (.bool (x.k == 0)) ∧ Below w.heap.size w w' := by
  have HB : Hid (Below w.heap.size w (w.alloc (.cells #[.int .u8 x.k, .int .u8 x.c, .int .u64 x.a, .int .u64 x.b] 84))) := (Below.refl _ w).alloc (Nat.le_refl _) _
  go_enter Try.func35, Try.ntmps35
  go_wp2
  go_ret
  exact ⟨rfl, HB.out⟩
set_option maxRecDepth 100000 in
set_option maxHeartbeats 4000000 in
theorem isColour_any (c : Int) (w : World) : Calls Try.prog 32 #[.int .u8 c] w fun e w' => e = .returned (.bool (decide (c ≤ 2))) ∧ w' = w := by
  go_enter Try.func32, Try.ntmps32
  go_wp2
  go_ret
  exact ⟨rfl, rfl⟩
def inB (n : Nat) (i : Int) : Bool := decide (0 ≤ i) && decide (i < n)
theorem inB_iff {n : Nat} {i : Int} : inB n i = true ↔ ∃ k : Nat, i = k ∧ k < n := by
  unfold inB
  simp
  constructor
  · rintro ⟨h1, h2⟩
    exact ⟨i.toNat, by omega, by omega⟩
  · rintro ⟨k, rfl, hk⟩
    omega
set_option maxRecDepth 100000 in
set_option maxHeartbeats 4000000 in
theorem has_any {hb ab : Nat} {h : List Cl} (i : Int) (w : World) (H : CH w hb ab h) : Calls Try.prog 31 #[.pointer (some ⟨hb, 0, none⟩), .int .i64 i] w fun e w' => e = .returned (.bool (inB h.length i)) ∧ w' = w := by
  have c1 : w.cell? ⟨hb, 0, none⟩ = some (.slice (some ⟨ab, 0, none⟩) h.length h.length) := heap_cell H.v rfl
  unfold inB
  clear H
  by_cases h1 : 0 ≤ i
  · have z1 : decide (0 ≤ i) = true := by simpa using h1
    have z2 : decide (i ≥ 0) = true := by simpa using h1
    rw [z1, Bool.true_and]
    go_enter Try.func31, Try.ntmps31
    go_wp2
    go_ret
    exact ⟨rfl, rfl⟩
  · have z1 : decide (0 ≤ i) = false := by simpa using h1
    have z2 : decide (i ≥ 0) = false := by simpa using h1
    rw [z1, Bool.false_and]
    go_enter Try.func31, Try.ntmps31
    go_wp2
    go_ret
    exact ⟨rfl, rfl⟩
end Go.Proofs.Ytjbfpklbgefacaa
