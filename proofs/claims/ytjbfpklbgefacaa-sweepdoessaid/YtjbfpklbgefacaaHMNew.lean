/- New: a heap of free cells. -/
import Derived.Test.YtjbfpklbgefacaaHMLoad
import Derived.OwnWalk
namespace Go.Proofs.Ytjbfpklbgefacaa
open Go.RowKit

theorem infoP : (Try.prog.info? 80).map (fun i => (i.zero, i.size, i.bytes)) = some (some (.agg #[.pointer none]), 1, 8) := by kernel_rfl
/-- A heap that is being made: so many cells are laid. -/
structure NH (w0 w : World) (hb ab n j : Nat) : Prop where
  v : w.heap[hb]? = some (.cells #[.slice (some ⟨ab, 0, none⟩) n n] 73 (0, 0))
  r : ∃ cs : Array Value, w.heap[ab]? = some (.cells cs 80 (0, 0)) ∧ cs.size = n ∧ ∀ k : Nat, k < j → ∃ q : Nat, cs[k]? = some (.pointer (some ⟨q, 0, none⟩)) ∧ SB w q c0 ∧ w0.heap.size ≤ q
  b : Below w0.heap.size w0 w
  hb : w0.heap.size ≤ hb
  ab : w0.heap.size ≤ ab
theorem NH.next {w0 w : World} {hb ab n j : Nat} (h : NH w0 w hb ab n j) (hj : j < n) : NH w0 ((w.alloc (.cells (cL c0) 84)).setCell ⟨ab, j, none⟩ (.pointer (some ⟨w.heap.size, 0, none⟩))) hb ab n (j + 1) := by
  obtain ⟨cs, r1, r2, r3⟩ := h.r
  have l1 := heap_lt h.v
  have l2 := heap_lt r1
  have hne : hb ≠ ab := ty_ne h.v r1 (by decide)
  have hs : ∀ g, g ≠ ab → ((w.alloc (.cells (cL c0) 84)).setCell ⟨ab, j, none⟩ (.pointer (some ⟨w.heap.size, 0, none⟩))).heap[g]? = (w.alloc (.cells (cL c0) 84)).heap[g]? := fun g hg => Below.heap_setCell _ _ _ _ hg
  refine ⟨(hs _ hne).trans ((Below.heap_alloc _ _ _ l1).trans h.v), ⟨_, set_atC ((Below.heap_alloc _ _ _ l2).trans r1) _, by simp [r2], fun k hk => ?_⟩, ?_, h.hb, h.ab⟩
  · by_cases e : k = j
    · subst e
      exact ⟨w.heap.size, by simp [r2, hj], (hs _ (by omega)).trans (heap_alloc_new w _), h.b.size⟩
    · obtain ⟨q, s1, s2, s3⟩ := r3 k (by omega)
      have nq : q ≠ ab := ty_ne (show w.heap[q]? = _ from s2) r1 (by decide)
      exact ⟨q, by rw [Array.getElem?_setIfInBounds_ne (fun e' => e e'.symm)]; exact s1, (hs _ nq).trans ((Below.heap_alloc _ _ _ s2.lt).trans s2), s3⟩
  · exact (h.b.alloc h.b.size _).setCell (p := ⟨ab, j, none⟩) h.ab _
theorem NH.done {w0 w : World} {hb ab n : Nat} (h : NH w0 w hb ab n n) (hn : n ≤ 4096) : CH w hb ab (List.replicate n c0) ∧ ∀ g, Us w ab g → w0.heap.size ≤ g := by
  obtain ⟨cs, r1, r2, r3⟩ := h.r
  refine ⟨⟨by simpa using h.v, ⟨cs, r1, by simpa using r2, fun k x hx => ?_⟩, fun x hx => ?_, by simpa using hn⟩, fun g hg => ?_⟩
  · rw [List.getElem?_replicate] at hx
    split at hx
    · rename_i hk
      cases hx
      obtain ⟨q, s1, s2, _⟩ := r3 k hk
      exact ⟨q, s1, s2⟩
    · cases hx
  · rw [List.eq_of_mem_replicate hx]; exact c0_ok
  · obtain ⟨cs', k, h1, h2⟩ := hg
    rw [r1] at h1
    cases h1
    have hk : k < n := by rw [← r2]; exact (Array.getElem?_eq_some_iff.1 h2).1
    obtain ⟨q, s1, _, s3⟩ := r3 k hk
    rw [h2] at s1
    cases s1
    exact s3
def NewR (n : Nat) (w : World) (e : Ending) (w' : World) : Prop := ∃ hb ab : Nat, e = .returned (.tuple #[.pointer (some ⟨hb, 0, none⟩), .int .i64 0]) ∧ CH w' hb ab (List.replicate n c0) ∧ Below w.heap.size w w' ∧ w.heap.size ≤ hb ∧ w.heap.size ≤ ab ∧ ∀ g, Us w' ab g → w.heap.size ≤ g
set_option maxRecDepth 100000 in
set_option maxHeartbeats 8000000 in
theorem new_any (n : Nat) (w : World) (h1 : 4 ≤ n) (h2 : n ≤ 4096) : Calls Try.prog 24 #[.int .i64 n] w fun e w' => NewR n w e w' := by
  obtain ⟨i0, hi0, hz0, hz1, hz2⟩ := info_parts infoP
  obtain ⟨w2, hrun, hown, hgr⟩ := run_make_full (P := Try.prog) w w.heap.size 71 80 i0 (.agg #[.pointer none]) 1 Try.underlying71 hi0 hz0 hz1 .i64 .i64 n (by rw [hz2]; omega) (by unfold maxLen; omega) (Nat.le_refl _)
  obtain ⟨cs, r1, r2, _⟩ := own_out hown
  have b2 : Below w.heap.size w w2 := grown_low hgr (fun g hg => by cases hg) (Nat.le_refl _)
  have l2 := heap_lt r1
  have HN : Hid (NH w (w2.alloc (.cells #[.slice (some ⟨w.heap.size, 0, none⟩) n n] 73)) w2.heap.size w.heap.size n 0) := ⟨heap_alloc_new w2 _, ⟨cs, (Below.heap_alloc _ _ _ l2).trans r1, by simpa using r2, fun k hk => absurd hk (Nat.not_lt_zero _)⟩, b2.alloc b2.size _, b2.size, Nat.le_refl _⟩
  have z1 : decide ((n : Int) < 4) = false := by simp; omega
  have z2 : decide ((n : Int) > 4096) = false := by simp; omega
  have z3 : decide (4096 < (n : Int)) = false := by simp; omega
  clear hown hgr r1 r2 b2 hi0 hz0 hz1 hz2
  go_enter Try.func24, Try.ntmps24
  go_wp2_with fail
  obtain ⟨w3, hw3⟩ : ∃ w3, w3 = w2.alloc (.cells #[.slice (some ⟨w.heap.size, 0, none⟩) n n] 73) := ⟨_, rfl⟩
  rw [← hw3] at HN ⊢
  clear hw3 hrun
  go_loopw [21, 5] (fun i _ wr => ∃ j : Nat, i = .int .i64 j ∧ j ≤ n ∧ Hid (NH w wr w2.heap.size w.heap.size n j)) (fun i _ _ => n - (intOf i).toNat)
  case atStart => exact ⟨0, rfl, Nat.zero_le _, HN⟩
  case round =>
    clear HN
    obtain ⟨j, rfl, hj, HI⟩ := hrel
    by_cases hjl : j < n
    · have k1 : (j : Int) < (n : Int) := by omega
      obtain ⟨cs, q1, q2, q3⟩ := HI.out.r
      have lab := heap_lt q1
      have lhb := heap_lt HI.out.v
      have v0 : wr.cell? ⟨w2.heap.size, 0, none⟩ = some (.slice (some ⟨w.heap.size, 0, none⟩) n n) := heap_cell HI.out.v rfl
      have ca : (wr.alloc (.cells (cL c0) 84)).heap[w.heap.size]? = some (.cells cs 80 (0, 0)) := (Below.heap_alloc _ _ _ lab).trans q1
      have HC : Hid (Calls Try.prog 36 #[.pointer (some ⟨w.heap.size, j, none⟩), .pointer (some ⟨wr.heap.size, 0, none⟩)] (wr.alloc (.cells (cL c0) 84)) fun e w' => e = .returned (.tuple #[]) ∧ w' = (wr.alloc (.cells (cL c0) 84)).setCell ⟨w.heap.size, j, none⟩ (.pointer (some ⟨wr.heap.size, 0, none⟩))) :=
        pstore_any (x := c0) (heap_cell ca (Array.getElem?_eq_getElem (by omega))) (by simp [World.frozen?, ca]) (sb_new wr c0)
      have HE : Hid _ := HI.out.next hjl
      clear q1 q2 q3 ca
      go_wp2_with fail
      refine Calls.mono HC.out ?_
      rintro e w' ⟨rfl, hw'⟩
      rw [hw']
      clear hw'
      obtain ⟨w5, hw5⟩ : ∃ w5, w5 = (wr.alloc (.cells (cL c0) 84)).setCell ⟨w.heap.size, j, none⟩ (.pointer (some ⟨wr.heap.size, 0, none⟩)) := ⟨_, rfl⟩
      rw [← hw5] at HE ⊢
      clear hw5 HC v0
      go_wp2_with fail
      go_roundw
      case rel => exact ⟨j + 1, by go_num, by omega, HE⟩
      case measure => simp [intOf]; omega
    · have e : j = n := by omega
      subst e
      have k1 : ¬ ((j : Int) < (j : Int)) := by omega
      go_wp2_with fail
      go_ret2
      exact ⟨_, _, rfl, (HI.out.done h2).1, HI.out.b, HI.out.hb, HI.out.ab, (HI.out.done h2).2⟩
end Go.Proofs.Ytjbfpklbgefacaa
