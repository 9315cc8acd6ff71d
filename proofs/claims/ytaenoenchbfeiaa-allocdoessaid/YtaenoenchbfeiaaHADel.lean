/- The first of a row is deleted. -/
import Derived.Test.YtaenoenchbfeiaaHAMath
import Derived.Shelf.RegionOpenPlain
namespace Go.Proofs.Ytaenoenchbfeiaa
open Go.RowKit

/-- What deleting leaves. -/
def DelR (e size g n cap : Nat) (xs : List Value) (w w' : World) : Prop := w'.ownsRow 0 e size (.slice (some ⟨g, 0, none⟩) n cap) n (xs.drop size) ∧ (∀ k, k ≠ g → w'.heap[k]? = w.heap[k]?) ∧ Below 0 w w' ∧ w'.heap.size = w.heap.size
set_option maxRecDepth 100000 in
set_option maxHeartbeats 4000000 in
theorem delW (xs : List Value) (g n cap : Nat) (w : World) (hO : w.ownsRow 0 103 2 (.slice (some ⟨g, 0, none⟩) (n + 1) cap) (n + 1) xs) (h1c : ∀ u ∈ xs, u.oneCell' = true) :
    Calls Try.prog 53 #[.slice (some ⟨g, 0, none⟩) (n + 1) cap, .int .i64 0, .int .i64 1] w fun e w' => e = .returned (.slice (some ⟨g, 0, none⟩) n cap) ∧ DelR 103 2 g n cap xs w w' := by
  obtain ⟨cs, h1, h2, h3, h4, h5, h6, h7⟩ := own_out hO
  obtain ⟨i0, hi0, hz0, hz1, hz2⟩ := info_parts infoW
  have hcell : ∀ j, j < cap * 2 → (w.cell? ⟨g, j, none⟩).isSome = true ∧ w.frozen? ⟨g, j, none⟩ = false := fun j hj => by
    constructor
    · rw [heap_cell h1 (Array.getElem?_eq_getElem (by omega))]; rfl
    · simp [World.frozen?, h1]
  have hsrc : Hid (∀ t u, (xs.drop 2)[t]? = some u → w.drew.cell? ((⟨g, 2, none⟩ : Addr).add t) = some u) := fun t u hu => by
    rw [ad_add]
    rw [List.getElem?_drop] at hu
    exact heap_cell h1 (h7 _ u hu)
  have hsrc0 : Hid (n = 0 → ∀ t u, (xs.drop 2)[t]? = some u → w.drew.cell? ((⟨g, 0, none⟩ : Addr).add t) = some u) := fun h0 t u hu => by
    have h0 : (xs.drop 2).length = 0 := by rw [List.length_drop]; omega
    rw [List.length_eq_zero_iff.1 h0] at hu
    simp at hu
  have s1 : Hid ((xs.drop 2).length = n * 2) := by show _ = _; rw [List.length_drop]; omega
  have s2 : Hid (∀ u ∈ xs.drop 2, u.oneCell' = true) := fun u hu => h1c u (List.mem_of_mem_drop hu)
  have s3 : Hid (∀ t, t < (xs.drop 2).length → (w.drew.cell? ⟨g, 0 + 0 * 2 + t, none⟩).isSome = true ∧ w.drew.frozen? ⟨g, 0 + 0 * 2 + t, none⟩ = false) := fun t ht => by
    have := s1.out
    simp only [Nat.zero_mul, Nat.zero_add]
    exact hcell t (by omega)
  obtain ⟨W1, hW1⟩ : ∃ W1, W1 = w.drew.setCells g (0 + 0 * 2) (xs.drop 2) := ⟨_, rfl⟩
  obtain ⟨c1, e1, e2, e3⟩ := setCells_at (xs.drop 2) (0 + 0 * 2) w.drew cs h1
  rw [← hW1] at e1
  have hst := run_storeCells_cells (P := Try.prog) g (n * 2) [.int .i64 0, .int .i64 0] 0 W1 (fun j hj => by
      rw [heap_cell e1 (Array.getElem?_eq_getElem (by simp at hj; rw [e2, h2]; omega))]; rfl) (fun j hj => by simp [World.frozen?, e1]) (by intro v hv; simp at hv; rw [hv]; rfl)
  simp only [Nat.add_zero] at hst
  have hcl : ∀ ty cc, (Builtin.clear_ #[60] ty #[.slice (some ⟨g, n * 2, none⟩) 1 cc]).run Try.prog W1 = .ok (.tuple #[]) (W1.setCells g (n * 2) [.int .i64 0, .int .i64 0]) := fun ty cc => by
    have hzc : (Builtin.zeroCells (Value.agg #[.int .i64 0, .int .i64 0]).cells 1).toList = [.int .i64 0, .int .i64 0] := by kernel_rfl
    simp [Builtin.clear_, run_underlying Try.underlying60, Try.zeroValue103, hzc, hst]
  have hW : Hid (W1 = w.drew.setCells g (0 + 0 * 2) (xs.drop 2)) := hW1
  have HF : Hid (DelR 103 2 g n cap xs w (W1.setCells g (n * 2) [.int .i64 0, .int .i64 0])) := by
    obtain ⟨c2, f1, f2, f3⟩ := setCells_at [.int .i64 0, .int .i64 0] (n * 2) W1 c1 e1
    refine ⟨own_of f1 (by rw [f2, e2, h2]) (by omega) h4 h5 (by rw [List.length_drop]; omega) (fun k u hk => ?_), fun k hk => ?_, ?_, ?_⟩
    · have hl := (List.getElem?_eq_some_iff.1 hk).1
      have := s1.out
      rw [f3 k (by rw [e2, h2]; omega), if_neg (by simp; omega), e3 k (by rw [h2]; omega), if_pos (by omega)]
      simpa using hk
    · rw [setCells_far _ _ _ _ hk, hW1, setCells_far _ _ _ _ hk]; rfl
    · refine setCells_below _ _ _ _ ?_
      rw [hW1]
      exact setCells_below _ _ _ _ ((Below.refl 0 w).drew)
    · rw [setCells_size, hW1, setCells_size]; rfl
  clear hW1 hO h1 h7 hcell e1 e3 h1c hst
  have k1 : (1 : Int) ≤ (n : Int) + 1 := by omega
  by_cases hc1 : cap = 1
  · obtain rfl : n = 0 := by omega
    subst hc1
    have hs0 : Hid (∀ t u, (xs.drop 2)[t]? = some u → w.drew.cell? ((⟨g, 0, none⟩ : Addr).add t) = some u) := hsrc0.out rfl
    clear hsrc0 hsrc
    go_enter Try.func53, Try.ntmps53
    go_wp2_with fail
    go_region_law (refine step_append_room rfl (.tmp 22) (.tmp 25) 60 rfl 103 i0 2 Try.underlying60 hi0 hz1 g 0 0 1 (by simp [Act.eval, Act.put]) ⟨g, 0, none⟩ 0 0 (xs.drop 2) (by simp [Act.eval, Act.put]) s1.out hs0.out s2.out (by omega) s3.out ?_; rw [← hW.out])
    go_wp2
    go_ret
    exact ⟨rfl, HF.out⟩
  · have k2 : ¬ (cap : Int) - 1 = 0 := by omega
    have k3 : 1 ≤ cap := by omega
    go_enter Try.func53, Try.ntmps53
    go_wp2_with fail
    go_region_law (refine step_append_room rfl (.tmp 22) (.tmp 25) 60 rfl 103 i0 2 Try.underlying60 hi0 hz1 g 0 0 cap (by simp [Act.eval, Act.put]) ⟨g, 2, none⟩ n (cap - 1) (xs.drop 2) (by simp [Act.eval, Act.put]) s1.out hsrc.out s2.out (by omega) s3.out ?_; rw [← hW.out])
    go_wp2
    go_ret
    exact ⟨rfl, HF.out⟩
set_option maxRecDepth 100000 in
set_option maxHeartbeats 4000000 in
theorem delI (xs : List Value) (g n cap : Nat) (w : World) (hO : w.ownsRow 0 3 1 (.slice (some ⟨g, 0, none⟩) (n + 1) cap) (n + 1) xs) (h1c : ∀ u ∈ xs, u.oneCell' = true) :
    Calls Try.prog 58 #[.slice (some ⟨g, 0, none⟩) (n + 1) cap, .int .i64 0, .int .i64 1] w fun e w' => e = .returned (.slice (some ⟨g, 0, none⟩) n cap) ∧ DelR 3 1 g n cap xs w w' := by
  obtain ⟨cs, h1, h2, h3, h4, h5, h6, h7⟩ := own_out hO
  obtain ⟨i0, hi0, hz0, hz1, hz2⟩ := info_parts infoI
  have hcell : ∀ j, j < cap * 1 → (w.cell? ⟨g, j, none⟩).isSome = true ∧ w.frozen? ⟨g, j, none⟩ = false := fun j hj => by
    constructor
    · rw [heap_cell h1 (Array.getElem?_eq_getElem (by omega))]; rfl
    · simp [World.frozen?, h1]
  have hsrc : Hid (∀ t u, (xs.drop 1)[t]? = some u → w.drew.cell? ((⟨g, 1, none⟩ : Addr).add t) = some u) := fun t u hu => by
    rw [ad_add]
    rw [List.getElem?_drop] at hu
    exact heap_cell h1 (h7 _ u hu)
  have hsrc0 : Hid (n = 0 → ∀ t u, (xs.drop 1)[t]? = some u → w.drew.cell? ((⟨g, 0, none⟩ : Addr).add t) = some u) := fun h0 t u hu => by
    have h0 : (xs.drop 1).length = 0 := by rw [List.length_drop]; omega
    rw [List.length_eq_zero_iff.1 h0] at hu
    simp at hu
  have s1 : Hid ((xs.drop 1).length = n * 1) := by show _ = _; rw [List.length_drop]; omega
  have s2 : Hid (∀ u ∈ xs.drop 1, u.oneCell' = true) := fun u hu => h1c u (List.mem_of_mem_drop hu)
  have s3 : Hid (∀ t, t < (xs.drop 1).length → (w.drew.cell? ⟨g, 0 + 0 * 1 + t, none⟩).isSome = true ∧ w.drew.frozen? ⟨g, 0 + 0 * 1 + t, none⟩ = false) := fun t ht => by
    have := s1.out
    simp only [Nat.zero_mul, Nat.zero_add]
    exact hcell t (by omega)
  obtain ⟨W1, hW1⟩ : ∃ W1, W1 = w.drew.setCells g (0 + 0 * 1) (xs.drop 1) := ⟨_, rfl⟩
  obtain ⟨c1, e1, e2, e3⟩ := setCells_at (xs.drop 1) (0 + 0 * 1) w.drew cs h1
  rw [← hW1] at e1
  have hst := run_storeCells_cells (P := Try.prog) g n [.int .i64 0] 0 W1 (fun j hj => by
      rw [heap_cell e1 (Array.getElem?_eq_getElem (by simp at hj; rw [e2, h2]; omega))]; rfl) (fun j hj => by simp [World.frozen?, e1]) (by intro v hv; simp at hv; rw [hv]; rfl)
  simp only [Nat.add_zero] at hst
  have hcl : ∀ ty cc, (Builtin.clear_ #[65] ty #[.slice (some ⟨g, n, none⟩) 1 cc]).run Try.prog W1 = .ok (.tuple #[]) (W1.setCells g n [.int .i64 0]) := fun ty cc => by
    have hzc : (Builtin.zeroCells (Value.int .i64 0).cells 1).toList = [.int .i64 0] := by kernel_rfl
    simp [Builtin.clear_, run_underlying Try.underlying65, Try.zeroValue3, hzc, hst]
  have hW : Hid (W1 = w.drew.setCells g (0 + 0 * 1) (xs.drop 1)) := hW1
  have HF : Hid (DelR 3 1 g n cap xs w (W1.setCells g n [.int .i64 0])) := by
    obtain ⟨c2, f1, f2, f3⟩ := setCells_at [.int .i64 0] n W1 c1 e1
    refine ⟨own_of f1 (by rw [f2, e2, h2]) (by omega) h4 h5 (by rw [List.length_drop]; omega) (fun k u hk => ?_), fun k hk => ?_, ?_, ?_⟩
    · have hl := (List.getElem?_eq_some_iff.1 hk).1
      have := s1.out
      rw [f3 k (by rw [e2, h2]; omega), if_neg (by simp; omega), e3 k (by rw [h2]; omega), if_pos (by omega)]
      simpa using hk
    · rw [setCells_far _ _ _ _ hk, hW1, setCells_far _ _ _ _ hk]; rfl
    · refine setCells_below _ _ _ _ ?_
      rw [hW1]
      exact setCells_below _ _ _ _ ((Below.refl 0 w).drew)
    · rw [setCells_size, hW1, setCells_size]; rfl
  clear hW1 hO h1 h7 hcell e1 e3 h1c hst
  have k1 : (1 : Int) ≤ (n : Int) + 1 := by omega
  by_cases hc1 : cap = 1
  · obtain rfl : n = 0 := by omega
    subst hc1
    have hs0 : Hid (∀ t u, (xs.drop 1)[t]? = some u → w.drew.cell? ((⟨g, 0, none⟩ : Addr).add t) = some u) := hsrc0.out rfl
    clear hsrc0 hsrc
    go_enter Try.func58, Try.ntmps58
    go_wp2_with fail
    go_region_law (refine step_append_room rfl (.tmp 22) (.tmp 25) 65 rfl 3 i0 1 Try.underlying65 hi0 hz1 g 0 0 1 (by simp [Act.eval, Act.put]) ⟨g, 0, none⟩ 0 0 (xs.drop 1) (by simp [Act.eval, Act.put]) s1.out hs0.out s2.out (by omega) s3.out ?_; rw [← hW.out])
    go_wp2
    go_ret
    exact ⟨rfl, HF.out⟩
  · have k2 : ¬ (cap : Int) - 1 = 0 := by omega
    have k3 : 1 ≤ cap := by omega
    go_enter Try.func58, Try.ntmps58
    go_wp2_with fail
    go_region_law (refine step_append_room rfl (.tmp 22) (.tmp 25) 65 rfl 3 i0 1 Try.underlying65 hi0 hz1 g 0 0 cap (by simp [Act.eval, Act.put]) ⟨g, 1, none⟩ n (cap - 1) (xs.drop 1) (by simp [Act.eval, Act.put]) s1.out hsrc.out s2.out (by omega) s3.out ?_; rw [← hW.out])
    go_wp2
    go_ret
    exact ⟨rfl, HF.out⟩
end Go.Proofs.Ytaenoenchbfeiaa
