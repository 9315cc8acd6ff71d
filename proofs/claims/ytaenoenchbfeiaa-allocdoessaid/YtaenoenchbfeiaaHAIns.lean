/- One is laid into a row that has room. -/
import Derived.Test.YtaenoenchbfeiaaHADel
import Derived.Lib.Overlaps
import Derived.Laws.Externs
import Derived.Lib.JoinLaws
namespace Go.Proofs.Ytaenoenchbfeiaa
open Go.RowKit Go.Lib

/-- What inserting leaves. -/
def InsR (g n cap i : Nat) (x : Int) (xs : List Value) (w w' : World) : Prop := w'.ownsRow 0 3 1 (.slice (some ⟨g, 0, none⟩) (n + 1) cap) (n + 1) (xs.take i ++ .int .i64 x :: xs.drop i) ∧ (∀ k, k ≠ g → w'.heap[k]? = w.heap[k]?) ∧ Below 0 w w' ∧ w'.heap.size = w.heap.size
theorem infoI1 : (Try.prog.info? 3).map (·.size) = some 1 := by kernel_rfl
set_option maxRecDepth 100000 in
set_option maxHeartbeats 4000000 in
theorem insI_end (xs : List Value) (g n cap vb : Nat) (x : Int) (w : World) (hO : w.ownsRow 0 3 1 (.slice (some ⟨g, 0, none⟩) n cap) n xs) (hr : n + 1 ≤ cap) (hv : w.heap[vb]? = some (.cells #[.int .i64 x] 3 (0, 0))) :
    Calls Try.prog 60 #[.slice (some ⟨g, 0, none⟩) n cap, .int .i64 n, .slice (some ⟨vb, 0, none⟩) 1 1] w fun e w' => e = .returned (.slice (some ⟨g, 0, none⟩) (n + 1) cap) ∧ InsR g n cap n x xs w w' := by
  obtain ⟨cs, h1, h2, h3, h4, h5, h6, h7⟩ := own_out hO
  obtain ⟨i0, hi0, hz0, hz1, hz2⟩ := info_parts infoI
  have hl : n ≤ 9223372036854775807 := by unfold maxLen at h4; omega
  have HF : Hid (InsR g n cap n x xs w (w.setCells g (n * 1) [.int .i64 x])) := by
    obtain ⟨c2, f1, f2, f3⟩ := setCells_at [.int .i64 x] (n * 1) w cs h1
    refine ⟨own_of f1 (by rw [f2, h2]) (by omega) h4 h5 (by simp; omega) (fun k u hk => ?_), fun k hk => setCells_far _ _ _ _ hk, setCells_below _ _ _ _ (Below.refl _ _), setCells_size _ _ _⟩
    rw [List.take_of_length_le (by omega), List.drop_eq_nil_of_le (by omega)] at hk
    have hlk := (List.getElem?_eq_some_iff.1 hk).1
    simp at hlk
    rw [f3 k (by rw [h2]; omega)]
    by_cases e : k < n
    · rw [if_neg (by omega)]
      rw [List.getElem?_append_left (by omega)] at hk
      exact h7 k u hk
    · rw [if_pos (by simp; omega)]
      rw [List.getElem?_append_right (by omega)] at hk
      rw [← hk]
      congr 1
      omega
  have hsp : ∀ j, j < [Value.int .i64 x].length → (w.cell? ⟨g, 0 + n * 1 + j, none⟩).isSome = true ∧ w.frozen? ⟨g, 0 + n * 1 + j, none⟩ = false := fun j hj => by
    simp at hj
    constructor
    · rw [heap_cell h1 (Array.getElem?_eq_getElem (by omega))]; rfl
    · simp [World.frozen?, h1]
  have hsr : ∀ j u, [Value.int .i64 x][j]? = some u → w.cell? ((⟨vb, 0, none⟩ : Addr).add j) = some u := fun j u hj => by
    rw [ad_add, Nat.zero_add]
    exact heap_cell hv (by simpa using hj)
  have HS : Hid _ := hsp
  have HR : Hid _ := hsr
  clear hO h1 h7 hv hsp hsr
  go_enter Try.func60, Try.ntmps60
  go_wp2_with (at_builtin; refine stop_of ?_)
  unfold Hid
  refine wpList_append_room1 _ rfl _ _ 65 65 rfl 3 _ _ Try.underlying65 infoI g 0 n cap rfl _ rfl 1 [.int .i64 x] (Src.ofSlice w Try.underlying65 ⟨vb, 0, none⟩ 1 1 _ rfl HR.out (by intro v hv; simp at hv; rw [hv]; rfl)) hr (fun j hj => by have := (HS.out j hj).1; rwa [Nat.mul_one] at this) (fun j hj => by have := (HS.out j hj).2; rwa [Nat.mul_one] at this) ?_
  rw [Nat.zero_add]
  rw [Nat.mul_one] at HF
  go_wp2
  go_ret
  exact ⟨rfl, HF.out⟩
set_option maxRecDepth 100000 in
set_option maxHeartbeats 4000000 in
theorem insI_in (xs : List Value) (g n cap vb i : Nat) (x : Int) (w : World) (hO : w.ownsRow 0 3 1 (.slice (some ⟨g, 0, none⟩) n cap) n xs) (hr : n + 1 ≤ cap) (hi : i < n) (hne : vb ≠ g) (hv : w.heap[vb]? = some (.cells #[.int .i64 x] 3 (0, 0))) (h1c : ∀ u ∈ xs, u.oneCell' = true) :
    Calls Try.prog 60 #[.slice (some ⟨g, 0, none⟩) n cap, .int .i64 i, .slice (some ⟨vb, 0, none⟩) 1 1] w fun e w' => e = .returned (.slice (some ⟨g, 0, none⟩) (n + 1) cap) ∧ InsR g n cap i x xs w w' := by
  obtain ⟨cs, h1, h2, h3, h4, h5, h6, h7⟩ := own_out hO
  obtain ⟨i0, hi0, hz0, hz1, hz2⟩ := info_parts infoI
  have hl : cap ≤ 9223372036854775807 := by unfold maxLen at h4; omega
  have hcell : ∀ (W : World) (cs' : Array Value), W.heap[g]? = some (.cells cs' 3 (0, 0)) → cs'.size = cap → ∀ j, j < cap → (W.cell? ⟨g, j, none⟩).isSome = true ∧ W.frozen? ⟨g, j, none⟩ = false := fun W cs' h1 h2 j hj => by
    constructor
    · rw [heap_cell h1 (Array.getElem?_eq_getElem (by omega))]; rfl
    · simp [World.frozen?, h1]
  have hdl : (xs.drop i).length = n - i := by rw [List.length_drop]; omega
  have hov : ∀ lb cb, (callFunc 64 #[.slice (some ⟨vb, 0, none⟩) 1 1, .slice (some ⟨g, i + 1, none⟩) lb cb]).run Try.prog w = .ok (.value (.bool false)) w := fun lb cb => by
    rw [run_callFunc_extern Try.func64 (by kernel_rfl) (by kernel_rfl) (by kernel_rfl) (e := Extern.SlicesOverlaps.overlaps #[65, 65] #[4]) (by kernel_rfl),
      Lib.run_overlaps_apart w 65 4 3 Try.underlying65 1 Try.sizeOf3 ⟨vb, 0, none⟩ ⟨g, i + 1, none⟩ 1 1 lb cb hne 3 3 1 cap (by simp [World.shape?, hv]) (by simp [World.shape?, h1, h2]) (by omega) (by simp [World.frozen?, hv]) (by simp [World.frozen?, hv])]
    rfl
  have hcp1 : ∀ ty dc sc, (Builtin.copy_ #[65, 65] ty #[.slice (some ⟨g, i + 1, none⟩) (n - i) dc, .slice (some ⟨g, i, none⟩) (n + 1 - i) sc]).run Try.prog w.drew = .ok (goInt (xs.drop i).length) (w.drew.setCells g (i + 1) (xs.drop i)) := fun ty dc sc =>
    run_copy_cells w.drew _ _ ty 3 g (i + 1) (n - i) dc ⟨g, i, none⟩ (n + 1 - i) sc (xs.drop i) Try.underlying65 infoI1 (by rw [hdl]; simp only [Nat.min_def]; split <;> omega)
      (fun j v hj => by rw [ad_add]; exact heap_cell h1 (h7 (i + j) v (by rwa [List.getElem?_drop] at hj)))
      (fun j hj => (hcell w cs h1 (by omega) _ (by omega)).1) (fun j hj => (hcell w cs h1 (by omega) _ (by omega)).2) (fun v hv => h1c v (List.mem_of_mem_drop hv))
  obtain ⟨W1, hW1⟩ : ∃ W1, W1 = w.drew.setCells g (i + 1) (xs.drop i) := ⟨_, rfl⟩
  obtain ⟨c1, e1, e2, e3⟩ := setCells_at (xs.drop i) (i + 1) w.drew cs h1
  rw [← hW1] at e1
  have hcp2 : ∀ ty dc, (Builtin.copy_ #[65, 65] ty #[.slice (some ⟨g, i, none⟩) (n + 1 - i) dc, .slice (some ⟨vb, 0, none⟩) 1 1]).run Try.prog W1 = .ok (goInt [Value.int .i64 x].length) (W1.setCells g i [.int .i64 x]) := fun ty dc =>
    run_copy_cells W1 _ _ ty 3 g i (n + 1 - i) dc ⟨vb, 0, none⟩ 1 1 [.int .i64 x] Try.underlying65 infoI1 (by simp [Nat.min_def]; omega)
      (fun j v hj => by
        rw [ad_add, Nat.zero_add]
        refine heap_cell (show W1.heap[vb]? = some (.cells #[.int .i64 x] 3 (0, 0)) from ?_) (by simpa using hj)
        rw [hW1, setCells_far _ _ _ _ hne]
        exact hv)
      (fun j hj => (hcell W1 c1 e1 (by omega) _ (by simp at hj; omega)).1) (fun j hj => (hcell W1 c1 e1 (by omega) _ (by simp at hj; omega)).2) (by intro v hv; simp at hv; rw [hv]; rfl)
  have HF : Hid (InsR g n cap i x xs w (W1.setCells g i [.int .i64 x])) := by
    obtain ⟨c2, f1, f2, f3⟩ := setCells_at [.int .i64 x] i W1 c1 e1
    refine ⟨own_of f1 (by rw [f2, e2, h2]) (by omega) h4 h5 (by simp; omega) (fun k u hk => ?_), fun k hk => ?_, ?_, ?_⟩
    · have hlk := (List.getElem?_eq_some_iff.1 hk).1
      simp at hlk
      have hti : (xs.take i).length = i := by simp; omega
      rw [f3 k (by rw [e2, h2]; omega)]
      by_cases e : k < i
      · rw [if_neg (by simp; omega), e3 k (by rw [h2]; omega), if_neg (by omega)]
        rw [List.getElem?_append_left (by omega), List.getElem?_take, if_pos e] at hk
        exact h7 k u hk
      · rw [List.getElem?_append_right (by omega), hti] at hk
        by_cases e' : k = i
        · subst e'
          rw [if_pos (by simp)]
          simpa using hk
        · rw [if_neg (by simp; omega), e3 k (by rw [h2]; omega), if_pos (by omega), ← hk, show k - i = (k - (i + 1)) + 1 by omega, List.getElem?_cons_succ]
    · rw [setCells_far _ _ _ _ hk, hW1, setCells_far _ _ _ _ hk]; rfl
    · refine setCells_below _ _ _ _ ?_
      rw [hW1]
      exact setCells_below _ _ _ _ ((Below.refl 0 w).drew)
    · rw [setCells_size, hW1, setCells_size]; rfl
  rw [← hW1] at hcp1
  have k1 : (i : Int) ≤ (n : Int) := by omega
  have k2 : ¬ (i : Int) = (n : Int) := by omega
  have k3 : ¬ (n : Int) + 1 > (cap : Int) := by omega
  have k4 : (i : Int) + 1 ≤ (n : Int) + 1 := by omega
  have k5 : (i : Int) ≤ (n : Int) + 1 := by omega
  have k6 : ¬ cap = i := by omega
  have k7 : ¬ cap = i + 1 := by omega
  clear hO h1 h7 hv hcell e1 e3 h1c hW1
  go_enter Try.func60, Try.ntmps60
  go_wp2
  go_region
  go_wp2
  go_ret
  exact ⟨rfl, HF.out⟩
end Go.Proofs.Ytaenoenchbfeiaa
