/- The document's New. -/
import Derived.Test.YtdlnkdcgipaoeaaDoorGH
namespace Go.Proofs.YtdlnkdcgipaoeaaDoor
open Go.RowKit

set_option maxRecDepth 100000 in
set_option maxHeartbeats 4000000 in
theorem dMay4 (w : World) : Calls Tryd.prog 77 #[.int .u8 4, .int .i64 0] w fun e w' => e = .returned (.bool true) ∧ w' = w := by
  go_enter Tryd.func77, Tryd.ntmps77
  go_wp2
  go_ret
  exact ⟨rfl, rfl⟩
set_option maxRecDepth 100000 in
set_option maxHeartbeats 4000000 in
theorem dMake4 (w : World) : Calls Tryd.prog 31 #[.int .u8 4, .int .i64 0] w fun e w' => e = .returned (.tuple #[.int .u64 4, .int .i64 0]) ∧ w' = w := by
  have HM : Hid (Calls Tryd.prog 77 #[.int .u8 4, .int .i64 0] w fun e w' => e = .returned (.bool true) ∧ w' = w) := dMay4 w
  go_enter Tryd.func31, Tryd.ntmps31
  go_wp2_with fail
  refine Calls.mono HM.out ?_
  rintro e w2 ⟨rfl, hw2⟩
  rw [hw2]
  clear hw2
  go_wp2
  exact bodyPost_ret (results_tmp2 rfl _ _ _) rfl ⟨rfl, rfl⟩
def newDL (n : Nat) : List (Sl × Dl) := List.replicate n (⟨none, 0⟩, ⟨0, []⟩)
def mdD (n : Nat) : Array Value := ((newDL n).flatMap dlc).toArray
def glD (m j : Nat) : List Int := List.replicate j 4 ++ List.replicate (m - j) 0
def newD (n m : Nat) : Dk := ⟨[], List.replicate n ⟨0, []⟩, List.replicate m 4⟩
theorem made_dlocks (n : Nat) (h : n ≤ 8) (W : World) : (Instr.makeSlice 97 (.int .i64 (n : Int)) (.int .i64 (n : Int))).run Tryd.prog W = .ok (.slice (some ⟨W.heap.size, 0, none⟩) n n) (W.alloc (.cells (mdD n) 142)) := by
  have : n = 0 ∨ n = 1 ∨ n = 2 ∨ n = 3 ∨ n = 4 ∨ n = 5 ∨ n = 6 ∨ n = 7 ∨ n = 8 := by omega
  rcases this with rfl | rfl | rfl | rfl | rfl | rfl | rfl | rfl | rfl <;> (show _ = _) <;> kernel_rfl
theorem made_dwords : ∀ (m : Nat) (_ : m ≤ 64) (W : World), (Instr.makeSlice 92 (.int .i64 (m : Int)) (.int .i64 (m : Int))).run Tryd.prog W = .ok (.slice (some ⟨W.heap.size, 0, none⟩) m m) (W.alloc (.cells ((glD m 0).map (Value.int .u64)).toArray 56))
  | 0, _, W => by show _ = _; kernel_rfl
  | 1, _, W => by show _ = _; kernel_rfl
  | 2, _, W => by show _ = _; kernel_rfl
  | 3, _, W => by show _ = _; kernel_rfl
  | 4, _, W => by show _ = _; kernel_rfl
  | 5, _, W => by show _ = _; kernel_rfl
  | 6, _, W => by show _ = _; kernel_rfl
  | 7, _, W => by show _ = _; kernel_rfl
  | 8, _, W => by show _ = _; kernel_rfl
  | 9, _, W => by show _ = _; kernel_rfl
  | 10, _, W => by show _ = _; kernel_rfl
  | 11, _, W => by show _ = _; kernel_rfl
  | 12, _, W => by show _ = _; kernel_rfl
  | 13, _, W => by show _ = _; kernel_rfl
  | 14, _, W => by show _ = _; kernel_rfl
  | 15, _, W => by show _ = _; kernel_rfl
  | 16, _, W => by show _ = _; kernel_rfl
  | 17, _, W => by show _ = _; kernel_rfl
  | 18, _, W => by show _ = _; kernel_rfl
  | 19, _, W => by show _ = _; kernel_rfl
  | 20, _, W => by show _ = _; kernel_rfl
  | 21, _, W => by show _ = _; kernel_rfl
  | 22, _, W => by show _ = _; kernel_rfl
  | 23, _, W => by show _ = _; kernel_rfl
  | 24, _, W => by show _ = _; kernel_rfl
  | 25, _, W => by show _ = _; kernel_rfl
  | 26, _, W => by show _ = _; kernel_rfl
  | 27, _, W => by show _ = _; kernel_rfl
  | 28, _, W => by show _ = _; kernel_rfl
  | 29, _, W => by show _ = _; kernel_rfl
  | 30, _, W => by show _ = _; kernel_rfl
  | 31, _, W => by show _ = _; kernel_rfl
  | 32, _, W => by show _ = _; kernel_rfl
  | 33, _, W => by show _ = _; kernel_rfl
  | 34, _, W => by show _ = _; kernel_rfl
  | 35, _, W => by show _ = _; kernel_rfl
  | 36, _, W => by show _ = _; kernel_rfl
  | 37, _, W => by show _ = _; kernel_rfl
  | 38, _, W => by show _ = _; kernel_rfl
  | 39, _, W => by show _ = _; kernel_rfl
  | 40, _, W => by show _ = _; kernel_rfl
  | 41, _, W => by show _ = _; kernel_rfl
  | 42, _, W => by show _ = _; kernel_rfl
  | 43, _, W => by show _ = _; kernel_rfl
  | 44, _, W => by show _ = _; kernel_rfl
  | 45, _, W => by show _ = _; kernel_rfl
  | 46, _, W => by show _ = _; kernel_rfl
  | 47, _, W => by show _ = _; kernel_rfl
  | 48, _, W => by show _ = _; kernel_rfl
  | 49, _, W => by show _ = _; kernel_rfl
  | 50, _, W => by show _ = _; kernel_rfl
  | 51, _, W => by show _ = _; kernel_rfl
  | 52, _, W => by show _ = _; kernel_rfl
  | 53, _, W => by show _ = _; kernel_rfl
  | 54, _, W => by show _ = _; kernel_rfl
  | 55, _, W => by show _ = _; kernel_rfl
  | 56, _, W => by show _ = _; kernel_rfl
  | 57, _, W => by show _ = _; kernel_rfl
  | 58, _, W => by show _ = _; kernel_rfl
  | 59, _, W => by show _ = _; kernel_rfl
  | 60, _, W => by show _ = _; kernel_rfl
  | 61, _, W => by show _ = _; kernel_rfl
  | 62, _, W => by show _ = _; kernel_rfl
  | 63, _, W => by show _ = _; kernel_rfl
  | 64, _, W => by show _ = _; kernel_rfl
  | n + 65, h, _ => absurd h (by omega)
structure NV (w wr : World) (r gl gg n m j : Nat) : Prop where
  x : DX wr r ⟨none, 0⟩ ⟨some ⟨gl, 0, none⟩, n⟩ ⟨some ⟨gg, 0, none⟩, m⟩ [] (newDL n) (glD m j)
  b : Below w.heap.size w wr
  f : w.heap.size ≤ r ∧ w.heap.size ≤ gl ∧ w.heap.size ≤ gg
theorem glD_len {m j : Nat} (h : j ≤ m) : (glD m j).length = m := by simp [glD]; omega
theorem glD_set {m j : Nat} (h : j < m) : (glD m j).set j 4 = glD m (j + 1) := by
  unfold glD
  rw [List.set_append_right _ _ (by simp), List.length_replicate, Nat.sub_self, show m - j = (m - (j + 1)) + 1 by omega, List.replicate_succ, List.set_cons_zero, List.replicate_succ', List.append_assoc]
  rfl
theorem newDL_len (n : Nat) : (newDL n).length = n := by simp [newDL]
theorem nv_of {w W : World} {gl gg n m : Nat} (hl : W.heap[gl]? = some (.cells (mdD n) 142 (0, 0))) (hg : W.heap[gg]? = some (.cells ((glD m 0).map (Value.int .u64)).toArray 56 (0, 0))) (hb : Below w.heap.size w W) (hgl : w.heap.size ≤ gl) (hgg : w.heap.size ≤ gg) (hn : n ≤ 8) (hm : m ≤ 64) :
    NV w (W.alloc (.cells #[.slice none 0 0, .slice (some ⟨gl, 0, none⟩) n n, .slice (some ⟨gg, 0, none⟩) m m] 100)) W.heap.size gl gg n m 0 := by
  have hs := hb.size
  have ln := newDL_len n
  have lm := glD_len (Nat.zero_le m)
  have hR : dws (newDL n) = List.replicate n ((⟨none, 0⟩ : Sl), ([] : List Int)) := by simp [dws, newDL]
  refine ⟨⟨?_, ⟨rfl, .inl ⟨rfl, rfl⟩⟩, ?_, ?_, ⟨fun i p hp => ?_, fun i j p q g hp _ hpg _ => ?_⟩, by simp, by rw [ln]; exact hn, by rw [lm]; exact hm⟩, hb.alloc hs _, hs, hgl, hgg⟩
  · rw [ln, lm]
    exact heap_alloc_new W _
  · rw [ln]
    refine own_of (cap := n) ((Below.heap_alloc _ _ _ (heap_lt hl)).trans hl) ?_ (Nat.le_refl _) (by unfold maxLen; omega) (Nat.zero_le _) ?_ (fun k u hk => ?_)
    · rw [mdD, List.size_toArray, fm_len dlc_len, ln]
    · rw [fm_len dlc_len, ln]
    · rw [mdD]
      simpa using hk
  · rw [lm]
    refine own_of (cap := m) ((Below.heap_alloc _ _ _ (heap_lt hg)).trans hg) (by simp [lm]) (Nat.le_refl _) (by unfold maxLen; omega) (Nat.zero_le _) (by simp [lm]) (fun k u hk => ?_)
    simpa using hk
  · rw [hR] at hp
    rw [List.eq_of_mem_replicate (List.mem_of_getElem? hp)]
    exact .inl ⟨rfl, rfl⟩
  · rw [hR] at hp
    rw [List.eq_of_mem_replicate (List.mem_of_getElem? hp)] at hpg
    cases hpg
theorem NV.next {w wr : World} {r gl gg n m j : Nat} (h : NV w wr r gl gg n m j) (hj : j < m) : NV w (wr.setCell ⟨gg, j, none⟩ (.int .u64 4)) r gl gg n m (j + 1) := by
  obtain ⟨h1, h2⟩ := h.x.glG (i := j) 4 rfl
  rw [glD_set hj] at h1
  exact ⟨h1, h.b.setCell (p := ⟨gg, j, none⟩) h.f.2.2 _, h.f⟩
theorem NV.drew {w wr : World} {r gl gg n m j : Nat} (h : NV w wr r gl gg n m j) : NV w wr.drew r gl gg n m j := ⟨h.x.below ((Below.refl _ _).drew), h.b.drew, h.f⟩
def DNewR (n m : Nat) (w : World) (e : Ending) (w' : World) : Prop := ∃ b F, e = .returned (.tuple #[.pointer (some ⟨b, 0, none⟩), .int .i64 0]) ∧ DB w' b (newD n m) F ∧ (∀ g, F g → w.heap.size ≤ g) ∧ Below w.heap.size w w'
theorem NV.done {w wr : World} {r gl gg n m : Nat} (h : NV w wr r gl gg n m m) : DNewR n m w (.returned (.tuple #[.pointer (some ⟨r, 0, none⟩), .int .i64 0])) wr := by
  have hG : glD m m = List.replicate m 4 := by simp [glD]
  have hx := h.x
  rw [hG] at hx
  refine ⟨r, _, rfl, ⟨_, _, _, newDL n, hx, by simp [newDL, newD], rfl⟩, fun g hg => ?_, h.b⟩
  rcases hg with (rfl | h' | h' | h') | ⟨p, hp, h'⟩
  · exact h.f.1
  · cases h'
  · have := Option.some.inj h'
    dsimp only at this
    have := h.f.2.1
    omega
  · have := Option.some.inj h'
    dsimp only at this
    have := h.f.2.2
    omega
  · have hR : dws (newDL n) = List.replicate n ((⟨none, 0⟩ : Sl), ([] : List Int)) := by simp [dws, newDL]
    rw [hR] at hp
    rw [List.eq_of_mem_replicate hp] at h'
    cases h'
theorem nv_a (w : World) {n m : Nat} (hn : n ≤ 8) (hm : m ≤ 64) : NV w (((w.alloc (.cells (mdD n) 142)).alloc (.cells ((glD m 0).map (Value.int .u64)).toArray 56)).alloc (.cells #[.slice none 0 0, .slice (some ⟨w.heap.size, 0, none⟩) n n, .slice (some ⟨w.heap.size + 1, 0, none⟩) m m] 100)).drew (w.heap.size + 1 + 1) w.heap.size (w.heap.size + 1) n m 0 := by
  have h1 := heap_alloc_new w (.cells (mdD n) 142)
  have h2 := heap_alloc_new (w.alloc (.cells (mdD n) 142)) (.cells ((glD m 0).map (Value.int .u64)).toArray 56)
  rw [World.size_alloc] at h2
  have := nv_of (w := w) (n := n) (m := m) ((Below.heap_alloc _ _ _ (heap_lt h1)).trans h1) h2 (((Below.refl _ w).alloc (Nat.le_refl _) _).alloc (by rw [World.size_alloc]; omega) _) (Nat.le_refl _) (by omega) hn hm
  rw [World.size_alloc, World.size_alloc] at this
  exact this.drew
theorem nv_b (w : World) {n m : Nat} (hn : n ≤ 8) (hm : m ≤ 64) : NV w (((w.alloc (.cells ((glD m 0).map (Value.int .u64)).toArray 56)).alloc (.cells (mdD n) 142)).alloc (.cells #[.slice none 0 0, .slice (some ⟨w.heap.size + 1, 0, none⟩) n n, .slice (some ⟨w.heap.size, 0, none⟩) m m] 100)).drew (w.heap.size + 1 + 1) (w.heap.size + 1) w.heap.size n m 0 := by
  have h1 := heap_alloc_new w (.cells ((glD m 0).map (Value.int .u64)).toArray 56)
  have h2 := heap_alloc_new (w.alloc (.cells ((glD m 0).map (Value.int .u64)).toArray 56)) (.cells (mdD n) 142)
  rw [World.size_alloc] at h2
  have := nv_of (w := w) (n := n) (m := m) h2 ((Below.heap_alloc _ _ _ (heap_lt h1)).trans h1) (((Below.refl _ w).alloc (Nat.le_refl _) _).alloc (by rw [World.size_alloc]; omega) _) (by omega) (Nat.le_refl _) hn hm
  rw [World.size_alloc, World.size_alloc] at this
  exact this.drew
set_option maxRecDepth 100000 in
set_option maxHeartbeats 8000000 in
theorem dNew_any (n m : Nat) (hn : n ≤ 8) (hm : m ≤ 64) (w : World) :
    Calls Tryd.prog 9 #[.int .i64 (n : Int), .int .i64 (m : Int)] w fun e w' => DNewR n m w e w' := by
  have k1 : ¬ (n : Int) < 0 := by omega
  have k2 : ¬ (n : Int) > 8 := by omega
  have k3 : ¬ (m : Int) < 0 := by omega
  have k4 : ¬ (m : Int) > 64 := by omega
  have hmk := made_dlocks n hn
  have hmw := made_dwords m hm
  go_enter Tryd.func9, Tryd.ntmps9
  go_upto_region 3 with fail
  go_cut [6] from 28 (fun p wr => ∃ r gl gg, p = .pointer (some ⟨r, 0, none⟩) ∧ Hid (NV w wr r gl gg n m 0))
  case first =>
    go_region
    · go_wp2
      go_meet
      exact ⟨_, _, _, rfl, nv_a w hn hm⟩
    · go_wp2
      go_meet
      exact ⟨_, _, _, rfl, nv_b w hn hm⟩
  case rest =>
    obtain ⟨r, gl, gg, rfl, HN0⟩ := hcut
    clear hmk hmw
    go_wp2
    go_loopw [7] (fun v wr => ∃ j : Nat, v = .int .i64 j ∧ j ≤ m ∧ Hid (NV w wr r gl gg n m j)) (fun v _ => m - (intOf v).toNat)
    case atStart => exact ⟨0, rfl, Nat.zero_le _, HN0⟩
    case round =>
      obtain ⟨j, rfl, hj, HN⟩ := hrel
      by_cases hjm : j < m
      · have j0 : (0 : Int) ≤ (j : Int) := by omega
        have j1 : (j : Int) < (m : Int) := by omega
        have c2 := HN.out.x.c2
        rw [glD_len hj] at c2
        dsimp only at c2
        have lb := heap_lt HN.out.x.obj
        obtain ⟨v0, hv0⟩ : ∃ v0, (glD m j)[j]? = some v0 := ⟨_, List.getElem?_eq_getElem (by rw [glD_len hj]; exact hjm)⟩
        obtain ⟨gt, hp, -, lg, cs, hcs, hc⟩ := HN.out.x.gf hv0
        cases hp
        have d0 := heap_cell hcs hc
        have f0 : wr.frozen? ⟨gg, j, none⟩ = false := by simp [World.frozen?, hcs]
        have HN1 : Hid (∀ W, W = wr.drew.setCell ⟨gg, j, none⟩ (.int .u64 4) → NV w W r gl gg n m (j + 1)) := fun W hW => by rw [hW]; exact HN.out.drew.next hjm
        clear hcs hc HN
        go_upto_region 7 with fail
        go_region_with (go_at_call 31; refine (dMake4 _).mono ?_; rintro e w' ⟨rfl, rfl⟩)
        all_goals go_wp2
        all_goals go_roundw
        all_goals try (refine ⟨⟨j + 1, by go_num, by omega, HN1.out _ rfl⟩, ?_⟩)
        all_goals first | exact ⟨j + 1, by go_num, by omega, HN1.out _ rfl⟩ | (simp [intOf]; omega)
      · have hjj : j = m := by omega
        subst hjj
        have j1 : ¬ (j : Int) < (j : Int) := by omega
        go_wp2
        refine bodyPost_ret (results_tmp2 rfl _ _ _) rfl ?_
        exact HN.out.done
end Go.Proofs.YtdlnkdcgipaoeaaDoor
