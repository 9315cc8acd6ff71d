/- A new book. -/
import Derived.Test.YtdlnkdcgipaoeaaDoorGC
namespace Go.Proofs.YtdlnkdcgipaoeaaDoor
open Go.RowKit

def newL (n : Nat) : List (Sl × Lk) := List.replicate n (⟨none, 0⟩, ⟨[], 0⟩)
def mdC (n : Nat) : Array Value := ((newL n).flatMap lc).toArray
def newB (n m : Nat) : Bk := ⟨[], List.replicate n ⟨[], 0⟩, List.replicate m 4⟩
theorem made_locks (n : Nat) (h : n ≤ 8) (W : World) : (Instr.makeSlice 91 (.int .i64 (n : Int)) (.int .i64 (n : Int))).run Tryd.prog W = .ok (.slice (some ⟨W.heap.size, 0, none⟩) n n) (W.alloc (.cells (mdC n) 130)) := by
  have : n = 0 ∨ n = 1 ∨ n = 2 ∨ n = 3 ∨ n = 4 ∨ n = 5 ∨ n = 6 ∨ n = 7 ∨ n = 8 := by omega
  rcases this with rfl | rfl | rfl | rfl | rfl | rfl | rfl | rfl | rfl <;> (show _ = _) <;> kernel_rfl
theorem wc1 (X : World) (b : Nat) (hb : b = X.heap.size) : b < (X.alloc (.cells #[.int .u64 4] 56)).drew.heap.size ∧ (X.alloc (.cells #[.int .u64 4] 56)).drew.cell? ⟨b, 0, none⟩ = some (.int .u64 4) := by
  subst hb
  refine ⟨?_, new_cell X _ _ 0 _ rfl⟩
  show _ < (X.alloc _).heap.size
  rw [World.size_alloc]
  omega
theorem wc2 (X : World) (o : Obj) (b : Nat) (hb : b = X.heap.size) : b < ((X.alloc (.cells #[.int .u64 4] 56)).alloc o).drew.heap.size ∧ ((X.alloc (.cells #[.int .u64 4] 56)).alloc o).drew.cell? ⟨b, 0, none⟩ = some (.int .u64 4) := by
  obtain ⟨h1, h2⟩ := wc1 X b hb
  have h1' : b < (X.alloc (.cells #[.int .u64 4] 56)).heap.size := h1
  refine ⟨?_, (World.cell?_of_block (a := ⟨b, 0, none⟩) (Below.heap_alloc _ _ _ h1')).trans h2⟩
  show _ < ((X.alloc _).alloc _).heap.size
  rw [World.size_alloc]
  omega
theorem mulOk : MulOk Tryd.prog 76 := fun x y w hx hy => Tryd.bits_Mul x y hx hy w
def NewR (n m : Nat) (w : World) (e : Ending) (w' : World) : Prop := ∃ b F, e = .returned (.tuple #[.pointer (some ⟨b, 0, none⟩), .int .i64 0]) ∧ BB w' b (newB n m) F ∧ (∀ g, F g → w.heap.size ≤ g) ∧ Below w.heap.size w w'
theorem new_of {w W : World} {gl gg n m : Nat} (hl : W.heap[gl]? = some (.cells (mdC n) 130 (0, 0))) (hg : DR W 56 gg m (fun _ u => u = .int .u64 4)) (hb : Below w.heap.size w W) (hgl : w.heap.size ≤ gl) (hgg : w.heap.size ≤ gg) (hn : n ≤ 8) (hm : m ≤ 64) :
    NewR n m w (.returned (.tuple #[.pointer (some ⟨W.heap.size, 0, none⟩), .int .i64 0])) (W.alloc (.cells #[.slice none 0 0, .slice (some ⟨gl, 0, none⟩) n n, .slice (some ⟨gg, 0, none⟩) m m] 96)) := by
  have hs := hb.size
  have ln : (newL n).length = n := by simp [newL]
  have lm : (List.replicate m (4 : Int)).length = m := by simp
  have hR : rws [] (newL n) = List.replicate n ((⟨none, 0⟩ : Sl), ([] : List Int)) := by simp [rws, newL]
  have hX : BX (W.alloc (.cells #[.slice none 0 0, .slice (some ⟨gl, 0, none⟩) n n, .slice (some ⟨gg, 0, none⟩) m m] 96)) W.heap.size ⟨none, 0⟩ ⟨some ⟨gl, 0, none⟩, n⟩ ⟨some ⟨gg, 0, none⟩, m⟩ [] (newL n) (List.replicate m 4) := by
    refine ⟨?_, ⟨rfl, .inl ⟨rfl, rfl⟩⟩, ?_, ?_, ⟨fun i p hp => ?_, fun i j p q g hp _ hpg _ => ?_⟩, by simp, by rw [ln]; exact hn, by rw [lm]; exact hm⟩
    · rw [ln, lm]
      exact heap_alloc_new W _
    · rw [ln]
      refine own_of (cap := n) ((Below.heap_alloc _ _ _ (heap_lt hl)).trans hl) ?_ (Nat.le_refl _) (by unfold maxLen; omega) (Nat.zero_le _) ?_ (fun k u hk => ?_)
      · rw [mdC, List.size_toArray, fm_len lc_len, ln]
      · rw [fm_len lc_len, ln]
      · rw [mdC]
        simpa using hk
    · rw [lm]
      obtain ⟨cs, h1, h2, h3⟩ := hg
      refine own_of (cap := m) ((Below.heap_alloc _ _ _ (heap_lt h1)).trans h1) (by omega) (Nat.le_refl _) (by unfold maxLen; omega) (Nat.zero_le _) (by simp) (fun k u hk => ?_)
      have hk2 : k < m := by
        have := (List.getElem?_eq_some_iff.1 hk).1
        simpa using this
      rw [List.getElem?_map, List.getElem?_replicate, if_pos hk2] at hk
      have hc : k < cs.size := by omega
      have e := h3 k cs[k] (Array.getElem?_eq_getElem hc)
      rw [Array.getElem?_eq_getElem hc, e]
      exact hk
    · rw [hR] at hp
      rw [List.eq_of_mem_replicate (List.mem_of_getElem? hp)]
      exact .inl ⟨rfl, rfl⟩
    · rw [hR] at hp
      rw [List.eq_of_mem_replicate (List.mem_of_getElem? hp)] at hpg
      cases hpg
  refine ⟨W.heap.size, _, rfl, ⟨_, _, _, [], newL n, hX, rfl, by simp [newL, newB], rfl⟩, fun g hg' => ?_, hb.alloc hs _⟩
  rcases hg' with (rfl | h | h | h) | ⟨p, hp, h⟩
  · exact hs
  · cases h
  · have := Option.some.inj h
    dsimp only at this
    omega
  · have := Option.some.inj h
    dsimp only at this
    omega
  · rw [hR] at hp
    rw [List.eq_of_mem_replicate hp] at h
    cases h
set_option maxRecDepth 100000 in
set_option maxHeartbeats 8000000 in
theorem new_any (n m : Nat) (hn : n ≤ 8) (hm : m ≤ 64) (w : World) (hT : Tab w) :
    Calls Tryd.prog 8 #[.int .i64 (n : Int), .int .i64 (m : Int)] w fun e w' => NewR n m w e w' := by
  have HM : Hid (Calls Tryd.prog 29 #[.int .u8 4, .int .i64 0] w fun e w' => e = .returned (.tuple #[.int .u64 4, .int .i64 0]) ∧ w' = w) := make_any 4 0 w (by omega) (by omega) hT
  have hmk := made_locks n hn
  have k1 : ¬ (n : Int) < 0 := by omega
  have k2 : ¬ (n : Int) > 8 := by omega
  have k3 : ¬ (m : Int) < 0 := by omega
  have k4 : ¬ (m : Int) > 64 := by omega
  have HRp : Hid (∀ (W : World) (b : Nat), b < W.heap.size → W.cell? ⟨b, 0, none⟩ = some (.int .u64 4) → Calls Tryd.prog 30 #[.slice (some ⟨b, 0, none⟩) 1 1, .int .i64 (m : Int)] W fun e w' => (∃ g, W.heap.size ≤ g ∧ e = .returned (.slice (some ⟨g, 0, none⟩) m m) ∧ DR w' 56 g m (fun _ u => u = .int .u64 4)) ∧ Below W.heap.size W w') := fun W b hb hc => repeat_any 4 m b W mulOk hb hc (by omega)
  clear hT
  go_enter Tryd.func8, Tryd.ntmps8
  go_wp2_with fail
  refine Calls.mono HM.out ?_
  rintro e w2 ⟨rfl, hw2⟩
  rw [hw2]
  clear hw2
  clear HM
  go_upto_region 4 with fail
  go_region_held3 (fun _ : World => True) (trivial) (first | (go_at_call 30; (first | (refine (HRp.out _ _ (wc2 _ _ _ (by simp)).1 (wc2 _ _ _ (by simp)).2).mono ?_) | (refine (HRp.out _ _ (wc1 _ _ (by simp)).1 (wc1 _ _ (by simp)).2).mono ?_)); rintro e w99 ⟨⟨g99, hg99, rfl, hd99⟩, hb99⟩) | fail)
  · have z2 : ((w.alloc (.cells (mdC n) 130)).alloc (.cells #[.int .u64 4] 56)).drew.heap.size = w.heap.size + 2 := by
      show ((w.alloc _).alloc _).heap.size = _
      rw [World.size_alloc, World.size_alloc]
    have b2 : Below w.heap.size w ((w.alloc (.cells (mdC n) 130)).alloc (.cells #[.int .u64 4] 56)).drew := (((Below.refl _ w).alloc (Nat.le_refl _) _).alloc (by rw [World.size_alloc]; omega) _).drew
    have l2 : ((w.alloc (.cells (mdC n) 130)).alloc (.cells #[.int .u64 4] 56)).drew.heap[w.heap.size]? = some (.cells (mdC n) 130 (0, 0)) := (Below.heap_alloc _ _ _ (by rw [World.size_alloc]; omega)).trans (heap_alloc_new w _)
    have HF : Hid _ := new_of (w := w) (n := n) (m := m) ((hb99.block w.heap.size (by omega)).trans l2) hd99 (b2.trans (hb99.mono (by omega))) (Nat.le_refl _) (by omega) hn hm
    clear z2 b2 l2 hb99 hg99 hd99 hmk HRp
    go_wp2
    refine bodyPost_ret (results_tmp2 rfl _ _ _) rfl ?_
    exact HF.out
  · have z2 : ((w.alloc (.cells #[.int .u64 4] 56)).alloc (.cells (mdC n) 130)).drew.heap.size = w.heap.size + 2 := by
      show ((w.alloc _).alloc _).heap.size = _
      rw [World.size_alloc, World.size_alloc]
    have b2 : Below w.heap.size w ((w.alloc (.cells #[.int .u64 4] 56)).alloc (.cells (mdC n) 130)).drew := (((Below.refl _ w).alloc (Nat.le_refl _) _).alloc (by rw [World.size_alloc]; omega) _).drew
    have l2 : ((w.alloc (.cells #[.int .u64 4] 56)).alloc (.cells (mdC n) 130)).drew.heap[w.heap.size + 1]? = some (.cells (mdC n) 130 (0, 0)) := by
      have := heap_alloc_new (w.alloc (.cells #[.int .u64 4] 56)) (.cells (mdC n) 130)
      rw [World.size_alloc] at this
      exact this
    have HF : Hid _ := new_of (w := w) (n := n) (m := m) ((hb99.block (w.heap.size + 1) (by omega)).trans l2) hd99 (b2.trans (hb99.mono (by omega))) (by omega) (by omega) hn hm
    clear z2 b2 l2 hb99 hg99 hd99 hmk HRp
    go_wp2
    refine bodyPost_ret (results_tmp2 rfl _ _ _) rfl ?_
    exact HF.out
  · have z2 : (w.alloc (.cells #[.int .u64 4] 56)).drew.heap.size = w.heap.size + 1 := World.size_alloc ..
    have b2 : Below w.heap.size w (w.alloc (.cells #[.int .u64 4] 56)).drew := ((Below.refl _ w).alloc (Nat.le_refl _) _).drew
    have b3 : Below w.heap.size w w99 := b2.trans (hb99.mono (by omega))
    have hs3 := b3.size
    have HF : Hid (NewR n m w (.returned (.tuple #[.pointer (some ⟨w99.heap.size + 1, 0, none⟩), .int .i64 0])) ((w99.alloc (.cells (mdC n) 130)).alloc (.cells #[.slice none 0 0, .slice (some ⟨w99.heap.size, 0, none⟩) n n, .slice (some ⟨g99, 0, none⟩) m m] 96))) := by
      have := new_of (w := w) (n := n) (m := m) (heap_alloc_new w99 (.cells (mdC n) 130)) (hd99.kept (Below.heap_alloc _ _ _ hd99.lt)) (b3.alloc hs3 _) (by omega) (by omega) hn hm
      rw [World.size_alloc] at this
      exact this
    clear z2 b2 b3 hs3 hb99 hg99 hd99 hmk HRp
    go_wp2
    refine bodyPost_ret (results_tmp2 rfl _ _ _) rfl ?_
    exact HF.out
end Go.Proofs.YtdlnkdcgipaoeaaDoor
