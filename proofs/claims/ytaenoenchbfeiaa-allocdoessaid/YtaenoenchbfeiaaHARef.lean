/- The document's Alloc, in memory; New. -/
import Derived.Test.YtaenoenchbfeiaaHAPick
namespace Go.Proofs.Ytaenoenchbfeiaa
open Go.RowKit

structure RL (w : World) (r gr : Nat) (vw : Value) (A : Al) : Prop where
  obj : w.heap[r]? = some (.cells #[.slice (some ⟨gr, 0, none⟩) A.who.length A.who.length, vw] 80 (0, 0))
  wh : DR w 3 gr A.who.length (fun k u => ∀ x, A.who[k]? = some x → u = .int .i64 x)
  wt : RWt w vw A.row
/-- Its blocks. -/
def Rt (r gr : Nat) (vw : Value) (g : Nat) : Prop := (g = r ∨ g = gr) ∨ vw.ownBlock = some g
theorem RL.lt {w : World} {r gr : Nat} {vw : Value} {A : Al} (h : RL w r gr vw A) : ∀ g, Rt r gr vw g → g < w.heap.size := fun g hg => by
  rcases hg with (rfl | rfl) | hg
  · exact heap_lt h.obj
  · exact h.wh.lt
  · obtain ⟨cs, hc⟩ := h.wt.blk hg
    exact heap_lt hc
theorem RL.kept {w w' : World} {r gr : Nat} {vw : Value} {A : Al} (h : RL w r gr vw A) (hk : ∀ g, Rt r gr vw g → w'.heap[g]? = w.heap[g]?) : RL w' r gr vw A :=
  ⟨(hk r (.inl (.inl rfl))).trans h.obj, h.wh.kept (hk gr (.inl (.inr rfl))), h.wt.kept (fun g hg => hk g (.inr hg))⟩
theorem RL.ne {w : World} {r gr : Nat} {vw : Value} {A : Al} (h : RL w r gr vw A) : r ≠ gr ∧ ∀ g, vw.ownBlock = some g → g ≠ r ∧ g ≠ gr := by
  obtain ⟨cs, h1, _⟩ := h.wh
  refine ⟨ty_ne h.obj h1 (by decide), fun g hg => ?_⟩
  obtain ⟨c3, k3⟩ := h.wt.blk hg
  exact ⟨ty_ne k3 h.obj (by decide), ty_ne k3 h1 (by decide)⟩
theorem RL.c0 {w : World} {r gr : Nat} {vw : Value} {A : Al} (h : RL w r gr vw A) : w.cell? ⟨r, 0, none⟩ = some (.slice (some ⟨gr, 0, none⟩) A.who.length A.who.length) := heap_cell h.obj rfl
theorem RL.c1 {w : World} {r gr : Nat} {vw : Value} {A : Al} (h : RL w r gr vw A) : w.cell? ⟨r, 1, none⟩ = some vw := heap_cell h.obj rfl
theorem RL.who {w : World} {r gr : Nat} {vw : Value} {A : Al} (h : RL w r gr vw A) {c : Nat} {x : Int} (hc : A.who[c]? = some x) : w.cell? ⟨gr, c, none⟩ = some (.int .i64 x) := by
  obtain ⟨u, hu, hp⟩ := h.wh.cell (List.getElem?_eq_some_iff.1 hc).1
  rw [hu, hp x hc]
/-- What a call leaves. -/
def RR (r gr : Nat) (vw : Value) (A' : Al) (w w' : World) : Prop := ∃ vw', RL w' r gr vw' A' ∧ (∀ g, g < w.heap.size → ¬ Rt r gr vw g → w'.heap[g]? = w.heap[g]?) ∧ Below 0 w w' ∧ ∀ g, vw'.ownBlock = some g → vw.ownBlock = some g ∨ w.heap.size ≤ g
theorem RL.same {w : World} {r gr : Nat} {vw : Value} {A : Al} (h : RL w r gr vw A) : RR r gr vw A w w := ⟨vw, h, fun _ _ _ => rfl, Below.refl _ _, fun _ h => .inl h⟩
theorem dr_put {w : World} {g c : Nat} {l : List Int} {x : Int} (h : DR w 3 g l.length (fun k u => ∀ x, l[k]? = some x → u = .int .i64 x)) (hc : c < l.length) : DR (w.setCell ⟨g, c, none⟩ (.int .i64 x)) 3 g (l.set c x).length (fun k u => ∀ y, (l.set c x)[k]? = some y → u = .int .i64 y) := by
  rw [List.length_set]
  refine h.set (fun k u hk hp y hy => ?_) (fun y hy => ?_)
  · rw [List.getElem?_set_ne (fun e => hk e.symm)] at hy
    exact hp y hy
  · rw [List.getElem?_set_self hc] at hy
    rw [Option.some.inj hy]
/-- A cell has another owner. -/
theorem RL.put {w : World} {r gr : Nat} {vw : Value} {A : Al} (h : RL w r gr vw A) {c : Nat} (hc : c < A.who.length) (x : Int) : RR r gr vw ⟨A.who.set c x, A.row⟩ w (w.setCell ⟨gr, c, none⟩ (.int .i64 x)) := by
  have ks : ∀ g, g ≠ gr → (w.setCell ⟨gr, c, none⟩ (.int .i64 x)).heap[g]? = w.heap[g]? := fun g hg => Below.heap_setCell _ _ _ _ hg
  have hne := h.ne
  refine ⟨vw, ⟨?_, dr_put h.wh hc, h.wt.kept (fun g hg => ks g (hne.2 g hg).2)⟩, fun g _ hn => ks g (fun e => hn (.inl (.inr e))), (Below.refl 0 w).setCell (p := ⟨gr, c, none⟩) (Nat.zero_le _) _, fun g hg => .inl hg⟩
  dsimp only
  rw [ks r hne.1, h.obj, List.length_set]
/-- Who waits is another row. -/
theorem RL.wait {w w1 : World} {r gr : Nat} {vw vw' : Value} {A : Al} {l : List (Int × Int)} (h : RL w r gr vw A) (hk : ∀ g, g < w.heap.size → vw.ownBlock ≠ some g → w1.heap[g]? = w.heap[g]?) (hb : Below 0 w w1) (hw : RWt w1 vw' l) (hn : ∀ g, vw'.ownBlock = some g → vw.ownBlock = some g ∨ w.heap.size ≤ g) : RR r gr vw ⟨A.who, l⟩ w (w1.setCell ⟨r, 1, none⟩ vw') := by
  have ks : ∀ g, g ≠ r → (w1.setCell ⟨r, 1, none⟩ vw').heap[g]? = w1.heap[g]? := fun g hg => Below.heap_setCell _ _ _ _ hg
  have hne := h.ne
  have lr := h.lt r (.inl (.inl rfl))
  have lg := h.lt gr (.inl (.inr rfl))
  have kr : w1.heap[r]? = w.heap[r]? := hk r lr (fun e => (hne.2 r e).1 rfl)
  have kg : w1.heap[gr]? = w.heap[gr]? := hk gr lg (fun e => (hne.2 gr e).2 rfl)
  refine ⟨vw', ⟨?_, h.wh.kept ((ks gr (fun e => hne.1 e.symm)).trans kg), hw.kept (fun g hg => ks g ?_)⟩, fun g hg hn => (ks g (fun e => hn (.inl (.inl e)))).trans (hk g hg (fun e => hn (.inr e))), hb.setCell (p := ⟨r, 1, none⟩) (Nat.zero_le _) _, hn⟩
  · rw [set_atC (kr.trans h.obj)]
    rfl
  · rcases hn g hg with h' | h'
    · exact (hne.2 g h').1
    · omega
theorem made_int (n : Nat) : ∀ u ∈ (madeCells (Value.int .i64 0).cells (n * 1)).toList, u = .int .i64 0 := by
  intro u hu
  unfold madeCells at hu
  rw [Array.toList_map] at hu
  obtain ⟨i, _, rfl⟩ := List.mem_map.1 hu
  show (#[Value.int .i64 0])[i % 1]! = _
  rw [Nat.mod_one]; rfl
def RNew (n : Nat) (e : Ending) (w w' : World) : Prop := ∃ r gr, e = .returned (.tuple #[.pointer (some ⟨r, 0, none⟩), .int .i64 0]) ∧ RL w' r gr (.slice none 0 0) (al0 n) ∧ Below w.heap.size w w' ∧ ∀ g, Rt r gr (.slice none 0 0) g → w.heap.size ≤ g
theorem rnew_bad (n : Int) (w : World) (h : ¬ (4 ≤ n ∧ n ≤ 4096)) : Calls Try.prog 8 #[.int .i64 n] w fun e w' => e = .returned (.tuple #[.pointer none, .int .i64 120]) ∧ w' = w := by
  by_cases h1 : n < 4
  · go_enter Try.func8, Try.ntmps8
    go_wp2
    all_goals
      go_ret2
      exact ⟨rfl, rfl⟩
  · have h2 : n > 4096 := by omega
    clear h
    go_enter Try.func8, Try.ntmps8
    go_wp2
    all_goals
      go_ret2
      exact ⟨rfl, rfl⟩
set_option maxRecDepth 100000 in
set_option maxHeartbeats 4000000 in
theorem rnew_any (n : Nat) (w : World) (h4 : 4 ≤ n) (h40 : n ≤ 4096) : Calls Try.prog 8 #[.int .i64 n] w fun e w' => RNew n e w w' := by
  obtain ⟨i0, hi0, hz0, hz1, hz2⟩ := info_parts infoI
  have k1 : ¬ (n : Int) < 4 := by omega
  have k2 : ¬ (n : Int) > 4096 := by omega
  go_enter Try.func8, Try.ntmps8
  go_wp2_with (at_make; refine stop_of ?_)
  unfold Hid
  refine wpList_make_full _ rfl _ _ 65 rfl w.heap.size 3 i0 (.int .i64 0) 1 Try.underlying65 hi0 hz0 hz1 .i64 .i64 _ _ n rfl rfl rfl rfl (by rw [hz2]; omega) (by unfold maxLen; omega) (Nat.le_refl _) ?_
  intro w1 hown hgr
  have hd1 := dr_made hown (made_int _)
  have hb1 : Below w.heap.size w w1 := grown_low hgr (fun g hg => by cases hg) (Nat.le_refl _)
  have HF : Hid (RL (w1.alloc (.cells #[.slice (some ⟨w.heap.size, 0, none⟩) n n, .slice none 0 0] 80)) w1.heap.size w.heap.size (.slice none 0 0) (al0 n) ∧ Below w.heap.size w (w1.alloc (.cells #[.slice (some ⟨w.heap.size, 0, none⟩) n n, .slice none 0 0] 80))) := by
    have e : (al0 n).who.length = n := by simp [al0]
    refine ⟨⟨?_, ?_, .inl ⟨rfl, rfl⟩⟩, hb1.alloc hb1.size _⟩
    · rw [e]; exact heap_alloc_new _ _
    · rw [e]
      refine (hd1.kept (Below.heap_alloc _ _ _ hd1.lt)).mono (fun k u _ hp x hx => ?_)
      rw [hp, List.eq_of_mem_replicate (List.mem_of_getElem? hx)]
  have hs1 := hb1.size
  clear hd1 hown hgr hb1 hi0 hz0 hz1 hz2
  go_wp2
  go_ret2
  exact ⟨w1.heap.size, w.heap.size, rfl, HF.out.1, HF.out.2, fun g hg => by
    rcases hg with (rfl | rfl) | hg
    · exact hs1
    · exact Nat.le_refl _
    · cases hg⟩
end Go.Proofs.Ytaenoenchbfeiaa
