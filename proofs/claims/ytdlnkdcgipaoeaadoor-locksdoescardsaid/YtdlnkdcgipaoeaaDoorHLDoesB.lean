/- LocksDoes: how it begins. -/
import Derived.Test.YtdlnkdcgipaoeaaDoorGN
import Derived.Test.YtdlnkdcgipaoeaaDoorHLStayW
namespace Go.Proofs.YtdlnkdcgipaoeaaDoor
open Go.RowKit

def pb (b : Nat) : Value := .pointer (some ⟨b, 0, none⟩)
structure L1 (w0 w : World) (k bx : Nat) (bo : Array Value) (P : List (Nat × Nat)) (FF : List (Nat → Prop)) (G : Nat → Prop) (xs ys : List Nat) (vb vr : Value) : Prop where
  dp : DP w0 w k 0 P FF G
  b : w.ownsRow 0 48 1 vb xs.length (xs.map pb)
  r : w.ownsRow 0 52 1 vr ys.length (ys.map pb)
  fb : ∀ g, vb.ownBlock = some g → w0.heap.size ≤ g
  fr : ∀ g, vr.ownBlock = some g → w0.heap.size ≤ g
  bx : w.heap[bx]? = some (.cells bo 25 (0, 0))
section
variable {w0 w w' : World} {k bx : Nat} {bo : Array Value} {P : List (Nat × Nat)} {FF : List (Nat → Prop)} {G : Nat → Prop} {xs ys : List Nat} {vb vr v' : Value}
theorem L1.quiet (h : L1 w0 w k bx bo P FF G xs ys vb vr) (hb : Below w.heap.size w w') : L1 w0 w' k bx bo P FF G xs ys vb vr :=
  ⟨h.dp.quiet hb, own_same h.b (fun g hg => hb.block g (h.b.lt g hg).2), own_same h.r (fun g hg => hb.block g (h.r.lt g hg).2), h.fb, h.fr, (hb.block bx (heap_lt h.bx)).trans h.bx⟩
theorem L1.nb (h : L1 w0 w k bx bo P FF G xs ys vb vr) {g : Nat} (hg : AllF FF G g) : vb.ownBlock ≠ some g ∧ vr.ownBlock ≠ some g := by
  obtain ⟨cs, t, h1, h2⟩ := h.dp.ty hg
  constructor
  · intro e
    obtain ⟨cs', h3⟩ := own_blk h.b e
    rw [h1] at h3
    cases h3
    exact h2 (.inl rfl)
  · intro e
    obtain ⟨cs', h3⟩ := own_blk h.r e
    rw [h1] at h3
    cases h3
    exact h2 (.inr rfl)
/-- The first row grows. -/
theorem L1.growB (h : L1 w0 w k bx bo P FF G xs ys vb vr) {o : Obj} {b : Nat} (hgr : (w.alloc o).grownBy w' vb.ownBlock) (hown : w'.ownsRow 0 48 1 v' (xs.length + 1) (xs.map pb ++ [pb b])) (hv : v'.ownBlock = vb.ownBlock ∨ v'.ownBlock = some (w.alloc o).heap.size) : L1 w0 w' k bx bo P FF G (xs ++ [b]) ys v' vr := by
  have hz : (w.alloc o).heap.size = w.heap.size + 1 := World.size_alloc ..
  have kk : ∀ g, g < w.heap.size → vb.ownBlock ≠ some g → w'.heap[g]? = w.heap[g]? := fun g hg hn => (hgr.block g (by omega) (fun e => hn e.symm)).trans (Below.heap_alloc _ _ _ hg)
  have hsz := h.dp.bl.size
  have hbl : Below w0.heap.size w0 w' := by
    have h1 := h.dp.bl.alloc hsz o
    refine ⟨hgr.os.trans h1.os, hgr.tape.trans h1.tape, hgr.output.trans h1.output, by have := hgr.size; omega, fun g hg => ?_⟩
    rw [kk g (by omega) (fun e => by have := h.fb g e; omega)]
    exact h.dp.bl.block g hg
  refine ⟨h.dp.kept (fun g hg => kk g (h.dp.lt hg) (h.nb hg).1) hbl, by simpa using hown, own_same h.r (fun g hg => kk g (h.r.lt g hg).2 (fun e => ?_)), fun g hg => ?_, h.fr, (kk bx (heap_lt h.bx) (fun e => ?_)).trans h.bx⟩
  · obtain ⟨c1, h1⟩ := own_blk h.r hg
    obtain ⟨c2, h2⟩ := own_blk h.b e
    exact ty_ne h1 h2 (by decide) rfl
  · rcases hv with e | e
    · exact h.fb g (by rw [← e]; exact hg)
    · rw [e] at hg
      have := Option.some.inj hg
      omega
  · obtain ⟨c2, h2⟩ := own_blk h.b e
    exact ty_ne h.bx h2 (by decide) rfl
theorem L1.growR (h : L1 w0 w k bx bo P FF G xs ys vb vr) {o : Obj} {r : Nat} (hgr : (w.alloc o).grownBy w' vr.ownBlock) (hown : w'.ownsRow 0 52 1 v' (ys.length + 1) (ys.map pb ++ [pb r])) (hv : v'.ownBlock = vr.ownBlock ∨ v'.ownBlock = some (w.alloc o).heap.size) : L1 w0 w' k bx bo P FF G xs (ys ++ [r]) vb v' := by
  have hz : (w.alloc o).heap.size = w.heap.size + 1 := World.size_alloc ..
  have kk : ∀ g, g < w.heap.size → vr.ownBlock ≠ some g → w'.heap[g]? = w.heap[g]? := fun g hg hn => (hgr.block g (by omega) (fun e => hn e.symm)).trans (Below.heap_alloc _ _ _ hg)
  have hsz := h.dp.bl.size
  have hbl : Below w0.heap.size w0 w' := by
    have h1 := h.dp.bl.alloc hsz o
    refine ⟨hgr.os.trans h1.os, hgr.tape.trans h1.tape, hgr.output.trans h1.output, by have := hgr.size; omega, fun g hg => ?_⟩
    rw [kk g (by omega) (fun e => by have := h.fr g e; omega)]
    exact h.dp.bl.block g hg
  refine ⟨h.dp.kept (fun g hg => kk g (h.dp.lt hg) (h.nb hg).2) hbl, own_same h.b (fun g hg => kk g (h.b.lt g hg).2 (fun e => ?_)), by simpa using hown, h.fb, fun g hg => ?_, (kk bx (heap_lt h.bx) (fun e => ?_)).trans h.bx⟩
  · obtain ⟨c1, h1⟩ := own_blk h.b hg
    obtain ⟨c2, h2⟩ := own_blk h.r e
    exact ty_ne h1 h2 (by decide) rfl
  · rcases hv with e | e
    · exact h.fr g (by rw [← e]; exact hg)
    · rw [e] at hg
      have := Option.some.inj hg
      omega
  · obtain ⟨c2, h2⟩ := own_blk h.r e
    exact ty_ne h.bx h2 (by decide) rfl
/-- A pair comes. -/
theorem L1.new {w1 w2 : World} {b r n m : Nat} {F1 F2 : Nat → Prop} (h : L1 w0 w k bx bo P FF G xs ys vb vr) (hB : BB w1 b (newB n m) F1) (hF1 : ∀ g, F1 g → w.heap.size ≤ g) (hb1 : Below w.heap.size w w1) (hD : DB w2 r (newD n m) F2) (hF2 : ∀ g, F2 g → w1.heap.size ≤ g) (hb2 : Below w1.heap.size w1 w2) : L1 w0 w2 k bx bo (P ++ [(b, r)]) (FF ++ [fun g => F1 g ∨ F2 g]) G xs ys vb vr := by
  have hb : Below w.heap.size w w2 := hb1.trans (hb2.mono hb1.size)
  have h2 := h.quiet hb
  have hs := h.dp.bl.size
  have hs1 := hb1.size
  refine ⟨h2.dp.add ⟨newB n m, newD n m, F1, F2, hB.below hb2, hD, fun g h1 h3 => ?_, sim_new n m, new_iv n m, rfl⟩ (fun g hg => ?_), h2.b, h2.r, h2.fb, h2.fr, h2.bx⟩
  · have := hB.lt h1
    have := hF2 g h3
    omega
  · have hge : w.heap.size ≤ g := by
      rcases hg with hg | hg
      · exact hF1 g hg
      · exact Nat.le_trans hs1 (hF2 g hg)
    exact ⟨Nat.le_trans hs hge, fun e => by have := h.dp.lt e; omega⟩
theorem L1.rw' (h : L1 w0 w k bx bo P FF G (P.map (·.1)) (P.map (·.2)) vb vr) : RW w vb vr P := by
  have hb := h.b
  have hr := h.r
  rw [List.length_map, List.map_map] at hb hr
  exact ⟨hb, hr⟩
end
theorem dp_nil {w0 w : World} (hb : Below w0.heap.size w0 w) : DP w0 (w.alloc bk0) w.heap.size 0 [] [] (fun g => g = w.heap.size) :=
  ⟨fun i p F h => by simp at h, rfl, bks_new w, fun i j F F' h => by simp at h, fun i F h => by simp at h, fun g hg => by
    rcases hg with ⟨F, hF, -⟩ | rfl
    · cases hF
    · exact hb.size, hb.alloc hb.size _⟩
theorem infoP1 : (Tryd.prog.info? 48).map (fun i => (i.zero, i.size, i.bytes)) = some (some (.pointer none), 1, 8) := by kernel_rfl
theorem infoP2 : (Tryd.prog.info? 52).map (fun i => (i.zero, i.size, i.bytes)) = some (some (.pointer none), 1, 8) := by kernel_rfl
end Go.Proofs.YtdlnkdcgipaoeaaDoor
