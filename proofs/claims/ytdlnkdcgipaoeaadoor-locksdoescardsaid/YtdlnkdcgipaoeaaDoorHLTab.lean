/- The table stays. -/
import Derived.Test.YtdlnkdcgipaoeaaDoorGC
namespace Go.Proofs.YtdlnkdcgipaoeaaDoor
open Go.RowKit

theorem Tab.lt {w : World} (h : Tab w) : 0 < w.heap.size := by
  have h0 := (h 0 (by omega)).1
  rcases Nat.lt_or_ge 0 w.heap.size with h' | h'
  · exact h'
  · simp [World.cell?, Array.getElem?_eq_none h'] at h0
theorem Tab.below {w w' : World} (h : Tab w) (hb : Below w.heap.size w w') : Tab w' := fun t ht =>
  ⟨(hb.cell (p := ⟨0, t * 2, none⟩) h.lt).trans (h t ht).1, (hb.cell (p := ⟨0, t * 2 + 1, none⟩) h.lt).trans (h t ht).2⟩
end Go.Proofs.YtdlnkdcgipaoeaaDoor
