/- A row is sorted. -/
import Derived.Test.YtdlnkdcgipaoeaaDoorHLDo
namespace Go.Proofs.YtdlnkdcgipaoeaaDoor
open Go.RowKit Go.Sort

def srt (l : List Int) : List Int := l.mergeSort fun x y => decide (x ≤ y)
theorem srt_len (l : List Int) : (srt l).length = l.length := List.length_mergeSort _
theorem sort_ri {s : Sl} {l : List Int} {w : World} (h : RI w s l) (hl : l.length ≤ 1000) : Calls Tryd.prog 73 #[.slice s.ra l.length s.cap] w fun e w' => e = .returned (.tuple #[]) ∧ RI w' s (srt l) ∧ (∀ g, g < w.heap.size → s.blk ≠ some g → w'.heap[g]? = w.heap[g]?) ∧ Below 0 w w' := by
  have h0 := h
  rcases h with ⟨rfl, rfl⟩ | ⟨g, off, cs, hs, h1, h2, h3, h4⟩
  · refine Calls.mono (Tryd.slices_Sort_int_none none 0 w) ?_
    rintro e w' ⟨rfl, rfl⟩
    exact ⟨rfl, .inl ⟨List.mergeSort_nil, rfl⟩, fun _ _ _ => rfl, Below.refl _ _⟩
  · have hblk : s.blk = some g := by rw [Sl.blk, hs]; rfl
    rw [hs]
    refine Calls.mono (Tryd.slices_Sort_int g off s.cap l w (fun j hj => ?_) (heap_lt h1) (by omega)) ?_
    · have hj' : j < l.length := by simpa using hj
      refine ⟨heap_cell h1 ?_, by simp [World.frozen?, h1]⟩
      rw [h4 j l[j] (List.getElem?_eq_getElem hj')]
      simp [hj']
    · rintro e w' ⟨rfl, n, os, rfl⟩
      have hg := heap_lt h1
      have hb : (grow (putRow (Value.int .i64) (Sort.ahead w n) g off (srt l).toArray) os).heap[g]? = some (.cells (putCells (Value.int .i64) off (srt l).toArray cs) 3 (0, 0)) := by
        rw [heap_grow_old _ _ (by simpa using hg)]
        simp [putRow, mapBlock, Sort.ahead, Array.getElem?_modify, h1, onCells]
      refine ⟨rfl, .inr ⟨g, off, _, hs, hb, by rw [srt_len]; exact h2, by simpa [putCells] using h3, fun k x hx => ?_⟩, fun k hk hne => ?_, ⟨rfl, rfl, rfl, by simp, fun k hk => absurd hk (by omega)⟩⟩
      · have hk := (List.getElem?_eq_some_iff.1 hx).1
        have hk2 := hk
        rw [srt_len] at hk2
        have e := (List.getElem?_eq_some_iff.1 hx).2
        have hc : off + k < cs.size := by omega
        simp [putCells, hc, hk, e]
      · rw [heap_grow_old _ _ (by simpa using hk)]
        have : g ≠ k := fun e => hne (by rw [← e]; exact hblk)
        simp [putRow, mapBlock, Sort.ahead, Array.getElem?_modify, this]
end Go.Proofs.YtdlnkdcgipaoeaaDoor
