/- Where a holder stands among a view's. -/
import Derived.Test.YtigcpbndmiefhaaDoorHBVl
namespace Go.Proofs.YtigcpbndmiefhaaDoor
open Go.RowKit

theorem cellsH_app : ∀ (a b : List Cl) (i : Nat), cellsH (a ++ b) i = cellsH a i ++ cellsH b (i + a.length)
  | [], b, i => by simp [cellsH]
  | x :: a, b, i => by
    have := cellsH_app a b (i + 1)
    rw [List.length_cons, show i + (a.length + 1) = i + 1 + a.length by omega]
    generalize cellsH b (i + 1 + a.length) = q at this
    show (if x.k = 0 then cellsH (a ++ b) (i + 1) else ⟨0, i, [x.a, x.b]⟩ :: cellsH (a ++ b) (i + 1)) = (if x.k = 0 then cellsH a (i + 1) else ⟨0, i, [x.a, x.b]⟩ :: cellsH a (i + 1)) ++ q
    rw [this]
    split
    · rfl
    · rfl
theorem globsH_app : ∀ (a b : List Int) (i : Nat), globsH (a ++ b) i = globsH a i ++ globsH b (i + a.length)
  | [], b, i => by simp [globsH]
  | x :: a, b, i => by
    have := globsH_app a b (i + 1)
    rw [List.length_cons, show i + (a.length + 1) = i + 1 + a.length by omega]
    show ⟨1, i, [x]⟩ :: globsH (a ++ b) (i + 1) = ⟨1, i, [x]⟩ :: (globsH a (i + 1) ++ globsH b (i + 1 + a.length))
    rw [this]
theorem lanesH_app : ∀ (a b : List Ln) (i : Nat), lanesH (a ++ b) i = lanesH a i ++ lanesH b (i + a.length)
  | [], b, i => by simp [lanesH]
  | x :: a, b, i => by
    have := lanesH_app a b (i + 1)
    rw [List.length_cons, show i + (a.length + 1) = i + 1 + a.length by omega]
    show ⟨2, i, x.roots⟩ :: lanesH (a ++ b) (i + 1) = ⟨2, i, x.roots⟩ :: (lanesH a (i + 1) ++ lanesH b (i + 1 + a.length))
    rw [this]
theorem get_mid {α : Type} {l pre rest : List α} {x : α} (h : l = pre ++ x :: rest) : l[pre.length]? = some x := by
  subst h
  simp
/-- How many holders stand ahead of a cell, a global, a lane. -/
def nC (v : Vw) (j : Nat) : Nat := (cellsH (v.h.take j) 0).length
def nG (v : Vw) (j : Nat) : Nat := (cellsH v.h 0).length + (globsH (v.gl.take j) 0).length
def nL (v : Vw) (j : Nat) : Nat := (cellsH v.h 0).length + ((globsH v.gl 0).length + (lanesH (v.lanes.take j) 0).length)
theorem nC_free {v : Vw} {j : Nat} {x : Cl} (h : v.h[j]? = some x) (hk : x.k = 0) : nC v (j + 1) = nC v j := by
  unfold nC
  rw [cellsH_take _ _ _ _ h, if_pos hk, List.append_nil]
theorem nC_used {v : Vw} {j : Nat} {x : Cl} (h : v.h[j]? = some x) (hk : ¬ x.k = 0) : nC v (j + 1) = nC v j + 1 := by
  unfold nC
  rw [cellsH_take _ _ _ _ h, if_neg hk, List.length_append]
  rfl
theorem at_cell {v : Vw} {j : Nat} {x : Cl} (h : v.h[j]? = some x) (hk : ¬ x.k = 0) : (holdersM v)[nC v j]? = some ⟨0, j, [x.a, x.b]⟩ := by
  refine get_mid (rest := cellsH (v.h.drop (j + 1)) (0 + (v.h.take (j + 1)).length) ++ (globsH v.gl 0 ++ lanesH v.lanes 0)) ?_
  unfold holdersM
  have e : cellsH v.h 0 = cellsH (v.h.take (j + 1)) 0 ++ cellsH (v.h.drop (j + 1)) (0 + (v.h.take (j + 1)).length) := by rw [← cellsH_app, List.take_append_drop]
  rw [e, cellsH_take _ _ _ _ h, if_neg hk, Nat.zero_add]
  simp
theorem nG_zero (v : Vw) : nG v 0 = nC v v.h.length := by simp [nG, nC, globsH]
theorem nG_more {v : Vw} {j : Nat} {x : Int} (h : v.gl[j]? = some x) : nG v (j + 1) = nG v j + 1 := by
  unfold nG
  rw [globsH_take _ _ _ _ h, List.length_append]
  rfl
theorem at_glob {v : Vw} {j : Nat} {x : Int} (h : v.gl[j]? = some x) : (holdersM v)[nG v j]? = some ⟨1, j, [x]⟩ := by
  unfold nG
  rw [← List.length_append]
  refine get_mid (rest := globsH (v.gl.drop (j + 1)) (0 + (v.gl.take (j + 1)).length) ++ lanesH v.lanes 0) ?_
  unfold holdersM
  have e : globsH v.gl 0 = globsH (v.gl.take (j + 1)) 0 ++ globsH (v.gl.drop (j + 1)) (0 + (v.gl.take (j + 1)).length) := by rw [← globsH_app, List.take_append_drop]
  rw [e, globsH_take _ _ _ _ h, Nat.zero_add]
  simp
theorem nL_zero (v : Vw) : nL v 0 = nG v v.gl.length := by simp [nL, nG, lanesH]
theorem nL_more {v : Vw} {j : Nat} {x : Ln} (h : v.lanes[j]? = some x) : nL v (j + 1) = nL v j + 1 := by
  unfold nL
  rw [lanesH_take _ _ _ _ h, List.length_append]
  rfl
theorem nL_all (v : Vw) : nL v v.lanes.length = (holdersM v).length := by simp [nL, holdersM]
theorem at_lane {v : Vw} {j : Nat} {x : Ln} (h : v.lanes[j]? = some x) : (holdersM v)[nL v j]? = some ⟨2, j, x.roots⟩ := by
  unfold nL
  rw [← List.length_append, ← List.length_append]
  refine get_mid (rest := lanesH (v.lanes.drop (j + 1)) (0 + (v.lanes.take (j + 1)).length)) ?_
  unfold holdersM
  have e : lanesH v.lanes 0 = lanesH (v.lanes.take (j + 1)) 0 ++ lanesH (v.lanes.drop (j + 1)) (0 + (v.lanes.take (j + 1)).length) := by rw [← lanesH_app, List.take_append_drop]
  rw [e, lanesH_take _ _ _ _ h, Nat.zero_add]
  simp
/-- A new row of one word, of two. -/
theorem wrn_two (w : World) (a b : Int) (t : TypeId) (ha : Rng a) (hb : Rng b) : WR (w.alloc (.cells #[.int .u64 a, .int .u64 b] t)) (some ⟨w.heap.size, 0, none⟩) [a, b] := by
  refine ⟨w.heap.size, 0, .inr rfl, fun j x hx => ?_⟩
  have hs : w.heap.size < (w.alloc (.cells #[.int .u64 a, .int .u64 b] t)).heap.size := by rw [World.size_alloc]; omega
  match j, hx with
  | 0, hx =>
    have : a = x := by simpa using hx
    subst this
    exact ⟨hs, by unfold World.cell?; simp only [World.alloc_heap_new]; rfl, ha⟩
  | 1, hx =>
    have : b = x := by simpa using hx
    subst this
    exact ⟨hs, by unfold World.cell?; simp only [World.alloc_heap_new]; rfl, hb⟩
  | j + 2, hx => simp at hx
theorem wrn_one (w : World) (a : Int) (t : TypeId) (ha : Rng a) : WR (w.alloc (.cells #[.int .u64 a] t)) (some ⟨w.heap.size, 0, none⟩) [a] := by
  refine ⟨w.heap.size, 0, .inr rfl, fun j x hx => ?_⟩
  have hs : w.heap.size < (w.alloc (.cells #[.int .u64 a] t)).heap.size := by rw [World.size_alloc]; omega
  match j, hx with
  | 0, hx =>
    have : a = x := by simpa using hx
    subst this
    exact ⟨hs, by unfold World.cell?; simp only [World.alloc_heap_new]; rfl, ha⟩
  | j + 1, hx => simp at hx
end Go.Proofs.YtigcpbndmiefhaaDoor
