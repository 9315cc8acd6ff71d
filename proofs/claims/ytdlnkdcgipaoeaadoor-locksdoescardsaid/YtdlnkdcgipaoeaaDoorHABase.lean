/- What lies in memory: blocks, rows of a slice that is owned. -/
import Derived.Test.YtdlnkdcgipaoeaaDoorProg
import Derived.Below
import Derived.Deep.QuietTactic
import Derived.WalkKit
import Derived.WalkSpells
import Derived.WalkLawsBesides
import Derived.OwnWalk
import Derived.Deep.AppendLies
import Derived.Deep.RegionHeld3
import Derived.Lib.SliceRun
import Derived.Laws.IdiomCopy
import Derived.Maps.AppendAt
import Derived.Deep.Cut
import Derived.BigQuiet
namespace Go.Proofs.YtdlnkdcgipaoeaaDoor
open Go.RowKit

theorem ret_bool {a b : Bool} (h : a = b) : Ending.returned (.bool a) = .returned (.bool b) := by rw [h]
theorem heap_lt {w : World} {b : Nat} {o : Obj} (h : w.heap[b]? = some o) : b < w.heap.size := (Array.getElem?_eq_some_iff.1 h).1
theorem heap_cell {w : World} {b j : Nat} {cs : Array Value} {t : TypeId} {v : Value} (h : w.heap[b]? = some (.cells cs t (0, 0))) (hv : cs[j]? = some v) : w.cell? ⟨b, j, none⟩ = some v := by
  simp [World.cell?, h, hv]
theorem own_same {w w' : World} {base e size n : Nat} {v : Value} {xs : List Value} (h : w.ownsRow base e size v n xs) (hk : ∀ g, v.ownBlock = some g → w'.heap[g]? = w.heap[g]?) : w'.ownsRow base e size v n xs := by
  refine ⟨h.1, ?_⟩
  rcases h.2 with h' | ⟨g, cap, cur, hv, hg, hh, r⟩
  · exact .inl h'
  · exact .inr ⟨g, cap, cur, hv, hg, (hk g (by rw [hv]; rfl)).trans hh, r⟩
theorem own_sl {w : World} {base e size n : Nat} {v : Value} {xs : List Value} (h : w.ownsRow base e size v n xs) : ∃ ra cap, v = .slice ra n cap := by
  rcases h.2 with ⟨h', h0⟩ | ⟨g, cap, cur, hv, _⟩
  · exact ⟨none, 0, by rw [h', h0]⟩
  · exact ⟨_, cap, hv⟩
theorem set_atC {W : World} {b j : Nat} {cs : Array Value} {t : TypeId} (h : W.heap[b]? = some (.cells cs t (0, 0))) (v : Value) : (W.setCell ⟨b, j, none⟩ v).heap[b]? = some (.cells (cs.setIfInBounds j v) t (0, 0)) := by
  have hlt := (Array.getElem?_eq_some_iff.1 h).1
  rw [Array.getElem?_eq_getElem hlt] at h
  have h2 := Option.some.inj h
  show (W.heap.modify b _)[b]? = _
  rw [Array.getElem?_modify]
  simp [h2, hlt]
/-- A row of a type in a block: what each cell holds. -/
def DR (W : World) (t g n : Nat) (P : Nat → Value → Prop) : Prop := ∃ cs, W.heap[g]? = some (.cells cs t (0, 0)) ∧ cs.size = n ∧ ∀ k u, cs[k]? = some u → P k u
theorem DR.set {W : World} {t g n j : Nat} {P P' : Nat → Value → Prop} {v : Value} (h : DR W t g n P) (hP : ∀ k u, k ≠ j → P k u → P' k u) (hv : P' j v) : DR (W.setCell ⟨g, j, none⟩ v) t g n P' := by
  obtain ⟨cs, h1, h2, h3⟩ := h
  refine ⟨_, set_atC h1 v, by simp [h2], fun k u hk => ?_⟩
  rw [Array.getElem?_setIfInBounds] at hk
  split at hk
  · rename_i hjk
    subst hjk
    split at hk
    · cases hk; exact hv
    · cases hk
  · rename_i hjk
    exact hP k u (fun e => hjk e.symm) (h3 k u hk)
theorem DR.cell {W : World} {t g n j : Nat} {P : Nat → Value → Prop} (h : DR W t g n P) (hj : j < n) : ∃ u, W.cell? ⟨g, j, none⟩ = some u ∧ P j u := by
  obtain ⟨cs, h1, h2, h3⟩ := h
  subst h2
  have := Array.getElem?_eq_getElem hj
  exact ⟨_, by simp only [World.cell?, h1]; simp, h3 j _ this⟩
theorem DR.fz {W : World} {t g n : Nat} {P : Nat → Value → Prop} (h : DR W t g n P) (j : Nat) : W.frozen? ⟨g, j, none⟩ = false := by
  obtain ⟨cs, h1, _⟩ := h
  simp [World.frozen?, h1]
theorem DR.lt {W : World} {t g n : Nat} {P : Nat → Value → Prop} (h : DR W t g n P) : g < W.heap.size := by
  obtain ⟨cs, h1, _⟩ := h
  exact heap_lt h1
theorem DR.kept {W W' : World} {t g n : Nat} {P : Nat → Value → Prop} (h : DR W t g n P) (hk : W'.heap[g]? = W.heap[g]?) : DR W' t g n P := by
  obtain ⟨cs, h1, h2⟩ := h
  exact ⟨cs, hk.trans h1, h2⟩
theorem DR.mono {W : World} {t g n : Nat} {P P' : Nat → Value → Prop} (h : DR W t g n P) (hP : ∀ k u, k < n → P k u → P' k u) : DR W t g n P' := by
  obtain ⟨cs, h1, h2, h3⟩ := h
  exact ⟨cs, h1, h2, fun k u hk => hP k u (by rw [← h2]; exact (Array.getElem?_eq_some_iff.1 hk).1) (h3 k u hk)⟩
theorem new_cell (W : World) (cs : Array Value) (t : TypeId) (j : Nat) (u : Value) (h : cs.toList[j]? = some u) : (W.alloc (.cells cs t)).cell? ⟨W.heap.size, j, none⟩ = some u := by
  have hn := heap_alloc_new W (.cells cs t)
  simp only [World.cell?, hn]
  simpa using h
theorem ad_add (b o j : Nat) : (⟨b, o, none⟩ : Addr).add j = ⟨b, o + j, none⟩ := by
  simp [Addr.add]
theorem infoI : (Tryd.prog.info? 3).map (fun i => (i.zero, i.size, i.bytes)) = some (some (.int .i64 0), 1, 8) := by kernel_rfl
theorem grown_low {w w' : World} {row : Option Nat} {B : Nat} (hg : w.grownBy w' row) (hB : ∀ g, row = some g → B ≤ g) (hs : B ≤ w.heap.size) : Below B w w' := (Below.refl B w).grown hg hs hB

theorem stop_of {P : Prop} (h : Hid P) : P := h
/-- Blocks that are left as they are. -/
def Fr (A : Nat → Prop) (w w' : World) : Prop := Below 0 w w' ∧ ∀ g, A g → g < w.heap.size → w'.heap[g]? = w.heap[g]?
theorem Fr.trans {A : Nat → Prop} {w w' w'' : World} (h : Fr A w w') (k : Fr A w' w'') : Fr A w w'' :=
  ⟨h.1.trans k.1, fun g hg hl => (k.2 g hg (Nat.lt_of_lt_of_le hl h.1.size)).trans (h.2 g hg hl)⟩
theorem Fr.refl (A : Nat → Prop) (w : World) : Fr A w w := ⟨Below.refl _ _, fun _ _ _ => rfl⟩
theorem Fr.of {A : Nat → Prop} {B : Nat} {w w' : World} (h : Below B w w') (hA : ∀ g, A g → g < w.heap.size → g < B) : Fr A w w' := ⟨h.mono (Nat.zero_le _), fun g hg hl => h.block g (hA g hg hl)⟩
theorem Fr.below {B : Nat} {w w' : World} (h : Fr (fun g => g < B) w w') (hs : B ≤ w.heap.size) : Below B w w' := ⟨h.1.os, h.1.tape, h.1.output, h.1.size, fun g hg => h.2 g hg (Nat.lt_of_lt_of_le hg hs)⟩
/-- What the walk asks of what is done with each cell that is met. -/
theorem infoW : (Tryd.prog.info? 165).map (fun i => (i.zero, i.size, i.bytes)) = some (some (.agg #[.int .i64 0, .int .i64 0]), 2, 16) := by kernel_rfl
/-- What many cells that are set leave of a block. -/
theorem setCells_at {t g : Nat} : ∀ (vs : List Value) (o : Nat) (W : World) (cs : Array Value), W.heap[g]? = some (.cells cs t (0, 0)) →
    ∃ cs', (W.setCells g o vs).heap[g]? = some (.cells cs' t (0, 0)) ∧ cs'.size = cs.size ∧ ∀ k, k < cs.size → cs'[k]? = if o ≤ k ∧ k < o + vs.length then vs[k - o]? else cs[k]?
  | [], o, W, cs, h => ⟨cs, h, rfl, fun k _ => by rw [if_neg (by simp)]⟩
  | v :: r, o, W, cs, h => by
    obtain ⟨cs', h1, h2, h3⟩ := setCells_at r (o + 1) (W.setCell ⟨g, o, none⟩ v) _ (set_atC h v)
    refine ⟨cs', h1, h2.trans (by simp), fun k hk => ?_⟩
    rw [h3 k (by simpa using hk)]
    by_cases e : k = o
    · subst e
      rw [if_neg (by omega), if_pos (by simp)]
      simp [hk]
    · rw [Array.getElem?_setIfInBounds_ne (fun e' => e e'.symm)]
      by_cases e2 : o ≤ k ∧ k < o + (v :: r).length
      · rw [if_pos e2, if_pos (by simp at e2; omega), show k - o = (k - (o + 1)) + 1 by omega, List.getElem?_cons_succ]
      · rw [if_neg e2, if_neg (by simp at e2; omega)]
theorem setCells_far {g : Nat} : ∀ (vs : List Value) (o : Nat) (W : World) (k : Nat), k ≠ g → (W.setCells g o vs).heap[k]? = W.heap[k]?
  | [], _, _, _, _ => rfl
  | _ :: r, o, _, k, h => (setCells_far r (o + 1) _ k h).trans (Below.heap_setCell _ _ _ _ h)
theorem setCells_size {g : Nat} : ∀ (vs : List Value) (o : Nat) (W : World), (W.setCells g o vs).heap.size = W.heap.size
  | [], _, _ => rfl
  | _ :: r, o, _ => (setCells_size r (o + 1) _).trans (World.size_setCell ..)
theorem setCells_below {g : Nat} : ∀ (vs : List Value) (o : Nat) (W0 W : World), Below 0 W0 W → Below 0 W0 (W.setCells g o vs)
  | [], _, _, _, h => h
  | v :: r, o, W0, _, h => setCells_below r (o + 1) W0 _ (h.setCell (p := ⟨g, o, none⟩) (Nat.zero_le _) v)
/-- A row that is owned, cell by cell. -/
theorem own_out {w : World} {base e size n cap g : Nat} {xs : List Value} (h : w.ownsRow base e size (.slice (some ⟨g, 0, none⟩) n cap) n xs) :
    ∃ cs, w.heap[g]? = some (.cells cs e (0, 0)) ∧ cs.size = cap * size ∧ n ≤ cap ∧ cap ≤ maxLen ∧ base ≤ g ∧ xs.length = n * size ∧ ∀ (k : Nat) (u : Value), xs[k]? = some u → cs[k]? = some u := by
  rcases h.2 with ⟨h', _⟩ | ⟨g', cap', cur, hv, hb, hh, hn, hm, hs, ht⟩
  · cases h'
  · cases hv
    refine ⟨cur, hh, hs, hn, hm, hb, h.1, fun k u hk => ?_⟩
    have hl := (List.getElem?_eq_some_iff.1 hk).1
    rw [← ht, List.getElem?_take] at hk
    split at hk
    · simpa using hk
    · cases hk
theorem own_of {w : World} {base e size n cap g : Nat} {cs : Array Value} {xs : List Value} (hh : w.heap[g]? = some (.cells cs e (0, 0))) (hs : cs.size = cap * size) (hn : n ≤ cap) (hm : cap ≤ maxLen) (hb : base ≤ g) (hx : xs.length = n * size)
    (hc : ∀ (k : Nat) (u : Value), xs[k]? = some u → cs[k]? = some u) : w.ownsRow base e size (.slice (some ⟨g, 0, none⟩) n cap) n xs := by
  refine ⟨hx, .inr ⟨g, cap, cs, rfl, hb, hh, hn, hm, hs, ?_⟩⟩
  have hle : n * size ≤ cs.size := by rw [hs]; exact Nat.mul_le_mul_right _ hn
  refine List.ext_getElem? (fun k => ?_)
  rw [List.getElem?_take]
  split
  · rename_i hk
    have hk' : k < xs.length := by omega
    rw [List.getElem?_eq_getElem hk', Array.getElem?_toList]
    exact hc k _ (List.getElem?_eq_getElem hk')
  · rw [List.getElem?_eq_none (by omega)]
theorem own_cell {w : World} {base e size n cap g : Nat} {xs : List Value} (h : w.ownsRow base e size (.slice (some ⟨g, 0, none⟩) n cap) n xs) {k : Nat} {u : Value} (hk : xs[k]? = some u) : w.cell? ⟨g, k, none⟩ = some u := by
  obtain ⟨cs, h1, _, _, _, _, _, h2⟩ := own_out h
  exact heap_cell h1 (h2 k u hk)
end Go.Proofs.YtdlnkdcgipaoeaaDoor
