/- The walk's memory, and what it asks of what is done with each cell. -/
import Derived.Test.YtdcmkifljcdmmaaGreatDoorHGChk
import Derived.OwnWalk
import Derived.Deep.AppendLies
namespace Go.Proofs.YtdcmkifljcdmmaaGreatDoor
open Go.RowKit

theorem own_same {w w' : World} {base e size n : Nat} {v : Value} {xs : List Value} (h : w.ownsRow base e size v n xs) (hk : ∀ g, v.ownBlock = some g → w'.heap[g]? = w.heap[g]?) : w'.ownsRow base e size v n xs := by
  refine ⟨h.1, ?_⟩
  rcases h.2 with h' | ⟨g, cap, cur, hv, hg, hh, r⟩
  · exact .inl h'
  · exact .inr ⟨g, cap, cur, hv, hg, (hk g (by rw [hv]; rfl)).trans hh, r⟩
theorem own_sl {w : World} {base e size n : Nat} {v : Value} {xs : List Value} (h : w.ownsRow base e size v n xs) : ∃ ra cap, v = .slice ra n cap := by
  rcases h.2 with ⟨h', h0⟩ | ⟨g, cap, cur, hv, _⟩
  · exact ⟨none, 0, by rw [h', h0]⟩
  · exact ⟨_, cap, hv⟩
theorem set_atC {W : World} {b j : Nat} {cs : Array Value} {t : TypeId} (h : W.heap[b]? = some (.cells cs t (0, 0))) (v : Value) : (W.setCell ⟨b, j, none⟩ v).heap[b]? = some (.cells (cs.setIfInBounds j v) t (0, 0)) := by
  have hlt := (Array.getElem?_eq_some_iff.1 h).1
  rw [Array.getElem?_eq_getElem hlt] at h
  have h2 := Option.some.inj h
  show (W.heap.modify b _)[b]? = _
  rw [Array.getElem?_modify]
  simp [h2, hlt]
/-- A row of a type in a block: what each cell holds. -/
def DR (W : World) (t g n : Nat) (P : Nat → Value → Prop) : Prop := ∃ cs, W.heap[g]? = some (.cells cs t (0, 0)) ∧ cs.size = n ∧ ∀ k u, cs[k]? = some u → P k u
theorem DR.set {W : World} {t g n j : Nat} {P P' : Nat → Value → Prop} {v : Value} (h : DR W t g n P) (hP : ∀ k u, k ≠ j → P k u → P' k u) (hv : P' j v) : DR (W.setCell ⟨g, j, none⟩ v) t g n P' := by
  obtain ⟨cs, h1, h2, h3⟩ := h
  refine ⟨_, set_atC h1 v, by simp [h2], fun k u hk => ?_⟩
  rw [Array.getElem?_setIfInBounds] at hk
  split at hk
  · rename_i hjk
    subst hjk
    split at hk
    · cases hk; exact hv
    · cases hk
  · rename_i hjk
    exact hP k u (fun e => hjk e.symm) (h3 k u hk)
theorem DR.cell {W : World} {t g n j : Nat} {P : Nat → Value → Prop} (h : DR W t g n P) (hj : j < n) : ∃ u, W.cell? ⟨g, j, none⟩ = some u ∧ P j u := by
  obtain ⟨cs, h1, h2, h3⟩ := h
  subst h2
  have := Array.getElem?_eq_getElem hj
  exact ⟨_, by simp only [World.cell?, h1]; simp, h3 j _ this⟩
theorem DR.fz {W : World} {t g n : Nat} {P : Nat → Value → Prop} (h : DR W t g n P) (j : Nat) : W.frozen? ⟨g, j, none⟩ = false := by
  obtain ⟨cs, h1, _⟩ := h
  simp [World.frozen?, h1]
theorem DR.lt {W : World} {t g n : Nat} {P : Nat → Value → Prop} (h : DR W t g n P) : g < W.heap.size := by
  obtain ⟨cs, h1, _⟩ := h
  exact heap_lt h1
theorem DR.kept {W W' : World} {t g n : Nat} {P : Nat → Value → Prop} (h : DR W t g n P) (hk : W'.heap[g]? = W.heap[g]?) : DR W' t g n P := by
  obtain ⟨cs, h1, h2⟩ := h
  exact ⟨cs, hk.trans h1, h2⟩
theorem DR.mono {W : World} {t g n : Nat} {P P' : Nat → Value → Prop} (h : DR W t g n P) (hP : ∀ k u, k < n → P k u → P' k u) : DR W t g n P' := by
  obtain ⟨cs, h1, h2, h3⟩ := h
  exact ⟨cs, h1, h2, fun k u hk => hP k u (by rw [← h2]; exact (Array.getElem?_eq_some_iff.1 hk).1) (h3 k u hk)⟩
theorem new_cell (W : World) (cs : Array Value) (t : TypeId) (j : Nat) (u : Value) (h : cs.toList[j]? = some u) : (W.alloc (.cells cs t)).cell? ⟨W.heap.size, j, none⟩ = some u := by
  have hn := heap_alloc_new W (.cells cs t)
  simp only [World.cell?, hn]
  simpa using h
theorem ad_add (b o j : Nat) : (⟨b, o, none⟩ : Addr).add j = ⟨b, o + j, none⟩ := by
  simp [Addr.add]
theorem infoI : (Tryz.prog.info? 3).map (fun i => (i.zero, i.size, i.bytes)) = some (some (.int .i64 0), 1, 8) := by kernel_rfl
theorem infoB : (Tryz.prog.info? 4).map (fun i => (i.zero, i.size, i.bytes)) = some (some (.bool false), 1, 1) := by kernel_rfl
theorem grown_low {w w' : World} {row : Option Nat} {B : Nat} (hg : w.grownBy w' row) (hB : ∀ g, row = some g → B ≤ g) (hs : B ≤ w.heap.size) : Below B w w' := (Below.refl B w).grown hg hs hB

theorem stop_of {P : Prop} (h : Hid P) : P := h
/-- Blocks that are left as they are. -/
def Fr (A : Nat → Prop) (w w' : World) : Prop := Below 0 w w' ∧ ∀ g, A g → g < w.heap.size → w'.heap[g]? = w.heap[g]?
theorem Fr.trans {A : Nat → Prop} {w w' w'' : World} (h : Fr A w w') (k : Fr A w' w'') : Fr A w w'' :=
  ⟨h.1.trans k.1, fun g hg hl => (k.2 g hg (Nat.lt_of_lt_of_le hl h.1.size)).trans (h.2 g hg hl)⟩
theorem Fr.refl (A : Nat → Prop) (w : World) : Fr A w w := ⟨Below.refl _ _, fun _ _ _ => rfl⟩
theorem Fr.of {A : Nat → Prop} {B : Nat} {w w' : World} (h : Below B w w') (hA : ∀ g, A g → g < w.heap.size → g < B) : Fr A w w' := ⟨h.mono (Nat.zero_le _), fun g hg hl => h.block g (hA g hg hl)⟩
theorem Fr.below {B : Nat} {w w' : World} (h : Fr (fun g => g < B) w w') (hs : B ≤ w.heap.size) : Below B w w' := ⟨h.1.os, h.1.tape, h.1.output, h.1.size, fun g hg => h.2 g hg (Nat.lt_of_lt_of_le hg hs)⟩
/-- What the walk asks of what is done with each cell that is met. -/
structure MeetOk (n fm vb : Nat) (I : St → World → (Nat → Prop) → Prop) : Prop where
  enter : ∀ (args : Array Value) (w : World), (callFunc fm args).run Tryz.prog w = .ok (.enter fm args) w
  call : ∀ (r : St) (c : Nat) (q : Int) (w : World) (A : Nat → Prop), I r w A → c < n → (-1 ≤ q ∧ q < n) → OkS n r → Calls Tryz.prog fm #[.int .i64 c, .int .i64 q, .pointer (some ⟨vb, 0, none⟩)] w fun e w' => e = .returned (.tuple #[]) ∧ I (r ++ [(c, q)]) w' A ∧ Fr A w w'
  stab : ∀ (r : St) (w w' : World) (A A' : Nat → Prop), I r w A → w.heap.size ≤ w'.heap.size → (∀ g, g < w.heap.size → ¬ A g → w'.heap[g]? = w.heap[g]?) → (∀ g, A' g → A g ∨ w.heap.size ≤ g) → (∀ g, A' g → g < w'.heap.size) → I r w' A'
/-- The walk's variables. -/
structure LS (w : World) (fb mr mb rb n fm vb : Nat) (rv : Value) (r : St) : Prop where
  f : w.heap[fb]? = some (.cells #[.func (.func fm) #[] #[.pointer (some ⟨vb, 0, none⟩)]] 111 (0, 0))
  m : w.heap[mb]? = some (.cells #[.slice (some ⟨mr, 0, none⟩) n n] 70 (0, 0))
  v : w.heap[rb]? = some (.cells #[rv] 59 (0, 0))
  d : DR w 4 (mr) n (fun k u => u = .bool (metB r k))
  o : w.ownsRow (rb + 1) 3 1 rv r.length (r.map (fun p => .int .i64 p.1))
  ok : OkS n r
  ord : fb < mr ∧ mr < mb ∧ mb < rb
def AW (A0 : Nat → Prop) (fb mr mb rb : Nat) (rv : Value) (g : Nat) : Prop := A0 g ∨ (g = fb ∨ g = mr ∨ g = mb ∨ g = rb) ∨ rv.ownBlock = some g
theorem LS.kept {w w' : World} {fb mr mb rb n fm vb : Nat} {A0 : Nat → Prop} {rv : Value} {r : St} (h : LS w fb mr mb rb n fm vb rv r) (hk : Fr (AW A0 fb mr mb rb rv) w w') : LS w' fb mr mb rb n fm vb rv r :=
  ⟨(hk.2 _ (.inr (.inl (by omega))) (heap_lt h.f)).trans h.f, (hk.2 _ (.inr (.inl (by omega))) (heap_lt h.m)).trans h.m, (hk.2 _ (.inr (.inl (by omega))) (heap_lt h.v)).trans h.v,
    h.d.kept (hk.2 _ (.inr (.inl (by omega))) h.d.lt), own_same h.o (fun g hg => hk.2 g (.inr (.inr hg)) (h.o.lt g hg).2), h.ok, h.ord⟩
theorem LS.low {w : World} {fb mr mb rb n fm vb : Nat} {A0 : Nat → Prop} {rv : Value} {r : St} (h : LS w fb mr mb rb n fm vb rv r) (hB : Hid (∀ g, A0 g → g < fb)) : ∀ g, AW A0 fb mr mb rb rv g → g < w.heap.size := fun g hg => by
  have h1 := heap_lt h.v
  obtain ⟨o1, o2, o3⟩ := h.ord
  rcases hg with hg | hg | hg
  · have := hB.out g hg; omega
  · omega
  · exact (h.o.lt g hg).2
end Go.Proofs.YtdcmkifljcdmmaaGreatDoor
