/- How an Alloc lies in memory. -/
import Derived.Test.YtaenoenchbfeiaaHAMap
namespace Go.Proofs.Ytaenoenchbfeiaa
open Go.RowKit

structure AL (w : World) (a ga gm gf cf : Nat) (vr : Value) (n : Nat) (A : Al) : Prop where
  obj : w.heap[a]? = some (.cells #[.slice (some ⟨ga, 0, none⟩) A.who.length A.who.length, .slice (some ⟨gf, 0, none⟩) (frs 0 A.who).length cf, vr, .map (some gm)] 78 (0, 0))
  pl : DR w 109 ga A.who.length (fun k u => ∀ x, A.who[k]? = some x → u = .int .u8 (plc x))
  fr : w.ownsRow 0 3 1 (.slice (some ⟨gf, 0, none⟩) (frs 0 A.who).length cf) (frs 0 A.who).length ((frs 0 A.who).map (Value.int .i64))
  room : A.who.length ≤ cf
  rw : w.ownsRow 0 103 2 vr A.row.length (rowCells A.row)
  gm : GM w gm n (fun t => fnd t A.who)
/-- The blocks that an Alloc has. -/
def Ft (a ga gm gf : Nat) (vr : Value) (g : Nat) : Prop := (g = a ∨ g = ga ∨ g = gm ∨ g = gf) ∨ vr.ownBlock = some g
theorem ty_ne {w : World} {g h : Nat} {cs ds : Array Value} {t u : TypeId} (hg : w.heap[g]? = some (.cells cs t (0, 0))) (hh : w.heap[h]? = some (.cells ds u (0, 0))) (hn : t ≠ u) : g ≠ h := fun e => by
  subst e
  rw [hg] at hh
  cases hh
  exact hn rfl
theorem mp_ne {w : World} {g h : Nat} {cs : Array Value} {t : TypeId} {es : Array MapEntry} {c : Nat} (hg : w.heap[g]? = some (.cells cs t (0, 0))) (hh : w.heap[h]? = some (.map es c)) : g ≠ h := fun e => by
  subst e
  rw [hg] at hh
  cases hh
theorem own_blk {w : World} {base e size n g : Nat} {v : Value} {xs : List Value} (h : w.ownsRow base e size v n xs) (hg : v.ownBlock = some g) : ∃ cs, w.heap[g]? = some (.cells cs e (0, 0)) := by
  rcases h.2 with ⟨h', _⟩ | ⟨g', cap, cur, hv, _, hh, _⟩
  · rw [h'] at hg; cases hg
  · rw [hv] at hg
    cases hg
    exact ⟨cur, hh⟩
theorem AL.lt {w : World} {a ga gm gf cf n : Nat} {vr : Value} {A : Al} (h : AL w a ga gm gf cf vr n A) : ∀ g, Ft a ga gm gf vr g → g < w.heap.size := fun g hg => by
  rcases hg with (rfl | rfl | rfl | rfl) | hg
  · exact heap_lt h.obj
  · exact h.pl.lt
  · exact h.gm.lt
  · obtain ⟨cs, hc⟩ := own_blk h.fr rfl
    exact heap_lt hc
  · obtain ⟨cs, hc⟩ := own_blk h.rw hg
    exact heap_lt hc
theorem AL.kept {w w' : World} {a ga gm gf cf n : Nat} {vr : Value} {A : Al} (h : AL w a ga gm gf cf vr n A) (hk : ∀ g, Ft a ga gm gf vr g → w'.heap[g]? = w.heap[g]?) : AL w' a ga gm gf cf vr n A :=
  ⟨(hk a (.inl (.inl rfl))).trans h.obj, h.pl.kept (hk ga (.inl (.inr (.inl rfl)))), own_same h.fr (fun g hg => by cases hg; exact hk gf (.inl (.inr (.inr (.inr rfl))))), h.room, own_same h.rw (fun g hg => hk g (.inr hg)), h.gm.kept (hk gm (.inl (.inr (.inr (.inl rfl)))))⟩
/-- No two of them are one. -/
theorem AL.apart {w : World} {a ga gm gf cf n : Nat} {vr : Value} {A : Al} (h : AL w a ga gm gf cf vr n A) : (a ≠ ga ∧ a ≠ gm ∧ a ≠ gf ∧ ga ≠ gm ∧ ga ≠ gf ∧ gm ≠ gf) ∧ ∀ g, vr.ownBlock = some g → g ≠ a ∧ g ≠ ga ∧ g ≠ gm ∧ g ≠ gf := by
  obtain ⟨c1, h1, _⟩ := h.pl
  obtain ⟨es, ck, h2⟩ := h.gm.isMapObj
  obtain ⟨c3, h3⟩ := own_blk h.fr rfl
  refine ⟨⟨ty_ne h.obj h1 (by decide), mp_ne h.obj h2, ty_ne h.obj h3 (by decide), mp_ne h1 h2, ty_ne h1 h3 (by decide), fun e => mp_ne h3 h2 e.symm⟩, fun g hg => ?_⟩
  obtain ⟨c4, h4⟩ := own_blk h.rw hg
  exact ⟨ty_ne h4 h.obj (by decide), ty_ne h4 h1 (by decide), mp_ne h4 h2, ty_ne h4 h3 (by decide)⟩
/-- What a call leaves of an Alloc. -/
def AR (a ga gm gf cf : Nat) (vr : Value) (n : Nat) (A' : Al) (w w' : World) : Prop := ∃ vr', AL w' a ga gm gf cf vr' n A' ∧ (∀ g, g < w.heap.size → ¬ Ft a ga gm gf vr g → w'.heap[g]? = w.heap[g]?) ∧ Below 0 w w' ∧ ∀ g, vr'.ownBlock = some g → vr.ownBlock = some g ∨ w.heap.size ≤ g
theorem AL.same {w w' : World} {a ga gm gf cf n : Nat} {vr : Value} {A : Al} (h : AL w a ga gm gf cf vr n A) (hb : Below w.heap.size w w') : AR a ga gm gf cf vr n A w w' :=
  ⟨vr, h.kept (fun g hg => hb.block g (h.lt g hg)), fun g hg _ => hb.block g hg, hb.mono (Nat.zero_le _), fun _ hg => .inl hg⟩
theorem AR.trans {w w' w'' : World} {a ga gm gf cf n n' : Nat} {vr : Value} {A A' : Al} (h : AR a ga gm gf cf vr n A w w') (k : ∀ vr', AL w' a ga gm gf cf vr' n A → AR a ga gm gf cf vr' n' A' w' w'') : AR a ga gm gf cf vr n' A' w w'' := by
  obtain ⟨v1, h1, h2, h3, h4⟩ := h
  obtain ⟨v2, k1, k2, k3, k4⟩ := k v1 h1
  refine ⟨v2, k1, fun g hg hn => ?_, h3.trans k3, fun g hg => ?_⟩
  · rw [k2 g (Nat.lt_of_lt_of_le hg h3.size) (fun hf => ?_), h2 g hg hn]
    rcases hf with hf | hf
    · exact hn (.inl hf)
    · rcases h4 g hf with h' | h'
      · exact hn (.inr h')
      · omega
  · rcases k4 g hg with h' | h'
    · exact h4 g h'
    · exact .inr (Nat.le_trans h3.size h')
/-- Places of a row: one is turned. -/
theorem pl_set {w : World} {ga c : Nat} {l : List Int} {x : Int} (h : DR w 109 ga l.length (fun k u => ∀ x, l[k]? = some x → u = .int .u8 (plc x))) (hc : c < l.length) : DR (w.setCell ⟨ga, c, none⟩ (.int .u8 (plc x))) 109 ga (l.set c x).length (fun k u => ∀ y, (l.set c x)[k]? = some y → u = .int .u8 (plc y)) := by
  rw [List.length_set]
  refine h.set (fun k u hk hu y hy => ?_) (fun y hy => ?_)
  · rw [List.getElem?_set_ne (fun e => hk e.symm)] at hy
    exact hu y hy
  · rw [List.getElem?_set_self hc] at hy
    cases hy
    rfl
/-- All are free. -/
theorem frs_all (n : Nat) : ∀ k, frs k (List.replicate n 0) = (List.range n).map (fun j => ((k + j : Nat) : Int)) := by
  induction n with
  | zero => intro k; rfl
  | succ n ih =>
    intro k
    rw [List.replicate_succ, List.range_succ_eq_map]
    simp only [frs, if_pos, List.map_cons, List.map_map]
    rw [ih (k + 1)]
    have e : ∀ j ∈ List.range n, ((k + 1 + j : Nat) : Int) = ((fun j => ((k + j : Nat) : Int)) ∘ Nat.succ) j := fun j _ => by
      show ((k + 1 + j : Nat) : Int) = ((k + (j + 1) : Nat) : Int)
      omega
    rw [List.map_congr_left e]
    rfl
end Go.Proofs.Ytaenoenchbfeiaa
