/- What the calls do, as mathematics. -/
import Derived.Test.YtdlnkdcgipaoeaaDoorHLAsk3
namespace Go.Proofs.YtdlnkdcgipaoeaaDoor
open Go.RowKit

def awB (B : Bk) (x : Int) : Int := awM B.t B.l x
def wtB (B : Bk) (x : Int) : Bool := decide (awB B x ≠ 0)
def goB (B : Bk) (x : Int) : Int := if isB B.t.length x = true then (match B.t[(x - 1).toNat]? with
  | some t => if t.en || wtB B x then 192 else 0
  | none => 190) else 190
def startM (B : Bk) : (Int × Int) × Bk := if B.t.length = 8 then ((0, 194), B) else (((B.t.length : Int) + 1, 0), { B with t := B.t ++ [⟨[], false, 0, 0⟩] })
def joinM (B : Bk) (t o : Int) : (Int × Bool × Int) × Bk :=
  if isB B.t.length o = false then ((0, false, 190), B) else if goB B t ≠ 0 then ((0, false, goB B t), B) else if t = o then ((0, false, 193), B) else
  match B.t[(o - 1).toNat]? with
  | some x => if x.en then ((x.wd, true, x.er), B) else ((0, false, 0), { B with t := B.t.set (o - 1).toNat { x with row := x.row ++ [t] } })
  | none => ((0, false, 190), B)
def lockM (B : Bk) (t k : Int) : (Bool × Int) × Bk :=
  if isL B.l.length k = false then ((false, 190), B) else if goB B t ≠ 0 then ((false, goB B t), B) else
  match B.l[k.toNat]? with
  | some x => if x.ho = t then ((false, 191), B) else if x.ho = 0 then ((true, 0), { B with l := B.l.set k.toNat { x with ho := t } }) else ((false, 0), { B with l := B.l.set k.toNat { x with row := x.row ++ [t] } })
  | none => ((false, 190), B)
def unlockM (B : Bk) (t k : Int) : (Int × Int) × Bk :=
  if isL B.l.length k = false then ((0, 190), B) else if goB B t ≠ 0 then ((0, goB B t), B) else
  match B.l[k.toNat]? with
  | some x => if x.ho ≠ t then ((0, 192), B) else ((x.row.headD 0, 0), { B with l := B.l.set k.toNat ⟨x.row.tail, x.row.headD 0⟩ })
  | none => ((0, 190), B)
def setM (B : Bk) (i : Int) (y : Int) : (Int × Int) × Bk := if isL B.g.length i = true then (((B.g[i.toNat]?).getD 0, 0), { B with g := B.g.set i.toNat y }) else ((0, 1), B)
theorem goB_is (T : List (Sl × Th)) (L : List (Sl × Lk)) (G : List Int) (x : Int) : goB ⟨T.map (·.2), L.map (·.2), G⟩ x = goX T L x := by
  simp only [goB, goX, List.length_map, List.getElem?_map]
  cases T[(x - 1).toNat]? <;> rfl
theorem shT_of {T : List (Sl × Th)} {L : List (Sl × Lk)} {G : List Int} (h : Sh ⟨T.map (·.2), L.map (·.2), G⟩) : ShT T L := fun p hp => by
  simp only [rws, List.mem_append, List.mem_map] at hp
  rcases hp with ⟨x, hx, rfl⟩ | ⟨x, hx, rfl⟩
  · have := (h.1 x.2 (List.mem_map.2 ⟨x, hx, rfl⟩)).1
    show x.2.row.length ≤ 1000
    omega
  · have := (h.2 x.2 (List.mem_map.2 ⟨x, hx, rfl⟩)).1
    show x.2.row.length ≤ 1000
    omega
/-- A nil row comes between. -/
theorem RR.ins {w : World} {A C : List (Sl × List Int)} (h : RR w (A ++ C)) : RR w (A ++ (⟨none, 0⟩, []) :: C) := by
  have key : ∀ i p, (A ++ (⟨none, 0⟩, []) :: C)[i]? = some p → p = (⟨none, 0⟩, []) ∨ ∃ i0, (A ++ C)[i0]? = some p ∧ i = (if i0 < A.length then i0 else i0 + 1) := fun i p hp => by
    by_cases h1 : i < A.length
    · rw [List.getElem?_append_left h1] at hp
      exact .inr ⟨i, by rw [List.getElem?_append_left h1]; exact hp, by rw [if_pos h1]⟩
    · rw [List.getElem?_append_right (by omega)] at hp
      cases hk : i - A.length with
      | zero => rw [hk] at hp; cases hp; exact .inl rfl
      | succ k =>
        rw [hk, List.getElem?_cons_succ] at hp
        refine .inr ⟨A.length + k, ?_, ?_⟩
        · rw [List.getElem?_append_right (by omega), show A.length + k - A.length = k by omega]
          exact hp
        · rw [if_neg (by omega)]
          omega
  refine ⟨fun i p hp => ?_, fun i j p q g hi hj hp hq => ?_⟩
  · rcases key i p hp with rfl | ⟨i0, h0, _⟩
    · exact .inl ⟨rfl, rfl⟩
    · exact h.r i0 p h0
  · rcases key i p hi with rfl | ⟨i0, h0, e0⟩
    · cases hp
    · rcases key j q hj with rfl | ⟨j0, k0, e1⟩
      · cases hq
      · rw [e0, e1, h.inj i0 j0 p q g h0 k0 hp hq]
section
variable {w w1 : World} {b : Nat} {pt pl pg : Sl} {T : List (Sl × Th)} {L : List (Sl × Lk)} {G : List Int}
theorem rws_add (T : List (Sl × Th)) (L : List (Sl × Lk)) : rws (T ++ [(⟨none, 0⟩, ⟨[], false, 0, 0⟩)]) L = T.map (fun x => (x.1, x.2.row)) ++ (⟨none, 0⟩, []) :: L.map (fun x => (x.1, x.2.row)) := by
  simp [rws]
/-- A thread comes. -/
theorem BX.addT (h : BX w b pt pl pg T L G) {o : Obj} {g cap : Nat} (hn : T.length < 8) (hgr : (w.alloc o).grownBy w1 pt.blk) (hown : w1.ownsRow 0 124 4 (.slice (some ⟨g, 0, none⟩) (T.length + 1) cap) (T.length + 1) (T.flatMap tc ++ [.slice none 0 0, .bool false, .int .u64 0, .int .i64 0])) (hg : pt.blk = some g ∨ g = (w.alloc o).heap.size) :
    BX (w1.setCell ⟨b, 0, none⟩ (.slice (some ⟨g, 0, none⟩) (T.length + 1) cap)) b ⟨some ⟨g, 0, none⟩, cap⟩ pl pg (T ++ [(⟨none, 0⟩, ⟨[], false, 0, 0⟩)]) L G ∧ Chg (Ft b pt pl pg T L) (Ft b ⟨some ⟨g, 0, none⟩, cap⟩ pl pg (T ++ [(⟨none, 0⟩, ⟨[], false, 0, 0⟩)]) L) w (w1.setCell ⟨b, 0, none⟩ (.slice (some ⟨g, 0, none⟩) (T.length + 1) cap)) := by
  have hz : (w.alloc o).heap.size = w.heap.size + 1 := World.size_alloc ..
  have hk : ∀ k, k < w.heap.size → pt.blk ≠ some k → w1.heap[k]? = w.heap[k]? := fun k hk hne => (hgr.block k (by omega) (fun e => hne e.symm)).trans (Below.heap_alloc _ _ _ hk)
  have hs : ∀ k, k ≠ b → (w1.setCell ⟨b, 0, none⟩ (.slice (some ⟨g, 0, none⟩) (T.length + 1) cap)).heap[k]? = w1.heap[k]? := fun k hk => Below.heap_setCell _ _ _ _ hk
  have tne : ∀ k cs t, w.heap[k]? = some (.cells cs t (0, 0)) → t ≠ 124 → pt.blk ≠ some k := fun k cs t hk hn e => by
    obtain ⟨c2, h2⟩ := h.tb e
    rw [hk] at h2
    cases h2
    exact hn rfl
  have bne : ∀ k cs t, w.heap[k]? = some (.cells cs t (0, 0)) → t ≠ 96 → k ≠ b := fun k cs t hk hn e => ty_ne hk h.obj hn e
  have tot : ∀ (k : Nat) (cs : Array Value) (t : TypeId), w.heap[k]? = some (.cells cs t (0, 0)) → t ≠ 96 → t ≠ 124 → (w1.setCell ⟨b, 0, none⟩ (.slice (some ⟨g, 0, none⟩) (T.length + 1) cap)).heap[k]? = w.heap[k]? := fun k cs t hkc h1 h2 => (hs k (bne k cs t hkc h1)).trans (hk k (heap_lt hkc) (tne k cs t hkc h2))
  have hob := (hk b (heap_lt h.obj) (tne b _ _ h.obj (by decide))).trans h.obj
  have hbl : Below 0 w w1 := ((Below.refl 0 w).alloc (Nat.zero_le _) _).trans (grown_low hgr (fun _ _ => Nat.zero_le _) (Nat.zero_le _))
  have hgb : g ≠ b := fun e => by
    obtain ⟨cs, h1, _⟩ := own_out hown
    rw [e, hob] at h1
    cases h1
  have e1 : (T ++ [((⟨none, 0⟩ : Sl), (⟨[], false, 0, 0⟩ : Th))]).length = T.length + 1 := by simp
  refine ⟨⟨?_, ?_, ?_, ?_, ?_, by rw [e1]; omega, h.ln, h.gn⟩, fun k h1 h2 => ?_, hbl.setCell (p := ⟨b, 0, none⟩) (Nat.zero_le _) _, fun k hk => ?_⟩
  · rw [e1]
    exact set_atC hob _
  · rw [e1, List.flatMap_append]
    refine own_same hown (fun k hk => hs k (fun e => ?_))
    cases hk
    exact hgb e
  · refine own_same h.l (fun k hk' => ?_)
    obtain ⟨c2, h2⟩ := own_blk h.l hk'
    exact tot k _ _ h2 (by decide) (by decide)
  · refine own_same h.g (fun k hk' => ?_)
    obtain ⟨c2, h2⟩ := own_blk h.g hk'
    exact tot k _ _ h2 (by decide) (by decide)
  · rw [rws_add]
    refine RR.ins (RR.kept h.r (fun k hr => ?_))
    obtain ⟨c2, h2⟩ := h.rb hr
    exact tot k _ _ h2 (by decide) (by decide)
  · exact (hs k (fun e => h2 (.inl (.inl e)))).trans (hk k h1 (fun e => h2 (.inl (.inr (.inl e)))))
  · rcases hk with (hk | hk | hk | hk) | ⟨p, hp, hk⟩
    · exact .inl (.inl (.inl hk))
    · have : g = k := Option.some.inj hk
      rcases hg with hg | hg
      · exact .inl (.inl (.inr (.inl (by rw [← this]; exact hg))))
      · exact .inr (by omega)
    · exact .inl (.inl (.inr (.inr (.inl hk))))
    · exact .inl (.inl (.inr (.inr (.inr hk))))
    · rw [rws_add] at hp
      rcases List.mem_append.1 hp with hp | hp
      · exact .inl (.inr ⟨p, List.mem_append_left _ hp, hk⟩)
      · rcases List.mem_cons.1 hp with rfl | hp
        · cases hk
        · exact .inl (.inr ⟨p, List.mem_append_right _ hp, hk⟩)
end
theorem infoT : (Tryd.prog.info? 124).map (fun i => (i.zero, i.size, i.bytes)) = some (some (.agg #[.slice none 0 0, .bool false, .int .u64 0, .int .i64 0]), 4, 48) := by kernel_rfl
end Go.Proofs.YtdlnkdcgipaoeaaDoor
