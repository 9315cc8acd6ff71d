/- Who waits, by the answers alone: rows and joins beside a book. -/
import Derived.Test.YtdlnkdcgipaoeaaDoorHLIv2
namespace Go.Proofs.YtdlnkdcgipaoeaaDoor
open Go.RowKit

theorem RR.setG {w w' : World} {R : List (Sl × List Int)} (h : RR w R) {i : Nat} {p q : Sl × List Int} (hi : R[i]? = some p) (hq : RI w' q.1 q.2) (hk : ∀ g, g < w.heap.size → p.1.blk ≠ some g → (∃ p ∈ R, p.1.blk = some g) → w'.heap[g]? = w.heap[g]?) (hb : ∀ g, q.1.blk = some g → p.1.blk = some g ∨ w.heap.size ≤ g) : RR w' (R.set i q) := by
  have hlt := (List.getElem?_eq_some_iff.1 hi).1
  have keep : ∀ j r, R[j]? = some r → j ≠ i → ∀ g, r.1.blk = some g → w'.heap[g]? = w.heap[g]? := fun j r hr hne g hg => hk g ((h.r j r hr).lt hg) (fun e => hne (h.inj j i r p g hr hi hg e)) ⟨r, List.mem_of_getElem? hr, hg⟩
  refine ⟨fun j r hr => ?_, fun a b r r' g ha hb' hga hgb => ?_⟩
  · by_cases e : i = j
    · subst e
      rw [List.getElem?_set_self hlt] at hr
      cases hr
      exact hq
    · rw [List.getElem?_set_ne e] at hr
      exact (h.r j r hr).kept (keep j r hr (fun h' => e h'.symm))
  · have key : ∀ j r, R[j]? = some r → j ≠ i → r.1.blk = some g → q.1.blk ≠ some g := fun j r hr hne hg hqg => by
      rcases hb g hqg with hb | hb
      · exact hne (h.inj j i r p g hr hi hg hb)
      · have := (h.r j r hr).lt hg
        omega
    by_cases ea : i = a
    · subst ea
      rw [List.getElem?_set_self hlt] at ha
      cases ha
      by_cases eb : i = b
      · exact eb
      · rw [List.getElem?_set_ne eb] at hb'
        exact absurd hga (key b r' hb' (fun h' => eb h'.symm) hgb)
    · rw [List.getElem?_set_ne ea] at ha
      by_cases eb : i = b
      · subst eb
        rw [List.getElem?_set_self hlt] at hb'
        cases hb'
        exact absurd hgb (key a r ha (fun h' => ea h'.symm) hga)
      · rw [List.getElem?_set_ne eb] at hb'
        exact h.inj a b r r' g ha hb' hga hgb
def rc (p : Sl × List Int) : Value := .slice p.1.ra p.2.length p.1.cap
structure RZ (w : World) (gr : Nat) (R : List (Sl × List Int)) : Prop where
  obj : w.heap[gr]? = some (.cells (R.map rc).toArray 62 (0, 0))
  rr : RR w R
def Rf (gr : Nat) (R : List (Sl × List Int)) (g : Nat) : Prop := g = gr ∨ ∃ p ∈ R, p.1.blk = some g
theorem RZ.lt {w : World} {gr : Nat} {R : List (Sl × List Int)} (h : RZ w gr R) {g : Nat} (hg : Rf gr R g) : g < w.heap.size := by
  rcases hg with rfl | hg
  · exact heap_lt h.obj
  · exact h.rr.lt hg
theorem RZ.kept {w w' : World} {gr : Nat} {R : List (Sl × List Int)} (h : RZ w gr R) (hk : ∀ g, Rf gr R g → w'.heap[g]? = w.heap[g]?) : RZ w' gr R :=
  ⟨(hk gr (.inl rfl)).trans h.obj, h.rr.kept (fun g hg => hk g (.inr hg))⟩
structure JF (w0 w : World) (b gr gj : Nat) (R : List (Sl × List Int)) (J : List Int) (B : Bk) (F : Nat → Prop) : Prop where
  bb : BB w b B F
  rz : RZ w gr R
  jo : w.heap[gj]? = some (.cells (J.map (Value.int .i64)).toArray 3 (0, 0))
  dF : ∀ g, F g → w0.heap.size ≤ g ∧ ¬ Rf gr R g ∧ g ≠ gj
  dR : ∀ g, Rf gr R g → w0.heap.size ≤ g ∧ g ≠ gj
  bj : w0.heap.size ≤ gj
  bel : Below w0.heap.size w0 w
structure Rel (B : Bk) (R : List (Sl × List Int)) (J : List Int) : Prop where
  re : R.map (·.2) = B.l.map (·.row)
  jl : J.length = 9
  jn : ∀ (k : Nat) (v : Int), 1 ≤ k → k ≤ 5 → J[k]? = some v → JN B k v
  iv : Iv B
  tl : B.t.length = 5
  ll : B.l.length = 3
section
variable {w0 w w' w1 : World} {b gr gj : Nat} {R : List (Sl × List Int)} {J : List Int} {B B' : Bk} {F F' : Nat → Prop}
theorem JF.book (h : JF w0 w b gr gj R J B F) (hB : BB w' b B' F') (hC : Chg F F' w w') : JF w0 w' b gr gj R J B' F' := by
  have hs := h.bel.size
  have hs2 := hC.2.1.size
  have hkR : ∀ g, Rf gr R g → w'.heap[g]? = w.heap[g]? := fun g hg => hC.1 g (h.rz.lt hg) (fun hf => (h.dF g hf).2.1 hg)
  refine ⟨hB, h.rz.kept hkR, (hC.1 gj (heap_lt h.jo) (fun hf => (h.dF gj hf).2.2 rfl)).trans h.jo, fun g hg => ?_, h.dR, h.bj, ⟨hC.2.1.os.trans h.bel.os, hC.2.1.tape.trans h.bel.tape, hC.2.1.output.trans h.bel.output, by omega, fun k hk => ?_⟩⟩
  · rcases hC.2.2 g hg with h' | h'
    · exact h.dF g h'
    · exact ⟨by omega, fun hr => by have := h.rz.lt hr; omega, fun e => by have := heap_lt h.jo; omega⟩
  · rw [hC.1 k (by omega) (fun hf => by have := (h.dF k hf).1; omega)]
    exact h.bel.block k hk
theorem JF.below (h : JF w0 w b gr gj R J B F) (hb : Below w.heap.size w w') : JF w0 w' b gr gj R J B F :=
  ⟨h.bb.below hb, h.rz.kept (fun g hg => hb.block g (h.rz.lt hg)), (hb.block gj (heap_lt h.jo)).trans h.jo, h.dF, h.dR, h.bj, h.bel.trans (hb.mono h.bel.size)⟩
/-- One row is another. -/
theorem JF.row (h : JF w0 w b gr gj R J B F) {n : Nat} {p q : Sl × List Int} (hn : R[n]? = some p) (hR : RI w1 q.1 q.2) (hk : ∀ g, g < w.heap.size → p.1.blk ≠ some g → w1.heap[g]? = w.heap[g]?) (hb : Below 0 w w1) (hq : ∀ g, q.1.blk = some g → p.1.blk = some g ∨ w.heap.size ≤ g) : JF w0 (w1.setCell ⟨gr, n, none⟩ (rc q)) b gr gj (R.set n q) J B F := by
  have hlt := (List.getElem?_eq_some_iff.1 hn).1
  have hs := h.bel.size
  have hpm : p ∈ R := List.mem_of_getElem? hn
  have hpb : ∀ g, p.1.blk = some g → Rf gr R g := fun g hg => .inr ⟨p, hpm, hg⟩
  have hne : p.1.blk ≠ some gr := fun e => by
    obtain ⟨c, hc⟩ := (h.rz.rr.r n p hn).bt e
    have := h.rz.obj
    rw [hc] at this
    cases this
  have h1 := (hk gr (heap_lt h.rz.obj) hne).trans h.rz.obj
  have hs1 : ∀ k, k ≠ gr → (w1.setCell ⟨gr, n, none⟩ (rc q)).heap[k]? = w1.heap[k]? := fun k hk' => Below.heap_setCell _ _ _ _ hk'
  have tot : ∀ k, k < w.heap.size → k ≠ gr → p.1.blk ≠ some k → (w1.setCell ⟨gr, n, none⟩ (rc q)).heap[k]? = w.heap[k]? := fun k h2 h3 h4 => (hs1 k h3).trans (hk k h2 h4)
  have hjlt := heap_lt h.jo
  have hgj : p.1.blk ≠ some gj := fun e => (h.dR gj (hpb gj e)).2 rfl
  have rne : ∀ g, (∃ r ∈ R, r.1.blk = some g) → g ≠ gr := fun g ⟨r, hr, hg⟩ e => by
    obtain ⟨i, hi⟩ := List.getElem?_of_mem hr
    obtain ⟨c, hc⟩ := (h.rz.rr.r i r hi).bt hg
    have := h.rz.obj
    rw [← e, hc] at this
    cases this
  have hqg : ∀ g, q.1.blk = some g → g ≠ gr ∧ w0.heap.size ≤ g ∧ g ≠ gj ∧ ¬ F g := fun g hg => by
    rcases hq g hg with hg | hg
    · exact ⟨rne g ⟨p, hpm, hg⟩, (h.dR g (hpb g hg)).1, (h.dR g (hpb g hg)).2, fun hf => (h.dF g hf).2.1 (hpb g hg)⟩
    · have := heap_lt h.rz.obj
      exact ⟨by omega, by omega, by omega, fun hf => by have := h.bb.lt hf; omega⟩
  have hRf : ∀ g, Rf gr (R.set n q) g → Rf gr R g ∨ q.1.blk = some g := fun g hg => by
    rcases hg with hg | ⟨r, hr, hg⟩
    · exact .inl (.inl hg)
    · rcases List.mem_or_eq_of_mem_set hr with hr | rfl
      · exact .inl (.inr ⟨r, hr, hg⟩)
      · exact .inr hg
  refine ⟨h.bb.kept (fun g hg => tot g (h.bb.lt hg) (fun e => (h.dF g hg).2.1 (.inl e)) (fun e => (h.dF g hg).2.1 (hpb g e))), ⟨?_, ?_⟩, (tot gj hjlt (fun e => (h.dR gr (.inl rfl)).2 e.symm) hgj).trans h.jo, fun g hg => ⟨(h.dF g hg).1, fun hr => ?_, (h.dF g hg).2.2⟩, fun g hg => ?_, h.bj, ⟨?_, ?_, ?_, ?_, fun k hk' => ?_⟩⟩
  · rw [set_atC h1, List.map_set]
    simp
  · exact h.rz.rr.setG hn (hR.kept (fun g hg => hs1 g (hqg g hg).1)) (fun g h2 h3 h4 => tot g h2 (rne g h4) h3) hq
  · rcases hRf g hr with hr | hr
    · exact (h.dF g hg).2.1 hr
    · exact (hqg g hr).2.2.2 hg
  · rcases hRf g hg with hr | hr
    · exact h.dR g hr
    · exact ⟨(hqg g hr).2.1, (hqg g hr).2.2.1⟩
  · exact hb.os.trans h.bel.os
  · exact hb.tape.trans h.bel.tape
  · exact hb.output.trans h.bel.output
  · have := hb.size
    rw [World.size_setCell]
    omega
  · have h5 := (h.dR gr (.inl rfl)).1
    rw [tot k (by omega) (by omega) (fun e => by have := (h.dR k (hpb k e)).1; omega)]
    exact h.bel.block k hk'
/-- One join is another. -/
theorem JF.jset (h : JF w0 w b gr gj R J B F) (k : Nat) (v : Int) : JF w0 (w.setCell ⟨gj, k, none⟩ (.int .i64 v)) b gr gj R (J.set k v) B F := by
  have hs1 : ∀ g, g ≠ gj → (w.setCell ⟨gj, k, none⟩ (.int .i64 v)).heap[g]? = w.heap[g]? := fun g hg => Below.heap_setCell _ _ _ _ hg
  refine ⟨h.bb.kept (fun g hg => hs1 g (h.dF g hg).2.2), h.rz.kept (fun g hg => hs1 g (h.dR g hg).2), ?_, h.dF, h.dR, h.bj, ⟨h.bel.os, h.bel.tape, h.bel.output, by rw [World.size_setCell]; exact h.bel.size, fun g hg => ?_⟩⟩
  · rw [set_atC h.jo, List.map_set]
    simp
  · have := h.bj
    rw [hs1 g (by omega)]
    exact h.bel.block g hg
theorem JF.rcell (h : JF w0 w b gr gj R J B F) {n : Nat} {p : Sl × List Int} (hn : R[n]? = some p) : w.cell? ⟨gr, n, none⟩ = some (rc p) := heap_cell h.rz.obj (by simp [hn])
theorem JF.jcell (h : JF w0 w b gr gj R J B F) {k : Nat} {v : Int} (hk : J[k]? = some v) : w.cell? ⟨gj, k, none⟩ = some (.int .i64 v) := heap_cell h.jo (by simp [hk])
theorem JF.rfz (h : JF w0 w b gr gj R J B F) (n : Nat) : w.frozen? ⟨gr, n, none⟩ = false := by simp [World.frozen?, h.rz.obj]
theorem JF.jfz (h : JF w0 w b gr gj R J B F) (n : Nat) : w.frozen? ⟨gj, n, none⟩ = false := by simp [World.frozen?, h.jo]
end
/-- What a step leaves. -/
def OkR (w0 : World) (b gr gj : Nat) (e : Ending) (w' : World) : Prop := e = .returned (.tuple #[.slice (some ⟨gr, 0, none⟩) 3 3, .bool true]) ∧ ∃ R J B F, JF w0 w' b gr gj R J B F ∧ Rel B R J
theorem Rel.at {B : Bk} {R : List (Sl × List Int)} {J : List Int} (h : Rel B R J) {n : Nat} (hn : n < 3) : ∃ x p, B.l[n]? = some x ∧ R[n]? = some p ∧ p.2 = x.row := by
  have hl : n < B.l.length := by rw [h.ll]; exact hn
  have h1 := List.getElem?_eq_getElem hl
  have h2 : (R.map (·.2))[n]? = some B.l[n].row := by rw [h.re, List.getElem?_map, h1]; rfl
  cases hp : R[n]? with
  | none => rw [List.getElem?_map, hp] at h2; cases h2
  | some p =>
    rw [List.getElem?_map, hp] at h2
    exact ⟨_, p, h1, rfl, Option.some.inj h2⟩
theorem lock_t (B : Bk) (t k : Int) : (lockM B t k).2.t = B.t := by
  unfold lockM
  split
  · rfl
  · split
    · rfl
    · cases B.l[k.toNat]? with
      | none => rfl
      | some x =>
        dsimp only
        split
        · rfl
        · split <;> rfl
theorem unlock_t (B : Bk) (t k : Int) : (unlockM B t k).2.t = B.t := by
  unfold unlockM
  split
  · rfl
  · split
    · rfl
    · cases B.l[k.toNat]? with
      | none => rfl
      | some x =>
        dsimp only
        split <;> rfl
end Go.Proofs.YtdlnkdcgipaoeaaDoor
