/- What was lent is written over: words, texts, instructions.; What was lent is written over: code.; CodeChecks: the walk. -/
import Derived.Test.YtpkohocjgnodnaaGreatDoorGP
import Derived.Test.YtpkohocjgnodnaaGreatDoorGQ
import Derived.Test.YtpkohocjgnodnaaGreatDoorGX
import Derived.Test.YtpkohocjgnodnaaGreatDoorHXWorks
import Derived.Test.YtpkohocjgnodnaaGreatDoorHZText
/- What was lent is written over: words, texts, instructions. -/
namespace Go.Proofs.YtpkohocjgnodnaaGreatDoor
open Go.RowKit

/-- Nothing but what stands in one row turns. -/
structure SpR (g : Nat) (w w' : World) : Prop where
  b : Below 0 w w'
  o : ∀ k, k ≠ g → k < w.heap.size → w'.heap[k]? = w.heap[k]?
  d : ∀ t k n, DR w t k n (fun _ _ => True) → DR w' t k n (fun _ _ => True)
theorem SpR.refl (g : Nat) (w : World) : SpR g w w := ⟨Below.refl _ _, fun _ _ _ => rfl, fun _ _ _ h => h⟩
theorem SpR.set {g : Nat} {w wr : World} (h : SpR g w wr) (j : Nat) (v : Value) : SpR g w (wr.setCell ⟨g, j, none⟩ v) := by
  refine ⟨h.b.setCell (p := ⟨g, j, none⟩) (Nat.zero_le _) _, fun k hk hl => (Below.heap_setCell _ _ _ _ hk).trans (h.o k hk hl), fun t k n hd => ?_⟩
  have hd2 := h.d t k n hd
  by_cases e : k = g
  · subst e
    exact hd2.set (fun _ _ _ _ => trivial) trivial
  · exact hd2.kept (Below.heap_setCell _ _ _ _ e)
set_option maxRecDepth 100000 in
set_option maxHeartbeats 8000000 in
theorem spoilW_any (n g : Nat) (w : World) (hl : n ≤ 1000000000) (hD : DR w 70 g (n + 2) (fun _ _ => True)) :
    Calls Tryz.prog 38 #[.slice (some ⟨g, 0, none⟩) n (n + 2)] w fun e w' => e = .returned (.tuple #[]) ∧ SpR g w w' ∧ DR w' 70 g (n + 2) (fun _ u => u = .int .u64 77777773) := by
  have H0 : Hid (DR w 70 g (n + 2) (fun k u => k < 0 → u = .int .u64 77777773)) := hD.mono (fun _ _ _ _ h => absurd h (Nat.not_lt_zero _))
  have H1 : Hid (SpR g w w) := SpR.refl _ _
  clear hD
  go_enter Tryz.func38, Tryz.ntmps38
  go_wp2_with fail
  go_loopw [3] (fun i wr => ∃ j : Nat, i = .int .i64 j ∧ j ≤ n + 2 ∧ Hid (DR wr 70 g (n + 2) (fun k u => k < j → u = .int .u64 77777773)) ∧ Hid (SpR g w wr)) (fun i _ => n + 2 - (intOf i).toNat)
  case atStart => exact ⟨0, rfl, Nat.zero_le _, H0, H1⟩
  case round =>
    clear H0 H1
    obtain ⟨j, rfl, hj, HD, HI⟩ := hrel
    by_cases hjl : j < n + 2
    · have k1 : (j : Int) < (n : Int) + 2 := by omega
      have k2 : (j : Int) < ((n + 2 : Nat) : Int) := by omega
      obtain ⟨u, hu, _⟩ := HD.out.cell hjl
      have hf := HD.out.fz j
      have lg := HD.out.lt
      have HE : Hid (DR (wr.setCell ⟨g, j, none⟩ (.int .u64 77777773)) 70 g (n + 2) (fun k u => k < j + 1 → u = .int .u64 77777773)) := HD.out.set (fun k u hk h hlt => h (by omega)) (fun _ => rfl)
      have HS : Hid (SpR g w (wr.setCell ⟨g, j, none⟩ (.int .u64 77777773))) := HI.out.set _ _
      go_wp2_with fail
      refine ⟨⟨j + 1, by go_num, by omega, HE, HS⟩, by simp [intOf]; omega⟩
    · have e : j = n + 2 := by omega
      subst e
      have k1 : ¬ (((n + 2 : Nat) : Int) < (n : Int) + 2) := by omega
      have k2 : ¬ (((n + 2 : Nat) : Int) < ((n + 2 : Nat) : Int)) := by omega
      go_wp2_with fail
      go_end0
      exact ⟨rfl, HI.out, HD.out.mono (fun k u hk h => h hk)⟩
def spT : List UInt8 := [115, 112, 111, 105, 108, 116]
set_option maxRecDepth 100000 in
set_option maxHeartbeats 8000000 in
theorem spoilX_any (n g : Nat) (w : World) (hl : n ≤ 1000000000) (hD : DR w 9 g (n + 2) (fun _ _ => True)) :
    Calls Tryz.prog 39 #[.slice (some ⟨g, 0, none⟩) n (n + 2)] w fun e w' => e = .returned (.tuple #[]) ∧ SpR g w w' ∧ DR w' 9 g (n + 2) (fun _ u => u = S spT) := by
  have H0 : Hid (DR w 9 g (n + 2) (fun k u => k < 0 → u = S spT)) := hD.mono (fun _ _ _ _ h => absurd h (Nat.not_lt_zero _))
  have H1 : Hid (SpR g w w) := SpR.refl _ _
  clear hD
  go_enter Tryz.func39, Tryz.ntmps39
  go_wp2_with fail
  go_loopw [3] (fun i wr => ∃ j : Nat, i = .int .i64 j ∧ j ≤ n + 2 ∧ Hid (DR wr 9 g (n + 2) (fun k u => k < j → u = S spT)) ∧ Hid (SpR g w wr)) (fun i _ => n + 2 - (intOf i).toNat)
  case atStart => exact ⟨0, rfl, Nat.zero_le _, H0, H1⟩
  case round =>
    clear H0 H1
    obtain ⟨j, rfl, hj, HD, HI⟩ := hrel
    by_cases hjl : j < n + 2
    · have k1 : (j : Int) < (n : Int) + 2 := by omega
      have k2 : (j : Int) < ((n + 2 : Nat) : Int) := by omega
      obtain ⟨u, hu, _⟩ := HD.out.cell hjl
      have hf := HD.out.fz j
      have lg := HD.out.lt
      have HE : Hid (DR (wr.setCell ⟨g, j, none⟩ (S spT)) 9 g (n + 2) (fun k u => k < j + 1 → u = S spT)) := HD.out.set (fun k u hk h hlt => h (by omega)) (fun _ => rfl)
      have HS : Hid (SpR g w (wr.setCell ⟨g, j, none⟩ (S spT))) := HI.out.set _ _
      go_wp2_with fail
      refine ⟨⟨j + 1, by go_num, by omega, HE, HS⟩, by simp [intOf]; omega⟩
    · have e : j = n + 2 := by omega
      subst e
      have k1 : ¬ (((n + 2 : Nat) : Int) < (n : Int) + 2) := by omega
      have k2 : ¬ (((n + 2 : Nat) : Int) < ((n + 2 : Nat) : Int)) := by omega
      go_wp2_with fail
      go_end0
      exact ⟨rfl, HI.out, HD.out.mono (fun k u hk h => h hk)⟩
set_option maxRecDepth 100000 in
set_option maxHeartbeats 8000000 in
theorem spoilN_any (n g : Nat) (w : World) (hl : n ≤ 1000000000) (hD : DR w 79 g ((n + 2) * 2) (fun _ _ => True)) :
    Calls Tryz.prog 40 #[.slice (some ⟨g, 0, none⟩) n (n + 2)] w fun e w' => e = .returned (.tuple #[]) ∧ SpR g w w' := by
  have H0 : Hid (DR w 79 g ((n + 2) * 2) (fun _ _ => True)) := hD
  have H1 : Hid (SpR g w w) := SpR.refl _ _
  clear hD
  go_enter Tryz.func40, Tryz.ntmps40
  go_wp2_with fail
  go_loopw [3] (fun i wr => ∃ j : Nat, i = .int .i64 j ∧ j ≤ n + 2 ∧ Hid (SpR g w wr)) (fun i _ => n + 2 - (intOf i).toNat)
  case atStart => exact ⟨0, rfl, Nat.zero_le _, H1⟩
  case round =>
    clear H1
    obtain ⟨j, rfl, hj, HI⟩ := hrel
    by_cases hjl : j < n + 2
    · have k1 : (j : Int) < (n : Int) + 2 := by omega
      have k2 : (j : Int) < ((n + 2 : Nat) : Int) := by omega
      have hD := HI.out.d _ _ _ H0.out
      obtain ⟨u, hu, _⟩ := hD.cell (j := j * 2) (by omega)
      obtain ⟨u', hu', _⟩ := hD.cell (j := j * 2 + 1) (by omega)
      have hf := hD.fz (j * 2)
      have hf' := hD.fz (j * 2 + 1)
      have lg := hD.lt
      have HS : Hid (SpR g w ((wr.setCell ⟨g, j * 2, none⟩ (.int .u8 99)).setCell ⟨g, j * 2 + 1, none⟩ (.int .i64 (-5)))) := (HI.out.set _ _).set _ _
      clear hD
      go_wp2_with fail
      refine ⟨⟨j + 1, by go_num, by omega, HS⟩, by simp [intOf]; omega⟩
    · have e : j = n + 2 := by omega
      subst e
      have k1 : ¬ (((n + 2 : Nat) : Int) < (n : Int) + 2) := by omega
      have k2 : ¬ (((n + 2 : Nat) : Int) < ((n + 2 : Nat) : Int)) := by omega
      go_wp2_with fail
      go_end0
      exact ⟨rfl, HI.out⟩
end Go.Proofs.YtpkohocjgnodnaaGreatDoor

/- What was lent is written over: code. -/
namespace Go.Proofs.YtpkohocjgnodnaaGreatDoor
open Go.RowKit

theorem dr_own {w : World} {B T sz n g : Nat} {xs : List Value} (h : w.ownsRow B T sz (.slice (some ⟨g, 0, none⟩) n n) n xs) : DR w T g (n * sz) (fun k u => xs[k]? = some u) := by
  obtain ⟨cs, h1, h2, _, _, _, h6, h7⟩ := own_out h
  refine ⟨cs, h1, h2, fun k u hk => ?_⟩
  have hk2 : k < xs.length := by rw [h6, ← h2]; exact (Array.getElem?_eq_some_iff.1 hk).1
  have := h7 k xs[k] (List.getElem?_eq_getElem hk2)
  rw [hk] at this
  rw [Option.some.inj this]
  exact List.getElem?_eq_getElem hk2
def spoC (c : Cd) : Cd := ⟨List.replicate c.consts.length 77777773, List.replicate c.procs.length ⟨99, []⟩, List.replicate c.globals.length spT⟩
/-- What the row of procedures holds when its first cells are spoilt. -/
def PS (xs : List Value) (m k : Nat) (u : Value) : Prop := (k < m → u = if k % 2 = 0 then .int .i64 99 else .slice none 0 0) ∧ (m ≤ k → xs[k]? = some u)
structure SS (c : Cd) (B : Nat) (w wr : World) (bx g1 g2 g3 : Nat) (vs xs : List Value) (m : Nat) : Prop where
  box : wr.heap[bx]? = some (.cells #[.slice (some ⟨g1, 0, none⟩) c.consts.length (c.consts.length + 2), .slice (some ⟨g2, 0, none⟩) c.procs.length (c.procs.length + 1), .slice (some ⟨g3, 0, none⟩) c.globals.length (c.globals.length + 2)] 26 (0, 0))
  b : Below B w wr
  kd : ∀ (k : Nat) (cs : Array Value), w.heap[k]? = some (.cells cs 26 (0, 0)) → wr.heap[k]? = some (.cells cs 26 (0, 0))
  d1 : DR wr 70 g1 (c.consts.length + 2) (fun _ u => u = .int .u64 77777773)
  d3 : DR wr 9 g3 (c.globals.length + 2) (fun _ u => u = S spT)
  d2 : DR wr 64 g2 ((c.procs.length + 1) * 2) (PS xs m)
  rows : ∀ (i : Nat) (p : Prc), c.procs[i]? = some p → ∃ g, vs[i]? = some (.slice (some ⟨g, 0, none⟩) p.code.length (p.code.length + 2)) ∧ B ≤ g ∧ DR wr 79 g ((p.code.length + 2) * 2) (fun _ _ => True)
theorem SpR.low {B g : Nat} {w w' : World} (h : SpR g w w') (hB : B ≤ g) (hg : g < w.heap.size) : Below B w w' := ⟨h.b.os, h.b.tape, h.b.output, h.b.size, fun k hk => h.o k (by omega) (by omega)⟩
theorem SS.spoil {c : Cd} {B : Nat} {w wr w3 : World} {bx g1 g2 g3 m gj n : Nat} {vs xs : List Value} (h : SS c B w wr bx g1 g2 g3 vs xs m) (hd : DR wr 79 gj n (fun _ _ => True)) (hB : B ≤ gj) (hs : SpR gj wr w3) : SS c B w w3 bx g1 g2 g3 vs xs m where
  box := (hs.o bx (fun e => dr_bx hd h.box (by decide) e.symm) (heap_lt h.box)).trans h.box
  b := h.b.trans (hs.low hB hd.lt)
  kd := fun k cs hk => (hs.o k (fun e => dr_bx hd (h.kd k cs hk) (by decide) e.symm) (heap_lt (h.kd k cs hk))).trans (h.kd k cs hk)
  d1 := h.d1.kept (hs.o g1 (dr_dr h.d1 hd (by decide)) h.d1.lt)
  d3 := h.d3.kept (hs.o g3 (dr_dr h.d3 hd (by decide)) h.d3.lt)
  d2 := h.d2.kept (hs.o g2 (dr_dr h.d2 hd (by decide)) h.d2.lt)
  rows := fun i p hp => by
    obtain ⟨g, e, hb, d⟩ := h.rows i p hp
    exact ⟨g, e, hb, hs.d _ _ _ d⟩
theorem SS.set {c : Cd} {B : Nat} {w wr : World} {bx g1 g2 g3 m : Nat} {vs xs : List Value} (h : SS c B w wr bx g1 g2 g3 vs xs m) (hB : B ≤ g2) (v : Value) (hv : v = if m % 2 = 0 then .int .i64 99 else .slice none 0 0) : SS c B w (wr.setCell ⟨g2, m, none⟩ v) bx g1 g2 g3 vs xs (m + 1) where
  box := (Below.heap_setCell _ _ _ _ (fun e => dr_bx h.d2 h.box (by decide) e.symm)).trans h.box
  b := h.b.setCell (p := ⟨g2, m, none⟩) hB _
  kd := fun k cs hk => (Below.heap_setCell _ _ _ _ (fun e => dr_bx h.d2 (h.kd k cs hk) (by decide) e.symm)).trans (h.kd k cs hk)
  d1 := h.d1.kept (Below.heap_setCell _ _ _ _ (dr_dr h.d1 h.d2 (by decide)))
  d3 := h.d3.kept (Below.heap_setCell _ _ _ _ (dr_dr h.d3 h.d2 (by decide)))
  d2 := h.d2.set (fun k u hk hp => ⟨fun q => hp.1 (by omega), fun q => hp.2 (by omega)⟩) ⟨fun _ => hv, fun q => by omega⟩
  rows := fun i p hp => by
    obtain ⟨g, e, hb, d⟩ := h.rows i p hp
    exact ⟨g, e, hb, d.kept (Below.heap_setCell _ _ _ _ (dr_dr d h.d2 (by decide)))⟩
theorem rep_at {α : Type} {n j : Nat} {a x : α} (h : (List.replicate n a)[j]? = some x) : j < n ∧ x = a := by
  rw [List.getElem?_replicate] at h
  split at h
  · exact ⟨by assumption, (Option.some.inj h).symm⟩
  · cases h
theorem SS.cv {c : Cd} {B : Nat} {w wr : World} {bx g1 g2 g3 : Nat} {vs xs : List Value} (h : SS c B w wr bx g1 g2 g3 vs xs (c.procs.length * 2)) (hl : c.consts.length ≤ maxLen ∧ c.procs.length ≤ maxLen ∧ c.globals.length ≤ maxLen) :
    CV wr (.agg #[.slice (some ⟨g1, 0, none⟩) c.consts.length (c.consts.length + 2), .slice (some ⟨g2, 0, none⟩) c.procs.length (c.procs.length + 1), .slice (some ⟨g3, 0, none⟩) c.globals.length (c.globals.length + 2)]) (spoC c) := by
  refine ⟨⟨some ⟨g1, 0, none⟩, c.consts.length + 2, some ⟨g2, 0, none⟩, c.procs.length + 1, some ⟨g3, 0, none⟩, c.globals.length + 2, by simp [spoC], ⟨g1, 0, .inr rfl, fun j x hx => ?_⟩, ⟨g2, 0, .inr rfl, fun j x hx => ?_⟩, ⟨g3, 0, .inr rfl, fun j x hx => ?_⟩, by simp [spoC]⟩, by simpa [spoC] using hl⟩
  · obtain ⟨hj, rfl⟩ := rep_at hx
    obtain ⟨u, hu, rfl⟩ := h.d1.cell (j := j) (by omega)
    exact ⟨h.d1.lt, by rw [Nat.zero_add]; exact hu, by unfold Rng; omega⟩
  · obtain ⟨hj, rfl⟩ := rep_at hx
    obtain ⟨u, hu, hp⟩ := h.d2.cell (j := j * 2) (by omega)
    obtain ⟨u', hu', hp'⟩ := h.d2.cell (j := j * 2 + 1) (by omega)
    have e1 := hp.1 (by omega)
    have e2 := hp'.1 (by omega)
    rw [if_pos (by omega)] at e1
    rw [if_neg (by omega)] at e2
    subst e1 e2
    exact ⟨h.d2.lt, by rw [Nat.zero_add]; exact hu, ⟨none, 0, by rw [Nat.zero_add]; exact hu', 0, 0, .inl rfl, fun i y hy => by simp at hy⟩, by unfold maxLen; simp⟩
  · obtain ⟨hj, rfl⟩ := rep_at hx
    obtain ⟨u, hu, rfl⟩ := h.d3.cell (j := j) (by omega)
    exact ⟨h.d3.lt, by rw [Nat.zero_add]; exact hu, by unfold maxLen; decide⟩
set_option maxRecDepth 100000 in
set_option maxHeartbeats 8000000 in
theorem spoilCode_any (c : Cd) (v : Value) (B : Nat) (w : World) (h : LCd w B v c) (hB : B ≤ w.heap.size) (hz : c.consts.length ≤ 1000000000 ∧ c.procs.length ≤ 1000000000 ∧ c.globals.length ≤ 1000000000) (hk : ∀ p ∈ c.procs, p.code.length ≤ 1000000000) :
    Calls Tryz.prog 13 #[v] w fun e w' => e = .returned (.tuple #[]) ∧ CV w' v (spoC c) ∧ Below B w w' ∧ ∀ (k : Nat) (cs : Array Value), w.heap[k]? = some (.cells cs 26 (0, 0)) → w'.heap[k]? = some (.cells cs 26 (0, 0)) := by
  obtain ⟨g1, g2, g3, vs, rfl, o1, o2, o3, hp⟩ := h
  obtain ⟨z1, z2, z3⟩ := hz
  have HK : Hid (∀ p ∈ c.procs, p.code.length ≤ 1000000000) := hk
  have b1 : B ≤ g1 := (o1.lt g1 rfl).1
  have b2 : B ≤ g2 := (o2.lt g2 rfl).1
  have b3 : B ≤ g3 := (o3.lt g3 rfl).1
  have hal : Below w.heap.size w (w.alloc (.cells #[.slice (some ⟨g1, 0, none⟩) c.consts.length (c.consts.length + 2), .slice (some ⟨g2, 0, none⟩) c.procs.length (c.procs.length + 1), .slice (some ⟨g3, 0, none⟩) c.globals.length (c.globals.length + 2)] 26)) := (Below.refl _ w).alloc (Nat.le_refl _) _
  have HBx : Hid ((w.alloc (.cells #[.slice (some ⟨g1, 0, none⟩) c.consts.length (c.consts.length + 2), .slice (some ⟨g2, 0, none⟩) c.procs.length (c.procs.length + 1), .slice (some ⟨g3, 0, none⟩) c.globals.length (c.globals.length + 2)] 26)).heap[w.heap.size]? = some (.cells #[.slice (some ⟨g1, 0, none⟩) c.consts.length (c.consts.length + 2), .slice (some ⟨g2, 0, none⟩) c.procs.length (c.procs.length + 1), .slice (some ⟨g3, 0, none⟩) c.globals.length (c.globals.length + 2)] 26 (0, 0))) := heap_alloc_new _ _
  have HAl : Hid (Below w.heap.size w (w.alloc (.cells #[.slice (some ⟨g1, 0, none⟩) c.consts.length (c.consts.length + 2), .slice (some ⟨g2, 0, none⟩) c.procs.length (c.procs.length + 1), .slice (some ⟨g3, 0, none⟩) c.globals.length (c.globals.length + 2)] 26))) := hal
  have HD1 : Hid (∀ w5, Below w.heap.size w w5 → DR w5 70 g1 (c.consts.length + 2) (fun _ _ => True)) := fun w5 h5 => by
    have := (dr_own (own_kept o1 h5)).mono (P' := fun _ _ => True) (fun _ _ _ _ => trivial)
    rwa [Nat.mul_one] at this
  have HD3 : Hid (∀ w5, Below w.heap.size w w5 → DR w5 9 g3 (c.globals.length + 2) (fun _ _ => True)) := fun w5 h5 => by
    have := (dr_own (own_kept o3 h5)).mono (P' := fun _ _ => True) (fun _ _ _ _ => trivial)
    rwa [Nat.mul_one] at this
  obtain ⟨xs, hxs⟩ : ∃ xs, xs = prcCells c.procs vs ++ [.int .i64 (-77), .slice none 0 0] := ⟨_, rfl⟩
  rw [← hxs] at o2
  have HD2 : Hid (∀ w5, Below w.heap.size w w5 → DR w5 64 g2 ((c.procs.length + 1) * 2) (PS xs 0)) := fun w5 h5 => (dr_own (own_kept o2 h5)).mono (fun _ _ _ h => ⟨fun q => absurd q (Nat.not_lt_zero _), fun _ => h⟩)
  have HRw : Hid (∀ w5, Below w.heap.size w w5 → ∀ (i : Nat) (p : Prc), c.procs[i]? = some p → ∃ g, vs[i]? = some (.slice (some ⟨g, 0, none⟩) p.code.length (p.code.length + 2)) ∧ B ≤ g ∧ DR w5 79 g ((p.code.length + 2) * 2) (fun _ _ => True)) := fun w5 h5 i p hi => by
    have hjl := (List.getElem?_eq_some_iff.1 hi).1
    have hv : vs[i]? = some (vs[i]'(by rw [hp.len]; exact hjl)) := List.getElem?_eq_getElem _
    obtain ⟨g, e, ho⟩ := hp.row i p _ hi hv
    exact ⟨g, by rw [hv, e], (ho.lt g rfl).1, (dr_own (own_kept ho h5)).mono (fun _ _ _ _ => trivial)⟩
  have HXs : Hid (∀ (i : Nat) (p : Prc) (v : Value), c.procs[i]? = some p → vs[i]? = some v → xs[i * 2 + 1]? = some v) := fun i p v hi hv => by
    rw [hxs]
    exact get_app (prcCells_at _ _ i p v hi hv).2
  clear hxs o1 o2 o3 hp hal hk
  go_enter Tryz.func13, Tryz.ntmps13
  go_wp2_with fail
  refine (spoilW_any c.consts.length g1 _ z1 (HD1.out _ HAl.out)).mono ?_
  rintro e w1 ⟨rfl, hs1, hd1⟩
  have t1 := HD1.out _ HAl.out
  have t2 := HD2.out _ HAl.out
  have t3 := HD3.out _ HAl.out
  have t4 := HRw.out _ HAl.out
  have HX1 : Hid (w1.heap[w.heap.size]? = some (.cells #[.slice (some ⟨g1, 0, none⟩) c.consts.length (c.consts.length + 2), .slice (some ⟨g2, 0, none⟩) c.procs.length (c.procs.length + 1), .slice (some ⟨g3, 0, none⟩) c.globals.length (c.globals.length + 2)] 26 (0, 0))) := (hs1.o _ (fun e => dr_bx t1 HBx.out (by decide) e.symm) (heap_lt HBx.out)).trans HBx.out
  have HE3 : Hid (DR w1 9 g3 (c.globals.length + 2) (fun _ _ => True)) := t3.kept (hs1.o g3 (dr_dr t3 t1 (by decide)) t3.lt)
  have HE2 : Hid (DR w1 64 g2 ((c.procs.length + 1) * 2) (PS xs 0)) := t2.kept (hs1.o g2 (dr_dr t2 t1 (by decide)) t2.lt)
  have HE1 : Hid (DR w1 70 g1 (c.consts.length + 2) (fun _ u => u = .int .u64 77777773)) := hd1
  have HE4 : Hid (∀ (i : Nat) (p : Prc), c.procs[i]? = some p → ∃ g, vs[i]? = some (.slice (some ⟨g, 0, none⟩) p.code.length (p.code.length + 2)) ∧ B ≤ g ∧ DR w1 79 g ((p.code.length + 2) * 2) (fun _ _ => True)) := fun i p hi => by
    obtain ⟨g, e, hb, d⟩ := t4 i p hi
    exact ⟨g, e, hb, hs1.d _ _ _ d⟩
  have HKD : Hid (∀ (k : Nat) (cs : Array Value), w.heap[k]? = some (.cells cs 26 (0, 0)) → w1.heap[k]? = some (.cells cs 26 (0, 0))) := fun k cs hk => by
    have q := (HAl.out.block k (heap_lt hk)).trans hk
    exact (hs1.o k (fun e => dr_bx t1 q (by decide) e.symm) (heap_lt q)).trans q
  have HL1 : Hid (Below B w w1) := (HAl.out.mono hB).trans (hs1.low b1 t1.lt)
  clear t1 t2 t3 t4 hs1 hd1 HBx HAl HD1 HD2 HD3 HRw
  obtain ⟨bx, hbx⟩ : ∃ bx, bx = w.heap.size := ⟨_, rfl⟩
  rw [← hbx] at HX1 ⊢
  clear hbx
  have u2 : w1.cell? ⟨bx, 2, none⟩ = some (.slice (some ⟨g3, 0, none⟩) c.globals.length (c.globals.length + 2)) := heap_cell HX1.out rfl
  have lu : bx < w1.heap.size := heap_lt HX1.out
  go_wp2_with fail
  refine (spoilX_any c.globals.length g3 _ z3 HE3.out).mono ?_
  rintro e w2 ⟨rfl, hs2, hd3⟩
  have HI0 : Hid (SS c B w w2 bx g1 g2 g3 vs xs (0 * 2)) :=
    ⟨(hs2.o _ (fun e => dr_bx HE3.out HX1.out (by decide) e.symm) (heap_lt HX1.out)).trans HX1.out, HL1.out.trans (hs2.low b3 HE3.out.lt), fun k cs hk => (hs2.o k (fun e => dr_bx HE3.out (HKD.out k cs hk) (by decide) e.symm) (heap_lt (HKD.out k cs hk))).trans (HKD.out k cs hk), HE1.out.kept (hs2.o g1 (dr_dr HE1.out HE3.out (by decide)) HE1.out.lt), hd3, HE2.out.kept (hs2.o g2 (dr_dr HE2.out HE3.out (by decide)) HE2.out.lt), fun i p hi => by
      obtain ⟨g, e, hb, d⟩ := HE4.out i p hi
      exact ⟨g, e, hb, hs2.d _ _ _ d⟩⟩
  clear hs2 hd3 u2 lu HKD HE1 HE2 HE3 HE4 HL1 HX1
  go_wp2_with fail
  go_loopw [2] (fun i wr => ∃ j : Nat, i = .int .i64 j ∧ j ≤ c.procs.length ∧ Hid (SS c B w wr bx g1 g2 g3 vs xs (j * 2))) (fun i _ => c.procs.length - (intOf i).toNat)
  case atStart => exact ⟨0, rfl, Nat.zero_le _, HI0⟩
  case round =>
    clear HI0
    obtain ⟨j, rfl, hj, HI⟩ := hrel
    have u1 : wr.cell? ⟨bx, 1, none⟩ = some (.slice (some ⟨g2, 0, none⟩) c.procs.length (c.procs.length + 1)) := heap_cell HI.out.box rfl
    have lu : bx < wr.heap.size := heap_lt HI.out.box
    by_cases hlt : j < c.procs.length
    · have i1 : (j : Int) < (c.procs.length : Int) := by omega
      have hx : c.procs[j]? = some c.procs[j] := List.getElem?_eq_getElem hlt
      generalize c.procs[j] = x at hx
      obtain ⟨gj, hv, hbj, hdj⟩ := HI.out.rows j x hx
      have hkx := HK.out x (List.mem_of_getElem? hx)
      obtain ⟨u, hu, hpu⟩ := HI.out.d2.cell (j := j * 2 + 1) (by omega)
      have e1 := hpu.2 (by omega)
      rw [HXs.out j x _ hx hv] at e1
      rw [← Option.some.inj e1] at hu
      have lg : g2 < wr.heap.size := HI.out.d2.lt
      have HCl : Hid (Calls Tryz.prog 40 #[.slice (some ⟨gj, 0, none⟩) x.code.length (x.code.length + 2)] wr fun e w' => e = .returned (.tuple #[]) ∧ SS c B w w' bx g1 g2 g3 vs xs (j * 2)) := by
        refine (spoilN_any x.code.length gj wr hkx hdj).mono ?_
        rintro e w3 ⟨he, hs⟩
        exact ⟨he, HI.out.spoil hdj hbj hs⟩
      clear hx hv hbj hdj hpu e1
      go_wp2_with fail
      refine Calls.mono HCl.out ?_
      rintro e w3 ⟨rfl, h3⟩
      have HE : Hid (SS c B w ((w3.setCell ⟨g2, j * 2, none⟩ (.int .i64 99)).setCell ⟨g2, j * 2 + 1, none⟩ (.slice none 0 0)) bx g1 g2 g3 vs xs ((j + 1) * 2)) := by
        have := (h3.set b2 (.int .i64 99) (by rw [if_pos (by omega)])).set b2 (.slice none 0 0) (by rw [if_neg (by omega)])
        rw [show (j + 1) * 2 = j * 2 + 1 + 1 by omega]
        exact this
      clear hu lg u1 lu HCl
      have u1 : w3.cell? ⟨bx, 1, none⟩ = some (.slice (some ⟨g2, 0, none⟩) c.procs.length (c.procs.length + 1)) := heap_cell h3.box rfl
      have lu : bx < w3.heap.size := heap_lt h3.box
      obtain ⟨_, q0, _⟩ := h3.d2.cell (j := j * 2) (by omega)
      obtain ⟨_, q1, _⟩ := h3.d2.cell (j := j * 2 + 1) (by omega)
      have q2 := h3.d2.fz (j * 2)
      have q3 := h3.d2.fz (j * 2 + 1)
      have lg : g2 < w3.heap.size := h3.d2.lt
      clear h3
      go_wp2_with fail
      refine ⟨⟨j + 1, by go_num, by omega, HE⟩, by simp [intOf]; omega⟩
    · have e : j = c.procs.length := by omega
      subst e
      have i1 : ¬ ((c.procs.length : Int) < (c.procs.length : Int)) := by omega
      go_wp2_with fail
      go_end0
      exact ⟨rfl, HI.out.cv (by unfold maxLen; omega), HI.out.b, HI.out.kd⟩
end Go.Proofs.YtpkohocjgnodnaaGreatDoor

/- CodeChecks: the walk. -/
namespace Go.Proofs.YtpkohocjgnodnaaGreatDoor
open Go.RowKit

theorem LCd.below {w w' : World} {B : Nat} {v : Value} {c : Cd} (h : LCd w B v c) (hb : Below w.heap.size w w') : LCd w' B v c := by
  obtain ⟨g1, g2, g3, vs, e, o1, o2, o3, hp⟩ := h
  exact ⟨g1, g2, g3, vs, e, own_kept o1 hb, own_kept o2 hb, own_kept o3 hb, hp.kept (fun g _ hg => hb.block g hg)⟩
theorem textV_is (c : Cd) : ∃ T g, textV c = .tuple #[S T, .int .i64 g] := by
  unfold textV
  split
  · exact ⟨_, _, rfl⟩
  · exact ⟨_, _, rfl⟩
theorem wtT_lens : ∀ l : List (List UInt8), l.length ≤ wtT l
  | [] => Nat.zero_le _
  | t :: l => by have := wtT_lens l; simp only [wtT, List.length_cons]; omega
theorem wtP_lens : ∀ l : List Prc, l.length ≤ wtP l ∧ ∀ p ∈ l, p.code.length ≤ wtP l
  | [] => ⟨Nat.zero_le _, fun p hp => by cases hp⟩
  | q :: l => by
    obtain ⟨h1, h2⟩ := wtP_lens l
    simp only [wtP, List.length_cons]
    refine ⟨by omega, fun p hp => ?_⟩
    rcases List.mem_cons.1 hp with h | h
    · subst h; omega
    · have := h2 p h; omega
theorem wtT_rep : ∀ n : Nat, wtT (List.replicate n spT) = n * 7
  | 0 => rfl
  | n + 1 => by
    rw [List.replicate_succ, wtT, wtT_rep n]
    have : spT.length = 6 := rfl
    omega
theorem wtP_rep : ∀ n : Nat, wtP (List.replicate n ⟨99, []⟩) = n
  | 0 => rfl
  | n + 1 => by
    rw [List.replicate_succ, wtP, wtP_rep n]
    simp
    omega
theorem spoC_wt {c : Cd} (h : wtC c ≤ 8388608) : (writtenT (spoC c)).length ≤ 140737488355328 := by
  have h1 := wtT_lens c.globals
  have h2 := (wtP_lens c.procs).1
  have h3 : wtC (spoC c) = c.consts.length + c.globals.length * 7 + c.procs.length := by
    unfold wtC spoC
    simp only [List.length_replicate]
    rw [wtT_rep, wtP_rep]
  have h4 : (writtenT (spoC c)).length ≤ 200 * wtC (spoC c) := written_len (fun p hp => by
    have := (List.mem_replicate.1 hp).2
    subst this
    exact ⟨by unfold Fit64; simp, fun x hx => by simp at hx⟩)
  unfold wtC at h
  omega
theorem spoC_gs {c : Cd} : ∀ t ∈ (spoC c).globals, t.length ≤ 281474976710656 := fun t ht => by
  have := (List.mem_replicate.1 ht).2
  subst this
  decide
set_option maxRecDepth 100000 in
set_option maxHeartbeats 16000000 in
theorem codeChecks_walk (c : Cd) (v : Value) (w : World) (hE : Env w) (hv : CV w v c) (hx : ∀ t ∈ c.globals, t.length ≤ 281474976710656) (hz : c.consts.length ≤ 281474976710656 ∧ c.procs.length ≤ 281474976710656 ∧ c.globals.length ≤ 281474976710656) (hk : ∀ p ∈ c.procs, p.code.length ≤ 281474976710656)
    (hf : ∀ p ∈ c.procs, Fit64 p.params ∧ ∀ x ∈ p.code, Fit64 x.a) :
    Calls Tryz.prog 3 #[v] w fun e w' => e = .returned (.bool true) ∧ Below w.heap.size w w' := by
  have hv' := hv
  obtain ⟨⟨r1, c1, r2, c2, r3, c3, rfl, -, -, -, -⟩, -⟩ := hv'
  have HE : Hid (Env w) := hE
  have HG : Hid (∀ t ∈ c.globals, t.length ≤ 281474976710656) := hx
  have HC0 : Hid (CX w (w.alloc (.cells #[.slice r1 c.consts.length c1, .slice r2 c.procs.length c2, .slice r3 c.globals.length c3] 26)) w.heap.size r1 r2 r3 c.consts.length c.procs.length c.globals.length c1 c2 c3) := ⟨heap_alloc_new _ _, (Below.refl _ w).alloc (Nat.le_refl _) _⟩
  have HV : Hid (∀ w5 : World, Below w.heap.size w w5 → CV w5 (.agg #[.slice r1 c.consts.length c1, .slice r2 c.procs.length c2, .slice r3 c.globals.length c3]) c) := fun w5 h5 => hv.below h5
  have HWk : Hid (∀ w5 : World, Below w.heap.size w w5 → Calls Tryz.prog 5 #[] w5 fun e w' => e = .returned (.bool true) ∧ Below w5.heap.size w5 w') := fun w5 h5 => works_any w5 (hE.below h5)
  have HOf : Hid (∀ w5 : World, Below w.heap.size w w5 → Calls Tryz.prog 6 #[(.agg #[.slice r1 c.consts.length c1, .slice r2 c.procs.length c2, .slice r3 c.globals.length c3])] w5 fun e w' => OfR 2251799813685248 (wtC c) e ∧ Below w5.heap.size w5 w') := fun w5 h5 => ofCode_any c _ w5 (hv.below h5) hx hz hk
  have HLe : Hid (wtC c ≤ 8388608 → (writtenT c).length ≤ 140737488355328) := fun hw => by have := written_len hf; omega
  have hmx : Tryz.prog.follows .mixedOrders = true := by kernel_rfl
  clear hE hv hx hz hk hf
  go_enter Tryz.func3, Tryz.ntmps3
  go_wp2_with fail
  refine (HWk.out _ HC0.out.b).mono ?_
  rintro e w1 ⟨rfl, hb1⟩
  have HC1 : Hid (CX w w1 w.heap.size r1 r2 r3 c.consts.length c.procs.length c.globals.length c1 c2 c3) := HC0.out.below hb1
  clear hb1 HC0 HWk
  obtain ⟨bc, hbc⟩ : ∃ bc, bc = w.heap.size := ⟨_, rfl⟩
  rw [← hbc] at HC1 ⊢
  have Hbc : Hid (bc = w.heap.size) := hbc
  clear hbc
  obtain ⟨u0, u1, u2, lu⟩ := HC1.out.at
  go_wp2_with fail
  refine (HOf.out w1 HC1.out.b).mono ?_
  rintro e w2 ⟨⟨n, rfl, hn1, hn2⟩, hb2⟩
  have HC2 : Hid (CX w w2 bc r1 r2 r3 c.consts.length c.procs.length c.globals.length c1 c2 c3) := HC1.out.below hb2
  clear hb2 HC1 HOf u0 u1 u2 lu
  obtain ⟨u0, u1, u2, lu⟩ := HC2.out.at
  by_cases hbig : 8388608 < n
  · have i1 : (8388608 : Int) < (n : Int) := by omega
    go_wp2
    go_ret
    exact ⟨rfl, HC2.out.b⟩
  have i1 : ¬ (8388608 : Int) < (n : Int) := by omega
  have hwt : wtC c ≤ 8388608 := by have := hn2 (by omega); omega
  have HWt : Hid (wtC c ≤ 8388608) := hwt
  have HLs : Hid ((c.consts.length ≤ 1000000000 ∧ c.procs.length ≤ 1000000000 ∧ c.globals.length ≤ 1000000000) ∧ ∀ p ∈ c.procs, p.code.length ≤ 1000000000) := by
    have h1 := wtT_lens c.globals
    obtain ⟨h2, h3⟩ := wtP_lens c.procs
    unfold wtC at hwt
    exact ⟨⟨by omega, by omega, by omega⟩, fun p hp => by have := h3 p hp; omega⟩
  obtain ⟨T, tg, hT⟩ := textV_is c
  have HCk : Hid (∀ w5 : World, Below w.heap.size w w5 → Calls Tryz.prog 7 #[(.agg #[.slice r1 c.consts.length c1, .slice r2 c.procs.length c2, .slice r3 c.globals.length c3])] w5 fun e w' => e = .returned (eppV (chkC c)) ∧ Below w5.heap.size w5 w') := fun w5 h5 => dCheck_any c _ w5 (HV.out w5 h5) HG.out
  have HTx : Hid (∀ w5 : World, Below w.heap.size w w5 → Calls Tryz.prog 8 #[(.agg #[.slice r1 c.consts.length c1, .slice r2 c.procs.length c2, .slice r3 c.globals.length c3])] w5 fun e w' => e = .returned (.tuple #[S T, .int .i64 tg]) ∧ Below w5.heap.size w5 w') := fun w5 h5 => by
    have := dText_any c _ w5 (HV.out w5 h5) HG.out (HLe.out HWt.out)
    rwa [hT] at this
  have HOc : Hid (∀ (vo : Value) (w5 : World), Below w.heap.size w w5 → CV w5 vo c → Calls Tryz.prog 10 #[vo] w5 fun e w' => e = .returned (eppV (chkC c)) ∧ Below w5.heap.size w5 w') := fun vo w5 h5 h6 => by
    have hen := HE.out.below h5
    exact check_any c vo w5 h6 HG.out hen.T hen.E hen.P
  have HOt : Hid (∀ (vo : Value) (w5 : World), Below w.heap.size w w5 → CV w5 vo c → Calls Tryz.prog 11 #[vo] w5 fun e w' => e = .returned (.tuple #[S T, .int .i64 tg]) ∧ Below w5.heap.size w5 w') := fun vo w5 h5 h6 => by
    have hen := HE.out.below h5
    have := text_any c vo w5 h6 HG.out hen.T hen.E hen.P hen.N hen.O hen.B (HLe.out HWt.out)
    rwa [hT] at this
  clear hbig hn1 hn2 hwt hT HLe
  generalize chkC c = r at HCk HOc
  obtain ⟨er, pr, pl⟩ := r
  unfold eppV at HCk HOc
  go_wp2_with fail
  refine (HCk.out _ HC2.out.b).mono ?_
  rintro e w3 ⟨rfl, hb3⟩
  have HC3 : Hid (CX w w3 bc r1 r2 r3 c.consts.length c.procs.length c.globals.length c1 c2 c3) := HC2.out.below hb3
  clear hb3 HC2 HCk u0 u1 u2 lu i1
  obtain ⟨u0, u1, u2, lu⟩ := HC3.out.at
  go_wp2_with fail
  refine (HTx.out _ HC3.out.b).mono ?_
  rintro e w4 ⟨rfl, hb4⟩
  have HC4 : Hid (CX w w4 bc r1 r2 r3 c.consts.length c.procs.length c.globals.length c1 c2 c3) := HC3.out.below hb4
  clear hb4 HC3 HTx u0 u1 u2 lu
  obtain ⟨u0, u1, u2, lu⟩ := HC4.out.at
  go_wp2_with fail
  refine (lentCode_any c _ w4 (HV.out w4 HC4.out.b) HLs.out.1 HLs.out.2).mono ?_
  rintro e w5 ⟨vo, rfl, hL, hb5⟩
  have HC5 := HC4.out.below hb5
  obtain ⟨B, hB⟩ : ∃ B, B = w4.heap.size := ⟨_, rfl⟩
  rw [← hB] at hL
  have HBl : Hid (w.heap.size ≤ B) := by show _ ≤ _; rw [hB]; exact HC4.out.b.size
  have hL' := hL
  obtain ⟨g1, g2, g3, vs, rfl, -⟩ := hL'
  clear hB hb5 HC4 u0 u1 u2 lu
  have hal : Below w5.heap.size w5 (w5.alloc (.cells #[.slice (some ⟨g1, 0, none⟩) c.consts.length (c.consts.length + 2), .slice (some ⟨g2, 0, none⟩) c.procs.length (c.procs.length + 1), .slice (some ⟨g3, 0, none⟩) c.globals.length (c.globals.length + 2)] 26)) := (Below.refl _ w5).alloc (Nat.le_refl _) _
  have HO0 : Hid (CX w (w5.alloc (.cells #[.slice (some ⟨g1, 0, none⟩) c.consts.length (c.consts.length + 2), .slice (some ⟨g2, 0, none⟩) c.procs.length (c.procs.length + 1), .slice (some ⟨g3, 0, none⟩) c.globals.length (c.globals.length + 2)] 26)) w5.heap.size (some ⟨g1, 0, none⟩) (some ⟨g2, 0, none⟩) (some ⟨g3, 0, none⟩) c.consts.length c.procs.length c.globals.length (c.consts.length + 2) (c.procs.length + 1) (c.globals.length + 2)) := ⟨heap_alloc_new _ _, HC5.b.trans (hal.mono HC5.b.size)⟩
  have HD0 : Hid (CX w (w5.alloc (.cells #[.slice (some ⟨g1, 0, none⟩) c.consts.length (c.consts.length + 2), .slice (some ⟨g2, 0, none⟩) c.procs.length (c.procs.length + 1), .slice (some ⟨g3, 0, none⟩) c.globals.length (c.globals.length + 2)] 26)) bc r1 r2 r3 c.consts.length c.procs.length c.globals.length c1 c2 c3) := HC5.below hal
  have HL0 : Hid (LCd (w5.alloc (.cells #[.slice (some ⟨g1, 0, none⟩) c.consts.length (c.consts.length + 2), .slice (some ⟨g2, 0, none⟩) c.procs.length (c.procs.length + 1), .slice (some ⟨g3, 0, none⟩) c.globals.length (c.globals.length + 2)] 26)) B (.agg #[.slice (some ⟨g1, 0, none⟩) c.consts.length (c.consts.length + 2), .slice (some ⟨g2, 0, none⟩) c.procs.length (c.procs.length + 1), .slice (some ⟨g3, 0, none⟩) c.globals.length (c.globals.length + 2)]) c) := hL.below hal
  clear hal HC5 hL
  go_wp2_with fail
  obtain ⟨bo, hbo⟩ : ∃ bo, bo = w5.heap.size := ⟨_, rfl⟩
  rw [← hbo] at HO0 ⊢
  clear hbo
  go_loopw [11, 12, 13, 14, 15, 16] (fun i _ _ _ _ _ wr => ∃ j : Nat, i = .int .i64 j ∧ j ≤ 2 ∧ Hid (CX w wr bo (some ⟨g1, 0, none⟩) (some ⟨g2, 0, none⟩) (some ⟨g3, 0, none⟩) c.consts.length c.procs.length c.globals.length (c.consts.length + 2) (c.procs.length + 1) (c.globals.length + 2)) ∧ Hid (CX w wr bc r1 r2 r3 c.consts.length c.procs.length c.globals.length c1 c2 c3) ∧ Hid (LCd wr B (.agg #[.slice (some ⟨g1, 0, none⟩) c.consts.length (c.consts.length + 2), .slice (some ⟨g2, 0, none⟩) c.procs.length (c.procs.length + 1), .slice (some ⟨g3, 0, none⟩) c.globals.length (c.globals.length + 2)]) c)) (fun i _ _ _ _ _ _ => 2 - (intOf i).toNat)
  case atStart => exact ⟨0, rfl, Nat.zero_le _, HO0, HD0, HL0⟩
  case round =>
    clear HO0 HD0 HL0
    obtain ⟨j, rfl, hj, HO, HD, HLd⟩ := hrel
    obtain ⟨u0, u1, u2, lu⟩ := HO.out.at
    obtain ⟨y0, y1, y2, ly⟩ := HD.out.at
    by_cases hlt : j < 2
    · have i1 : (j : Int) < 2 := by omega
      have HCo : Hid (Calls Tryz.prog 10 #[(.agg #[.slice (some ⟨g1, 0, none⟩) c.consts.length (c.consts.length + 2), .slice (some ⟨g2, 0, none⟩) c.procs.length (c.procs.length + 1), .slice (some ⟨g3, 0, none⟩) c.globals.length (c.globals.length + 2)])] wr fun e w' => e = .returned (.tuple #[.int .i64 er, .int .i64 (pr : Nat), .int .i64 (pl : Nat)]) ∧ Below wr.heap.size wr w') := HOc.out _ _ HO.out.b (HLd.out.cv (HV.out _ HO.out.b))
      go_wp2_with fail
      refine Calls.mono HCo.out ?_
      rintro e w6 ⟨rfl, hb6⟩
      have HO6 : Hid (CX w w6 bo (some ⟨g1, 0, none⟩) (some ⟨g2, 0, none⟩) (some ⟨g3, 0, none⟩) c.consts.length c.procs.length c.globals.length (c.consts.length + 2) (c.procs.length + 1) (c.globals.length + 2)) := HO.out.below hb6
      have HD6 : Hid (CX w w6 bc r1 r2 r3 c.consts.length c.procs.length c.globals.length c1 c2 c3) := HD.out.below hb6
      have HL6 : Hid (LCd w6 B (.agg #[.slice (some ⟨g1, 0, none⟩) c.consts.length (c.consts.length + 2), .slice (some ⟨g2, 0, none⟩) c.procs.length (c.procs.length + 1), .slice (some ⟨g3, 0, none⟩) c.globals.length (c.globals.length + 2)]) c) := HLd.out.below hb6
      have HCt : Hid (Calls Tryz.prog 11 #[(.agg #[.slice (some ⟨g1, 0, none⟩) c.consts.length (c.consts.length + 2), .slice (some ⟨g2, 0, none⟩) c.procs.length (c.procs.length + 1), .slice (some ⟨g3, 0, none⟩) c.globals.length (c.globals.length + 2)])] w6 fun e w' => e = .returned (.tuple #[S T, .int .i64 tg]) ∧ Below w6.heap.size w6 w') := HOt.out _ _ HO6.out.b (HL6.out.cv (HV.out _ HO6.out.b))
      clear hb6 HO HD HLd HCo u0 u1 u2 lu y0 y1 y2 ly
      obtain ⟨u0, u1, u2, lu⟩ := HO6.out.at
      go_wp2_with fail
      refine Calls.mono HCt.out ?_
      rintro e w7 ⟨rfl, hb7⟩
      have HO7 : Hid (CX w w7 bo (some ⟨g1, 0, none⟩) (some ⟨g2, 0, none⟩) (some ⟨g3, 0, none⟩) c.consts.length c.procs.length c.globals.length (c.consts.length + 2) (c.procs.length + 1) (c.globals.length + 2)) := HO6.out.below hb7
      have HD7 : Hid (CX w w7 bc r1 r2 r3 c.consts.length c.procs.length c.globals.length c1 c2 c3) := HD6.out.below hb7
      have HL7 : Hid (LCd w7 B (.agg #[.slice (some ⟨g1, 0, none⟩) c.consts.length (c.consts.length + 2), .slice (some ⟨g2, 0, none⟩) c.procs.length (c.procs.length + 1), .slice (some ⟨g3, 0, none⟩) c.globals.length (c.globals.length + 2)]) c) := HL6.out.below hb7
      clear hb7 HO6 HD6 HL6 HCt u0 u1 u2 lu
      go_wp2_with fail
      go_roundw
      case rel => exact ⟨j + 1, by go_num, by omega, HO7, HD7, HL7⟩
      case measure => simp [intOf]; omega
    · have i1 : ¬ (j : Int) < 2 := by omega
      clear HOc HOt
      go_wp2_with fail
      refine (wholeCode_any c _ _ B wr HLd.out (HV.out _ HO.out.b) HLs.out.1 HLs.out.2).mono ?_
      rintro e w6 ⟨rfl, hb6⟩
      have HO6 : Hid (CX w w6 bo (some ⟨g1, 0, none⟩) (some ⟨g2, 0, none⟩) (some ⟨g3, 0, none⟩) c.consts.length c.procs.length c.globals.length (c.consts.length + 2) (c.procs.length + 1) (c.globals.length + 2)) := HO.out.below hb6
      have HD6 : Hid (CX w w6 bc r1 r2 r3 c.consts.length c.procs.length c.globals.length c1 c2 c3) := HD.out.below hb6
      have HL6 : Hid (LCd w6 B (.agg #[.slice (some ⟨g1, 0, none⟩) c.consts.length (c.consts.length + 2), .slice (some ⟨g2, 0, none⟩) c.procs.length (c.procs.length + 1), .slice (some ⟨g3, 0, none⟩) c.globals.length (c.globals.length + 2)]) c) := HLd.out.below hb6
      clear hb6 HO HD HLd u0 u1 u2 lu y0 y1 y2 ly i1 hlt hj
      obtain ⟨u0, u1, u2, lu⟩ := HO6.out.at
      go_wp2_with fail
      have hB6 : B ≤ w6.heap.size := by
        obtain ⟨q1, q2, q3, qs, -, o1, -⟩ := HL6.out
        have := o1.lt q1 rfl
        omega
      refine (spoilCode_any c _ B w6 HL6.out hB6 HLs.out.1 HLs.out.2).mono ?_
      rintro e w7 ⟨rfl, hcv, hb7, hkd⟩
      have HO7 : Hid (CX w w7 bo (some ⟨g1, 0, none⟩) (some ⟨g2, 0, none⟩) (some ⟨g3, 0, none⟩) c.consts.length c.procs.length c.globals.length (c.consts.length + 2) (c.procs.length + 1) (c.globals.length + 2)) := ⟨hkd _ _ HO6.out.h, HO6.out.b.trans (hb7.mono HBl.out)⟩
      have HV7 : Hid (CV w7 (.agg #[.slice (some ⟨g1, 0, none⟩) c.consts.length (c.consts.length + 2), .slice (some ⟨g2, 0, none⟩) c.procs.length (c.procs.length + 1), .slice (some ⟨g3, 0, none⟩) c.globals.length (c.globals.length + 2)]) (spoC c)) := hcv
      clear hkd hcv hb7 hB6 HO6 HD6 HL6 u0 u1 u2 lu
      obtain ⟨T2, tg2, hT2⟩ := textV_is (spoC c)
      have HOc : Hid (∀ (w5 : World), Below w.heap.size w w5 → CV w5 (.agg #[.slice (some ⟨g1, 0, none⟩) c.consts.length (c.consts.length + 2), .slice (some ⟨g2, 0, none⟩) c.procs.length (c.procs.length + 1), .slice (some ⟨g3, 0, none⟩) c.globals.length (c.globals.length + 2)]) (spoC c) → Calls Tryz.prog 10 #[(.agg #[.slice (some ⟨g1, 0, none⟩) c.consts.length (c.consts.length + 2), .slice (some ⟨g2, 0, none⟩) c.procs.length (c.procs.length + 1), .slice (some ⟨g3, 0, none⟩) c.globals.length (c.globals.length + 2)])] w5 fun e w' => e = .returned (eppV (chkC (spoC c))) ∧ Below w5.heap.size w5 w') := fun w5 h5 h6 => by
        have hen := HE.out.below h5
        exact check_any (spoC c) _ w5 h6 spoC_gs hen.T hen.E hen.P
      have HOt : Hid (∀ (w5 : World), Below w.heap.size w w5 → CV w5 (.agg #[.slice (some ⟨g1, 0, none⟩) c.consts.length (c.consts.length + 2), .slice (some ⟨g2, 0, none⟩) c.procs.length (c.procs.length + 1), .slice (some ⟨g3, 0, none⟩) c.globals.length (c.globals.length + 2)]) (spoC c) → Calls Tryz.prog 11 #[(.agg #[.slice (some ⟨g1, 0, none⟩) c.consts.length (c.consts.length + 2), .slice (some ⟨g2, 0, none⟩) c.procs.length (c.procs.length + 1), .slice (some ⟨g3, 0, none⟩) c.globals.length (c.globals.length + 2)])] w5 fun e w' => e = .returned (.tuple #[S T2, .int .i64 tg2]) ∧ Below w5.heap.size w5 w') := fun w5 h5 h6 => by
        have hen := HE.out.below h5
        have := text_any (spoC c) _ w5 h6 spoC_gs hen.T hen.E hen.P hen.N hen.O hen.B (spoC_wt HWt.out)
        rwa [hT2] at this
      have HRc : Hid (∀ (w5 : World), CV w5 (.agg #[.slice (some ⟨g1, 0, none⟩) c.consts.length (c.consts.length + 2), .slice (some ⟨g2, 0, none⟩) c.procs.length (c.procs.length + 1), .slice (some ⟨g3, 0, none⟩) c.globals.length (c.globals.length + 2)]) (spoC c) → Calls Tryz.prog 7 #[(.agg #[.slice (some ⟨g1, 0, none⟩) c.consts.length (c.consts.length + 2), .slice (some ⟨g2, 0, none⟩) c.procs.length (c.procs.length + 1), .slice (some ⟨g3, 0, none⟩) c.globals.length (c.globals.length + 2)])] w5 fun e w' => e = .returned (eppV (chkC (spoC c))) ∧ Below w5.heap.size w5 w') := fun w5 h6 => dCheck_any (spoC c) _ w5 h6 spoC_gs
      have HRt : Hid (∀ (w5 : World), CV w5 (.agg #[.slice (some ⟨g1, 0, none⟩) c.consts.length (c.consts.length + 2), .slice (some ⟨g2, 0, none⟩) c.procs.length (c.procs.length + 1), .slice (some ⟨g3, 0, none⟩) c.globals.length (c.globals.length + 2)]) (spoC c) → Calls Tryz.prog 8 #[(.agg #[.slice (some ⟨g1, 0, none⟩) c.consts.length (c.consts.length + 2), .slice (some ⟨g2, 0, none⟩) c.procs.length (c.procs.length + 1), .slice (some ⟨g3, 0, none⟩) c.globals.length (c.globals.length + 2)])] w5 fun e w' => e = .returned (.tuple #[S T2, .int .i64 tg2]) ∧ Below w5.heap.size w5 w') := fun w5 h6 => by
        have := dText_any (spoC c) _ w5 h6 spoC_gs (spoC_wt HWt.out)
        rwa [hT2] at this
      clear hT2
      generalize chkC (spoC c) = r2 at HOc HRc
      obtain ⟨er2, pr2, pl2⟩ := r2
      unfold eppV at HOc HRc
      obtain ⟨u0, u1, u2, lu⟩ := HO7.out.at
      go_wp2_with fail
      refine (HOc.out _ HO7.out.b HV7.out).mono ?_
      rintro e w8 ⟨rfl, hb8⟩
      have HO8 : Hid (CX w w8 bo (some ⟨g1, 0, none⟩) (some ⟨g2, 0, none⟩) (some ⟨g3, 0, none⟩) c.consts.length c.procs.length c.globals.length (c.consts.length + 2) (c.procs.length + 1) (c.globals.length + 2)) := HO7.out.below hb8
      have HV8 : Hid (CV w8 (.agg #[.slice (some ⟨g1, 0, none⟩) c.consts.length (c.consts.length + 2), .slice (some ⟨g2, 0, none⟩) c.procs.length (c.procs.length + 1), .slice (some ⟨g3, 0, none⟩) c.globals.length (c.globals.length + 2)]) (spoC c)) := HV7.out.below hb8
      clear hb8 HO7 HV7 HOc u0 u1 u2 lu
      obtain ⟨u0, u1, u2, lu⟩ := HO8.out.at
      go_wp2_with fail
      refine (HOt.out _ HO8.out.b HV8.out).mono ?_
      rintro e w9 ⟨rfl, hb9⟩
      have HO9 : Hid (CX w w9 bo (some ⟨g1, 0, none⟩) (some ⟨g2, 0, none⟩) (some ⟨g3, 0, none⟩) c.consts.length c.procs.length c.globals.length (c.consts.length + 2) (c.procs.length + 1) (c.globals.length + 2)) := HO8.out.below hb9
      have HV9 : Hid (CV w9 (.agg #[.slice (some ⟨g1, 0, none⟩) c.consts.length (c.consts.length + 2), .slice (some ⟨g2, 0, none⟩) c.procs.length (c.procs.length + 1), .slice (some ⟨g3, 0, none⟩) c.globals.length (c.globals.length + 2)]) (spoC c)) := HV8.out.below hb9
      clear hb9 HO8 HV8 HOt u0 u1 u2 lu
      obtain ⟨u0, u1, u2, lu⟩ := HO9.out.at
      go_wp2_with fail
      refine (HRc.out _ HV9.out).mono ?_
      rintro e wa ⟨rfl, hba⟩
      have HOa : Hid (CX w wa bo (some ⟨g1, 0, none⟩) (some ⟨g2, 0, none⟩) (some ⟨g3, 0, none⟩) c.consts.length c.procs.length c.globals.length (c.consts.length + 2) (c.procs.length + 1) (c.globals.length + 2)) := HO9.out.below hba
      have HVa : Hid (CV wa (.agg #[.slice (some ⟨g1, 0, none⟩) c.consts.length (c.consts.length + 2), .slice (some ⟨g2, 0, none⟩) c.procs.length (c.procs.length + 1), .slice (some ⟨g3, 0, none⟩) c.globals.length (c.globals.length + 2)]) (spoC c)) := HV9.out.below hba
      clear hba HO9 HV9 HRc u0 u1 u2 lu
      obtain ⟨u0, u1, u2, lu⟩ := HOa.out.at
      go_wp2_with fail
      refine (HRt.out _ HVa.out).mono ?_
      rintro e wb ⟨rfl, hbb⟩
      have HOb : Hid (CX w wb bo (some ⟨g1, 0, none⟩) (some ⟨g2, 0, none⟩) (some ⟨g3, 0, none⟩) c.consts.length c.procs.length c.globals.length (c.consts.length + 2) (c.procs.length + 1) (c.globals.length + 2)) := HOa.out.below hbb
      clear hbb HOa HVa HRt u0 u1 u2 lu
      go_wp2
      go_ret
      exact ⟨rfl, HOb.out.b⟩
end Go.Proofs.YtpkohocjgnodnaaGreatDoor
