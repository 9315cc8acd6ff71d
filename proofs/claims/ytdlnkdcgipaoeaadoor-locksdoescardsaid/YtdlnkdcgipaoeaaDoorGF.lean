/- The document's book: a lock is handed on.; The document's book: a lock is handed on to somebody.; The document's book: Lock. -/
import Derived.Test.YtdlnkdcgipaoeaaDoorGE
import Derived.Test.YtdlnkdcgipaoeaaDoorHLHanded
/- The document's book: a lock is handed on. -/
namespace Go.Proofs.YtdlnkdcgipaoeaaDoor
open Go.RowKit

section
variable {w w1 : World} {r : Nat} {pt pl pg : Sl} {T : List Dt} {L : List (Sl × Dl)} {G : List Int}
theorem DX.hoL (h : DX w r pt pl pg T L G) {i gt : Nat} {x : Sl × Dl} (y : Int) (hi : L[i]? = some x) (hg : pl.ra = some ⟨gt, 0, none⟩) :
    DX (w.setCell ⟨gt, i * 2, none⟩ (.int .i64 y)) r pt pl pg T (L.set i (x.1, { x.2 with ho := y })) G ∧ Chg (Fd r pt pl pg L) (Fd r pt pl pg (L.set i (x.1, { x.2 with ho := y }))) w (w.setCell ⟨gt, i * 2, none⟩ (.int .i64 y)) :=
  h.upL (w1 := w) (x' := (x.1, { x.2 with ho := y })) hi (h.rr.r _ _ (dws_at hi)) (fun _ _ _ => rfl) (Below.refl _ _) (fun _ hg => .inl hg) (gt := gt) (by rw [Sl.blk, hg]; rfl) (fun g hne => Below.heap_setCell _ _ _ _ hne) ((Below.refl 0 w).setCell (p := ⟨gt, i * 2, none⟩) (Nat.zero_le _) _) (fun ho => by
    rw [hg] at ho ⊢
    rw [fm_set dlc_len L i 0 x (x.1, { x.2 with ho := y }) (.int .i64 y) hi (by omega) rfl]
    exact own_set ho _)
theorem DX.rowL (h : DX w r pt pl pg T L G) {i gt : Nat} {x : Sl × Dl} {s : Sl} {q : List Int} (hi : L[i]? = some x) (hR : RI w1 s q) (hk : ∀ g, g < w.heap.size → x.1.blk ≠ some g → w1.heap[g]? = w.heap[g]?) (hb : Below 0 w w1) (hq : ∀ g, s.blk = some g → x.1.blk = some g ∨ w.heap.size ≤ g) (hg : pl.ra = some ⟨gt, 0, none⟩) :
    DX (w1.setCell ⟨gt, i * 2 + 1, none⟩ (.slice s.ra q.length s.cap)) r pt pl pg T (L.set i (s, { x.2 with row := q })) G ∧ Chg (Fd r pt pl pg L) (Fd r pt pl pg (L.set i (s, { x.2 with row := q }))) w (w1.setCell ⟨gt, i * 2 + 1, none⟩ (.slice s.ra q.length s.cap)) :=
  h.upL (x' := (s, { x.2 with row := q })) hi hR hk hb hq (gt := gt) (by rw [Sl.blk, hg]; rfl) (fun g hne => Below.heap_setCell _ _ _ _ hne) ((Below.refl 0 w1).setCell (p := ⟨gt, i * 2 + 1, none⟩) (Nat.zero_le _) _) (fun ho => by
    rw [hg] at ho ⊢
    rw [fm_set dlc_len L i 1 x (s, { x.2 with row := q }) (.slice s.ra q.length s.cap) hi (by omega) rfl]
    exact own_set ho _)
theorem DX.wT (h : DX w r pt pl pg T L G) {i gt : Nat} {x : Dt} (y : Int) (hi : T[i]? = some x) (hg : pt.ra = some ⟨gt, 0, none⟩) :
    DX (w.setCell ⟨gt, i * 5, none⟩ (.int .i64 y)) r pt pl pg (T.set i { x with w := y }) L G ∧ Chg (Fd r pt pl pg L) (Fd r pt pl pg L) w (w.setCell ⟨gt, i * 5, none⟩ (.int .i64 y)) :=
  h.turnT (gt := gt) (by rw [Sl.blk, hg]; rfl) List.length_set (fun g hne => Below.heap_setCell _ _ _ _ hne) ((Below.refl 0 w).setCell (p := ⟨gt, i * 5, none⟩) (Nat.zero_le _) _) (by
    have ho := h.t
    rw [hg] at ho ⊢
    rw [fm_set dc_len T i 0 x { x with w := y } (.int .i64 y) hi (by omega) rfl]
    exact own_set ho _)
/-- Who is handed a lock waits no more. -/
def handT (T : List Dt) (y : Int) : List Dt := match T[(y - 1).toNat]? with
  | some x => T.set (y - 1).toNat { x with w := 0 }
  | none => T
set_option maxRecDepth 100000 in
set_option maxHeartbeats 8000000 in
theorem dHands_none (h : DX w r pt pl pg T L G) {j : Nat} {s : Sl} {ho : Int} (hi : L[j]? = some (s, ⟨ho, []⟩)) :
    Calls Tryd.prog 80 #[.pointer (some ⟨r, 0, none⟩), .int .i64 (j : Int)] w fun e w' => e = .returned (.int .i64 0) ∧ DX w' r pt pl pg T (L.set j (s, ⟨0, []⟩)) G ∧ Chg (Fd r pt pl pg L) (Fd r pt pl pg (L.set j (s, ⟨0, []⟩))) w w' := by
  have hlt := (List.getElem?_eq_some_iff.1 hi).1
  obtain ⟨gl, hp, -, lg, cs, hcs, hc0, hc1⟩ := h.lf hi
  have HF : Hid _ := h.hoL 0 hi hp
  have c1 := h.c1
  rw [hp] at c1
  have lb := heap_lt h.obj
  have d0 := heap_cell hcs hc0
  have f0 : w.frozen? ⟨gl, j * 2, none⟩ = false := by simp [World.frozen?, hcs]
  have hcs1 := set_atC (j := j * 2) hcs (.int .i64 0)
  have e1 : (w.setCell ⟨gl, j * 2, none⟩ (.int .i64 0)).cell? ⟨gl, j * 2 + 1, none⟩ = some (.slice s.ra 0 s.cap) := heap_cell hcs1 (by rw [Array.getElem?_setIfInBounds_ne (by omega)]; exact hc1)
  have e0 : (w.setCell ⟨gl, j * 2, none⟩ (.int .i64 0)).cell? ⟨gl, j * 2, none⟩ = some (.int .i64 0) := heap_cell hcs1 (by simp [(Array.getElem?_eq_some_iff.1 hc0).1])
  have l1 := heap_lt hcs1
  have k0 : (0 : Int) ≤ (j : Int) := by omega
  have k1 : (j : Int) < (L.length : Int) := by omega
  obtain ⟨sra, sca⟩ := s
  dsimp only at e1 d0
  clear h hcs hc0 hc1 hcs1 hp
  go_enter Tryd.func80, Tryd.ntmps80
  go_wp2
  go_ret
  exact ⟨rfl, HF.out⟩
end
end Go.Proofs.YtdlnkdcgipaoeaaDoor

/- The document's book: a lock is handed on to somebody. -/
namespace Go.Proofs.YtdlnkdcgipaoeaaDoor
open Go.RowKit

section
variable {w w1 : World} {r : Nat} {pt pl pg : Sl} {T : List Dt} {L : List (Sl × Dl)} {G : List Int}
set_option maxRecDepth 100000 in
set_option maxHeartbeats 8000000 in
theorem dHands_some (h : DX w r pt pl pg T L G) {j m : Nat} {s : Sl} {ho : Int} {q : List Int} {x : Dt} (hi : L[j]? = some (s, ⟨ho, ((m : Int) + 1) :: q⟩)) (hm : T[m]? = some x) (hl : q.length ≤ 900) :
    Calls Tryd.prog 80 #[.pointer (some ⟨r, 0, none⟩), .int .i64 (j : Int)] w fun e w' => e = .returned (.int .i64 ((m : Int) + 1)) ∧ Hid (∃ s', DX w' r pt pl pg (T.set m { x with w := 0 }) (L.set j (s', ⟨(m : Int) + 1, q⟩)) G ∧ Chg (Fd r pt pl pg L) (Fd r pt pl pg (L.set j (s', ⟨(m : Int) + 1, q⟩))) w w') := by
  have hlt := (List.getElem?_eq_some_iff.1 hi).1
  have hmt := (List.getElem?_eq_some_iff.1 hm).1
  have htn := h.tn
  obtain ⟨gl, hp, -, lg, cs, hcs, hc0, hc1⟩ := h.lf hi
  have d0 := heap_cell hcs hc0
  have f0 : w.frozen? ⟨gl, j * 2, none⟩ = false := by simp [World.frozen?, hcs]
  have c1 := h.c1
  rw [hp] at c1
  have lb := heap_lt h.obj
  obtain ⟨hX1, hC1⟩ := h.hoL 0 hi hp
  have hi1 : (L.set j (s, ({ ho := 0, row := ((m : Int) + 1) :: q } : Dl)))[j]? = some (s, ⟨0, ((m : Int) + 1) :: q⟩) := List.getElem?_set_self hlt
  obtain ⟨gl1, hp1, -, lg1, cs1, hcs1, hd0, hd1⟩ := hX1.lf hi1
  rw [hp] at hp1
  cases hp1
  have e0 := heap_cell hcs1 hd0
  have e1 := heap_cell hcs1 hd1
  have f1 : (w.setCell ⟨gl, j * 2, none⟩ (.int .i64 0)).frozen? ⟨gl, j * 2, none⟩ = false := by simp [World.frozen?, hcs1]
  obtain ⟨g, off, hra, hcap, lgg, cy, -, -⟩ := (hX1.rr.r _ _ (dws_at hi1)).cons
  obtain ⟨hX2, hC2⟩ := hX1.hoL ((m : Int) + 1) hi1 hp
  rw [List.set_set] at hX2 hC2
  have hi2 : (L.set j (s, ({ ho := (m : Int) + 1, row := ((m : Int) + 1) :: q } : Dl)))[j]? = some (s, ⟨(m : Int) + 1, ((m : Int) + 1) :: q⟩) := List.getElem?_set_self hlt
  obtain ⟨gl2, hp2, -, lg2, cs2, hcs2, hg0, hg1⟩ := hX2.lf hi2
  rw [hp] at hp2
  cases hp2
  have k1 := heap_cell hcs2 hg1
  have l2 := heap_lt hcs2
  obtain ⟨s2, w3, hap, q1, q2, q3, q4⟩ := (hX2.rr.r _ _ (dws_at hi2)).rest.copy (by omega)
  obtain ⟨hX4, hC4⟩ := hX2.rowL (w1 := w3) hi2 q1 (fun g hg _ => q2 g hg) q3 (fun g hg => .inr (q4 g hg)) hp
  rw [List.set_set] at hX4 hC4
  dsimp only at hX4 hC4 hra hcap
  have hcs3 := (q2 gl l2).trans hcs2
  have m1 := heap_cell hcs3 hg1
  have f3 : w3.frozen? ⟨gl, j * 2 + 1, none⟩ = false := by simp [World.frozen?, hcs3]
  have l3 := heap_lt hcs3
  have hi4 : (L.set j (s2, ({ ho := (m : Int) + 1, row := q } : Dl)))[j]? = some (s2, ⟨(m : Int) + 1, q⟩) := List.getElem?_set_self hlt
  obtain ⟨gl4, hp4, -, lg4, cs4, hcs4, hn0, -⟩ := hX4.lf hi4
  rw [hp] at hp4
  cases hp4
  have n0 := heap_cell hcs4 hn0
  obtain ⟨gt, hpt, -, lgt, ct, hct, ht0, -⟩ := hX4.tf hm
  have c0 := hX4.c0
  rw [hpt] at c0
  have lb4 := heap_lt hX4.obj
  have t0 := heap_cell hct ht0
  have ft : (w3.setCell ⟨gl, j * 2 + 1, none⟩ (.slice s2.ra q.length s2.cap)).frozen? ⟨gt, m * 5, none⟩ = false := by simp [World.frozen?, hct]
  obtain ⟨hX5, hC5⟩ := hX4.wT 0 hm hpt
  have hcs5 : ((w3.setCell ⟨gl, j * 2 + 1, none⟩ (.slice s2.ra q.length s2.cap)).setCell ⟨gt, m * 5, none⟩ (.int .i64 0)).heap[gl]? = some (.cells cs4 142 (0, 0)) := (Below.heap_setCell _ _ _ _ (ty_ne hcs4 hct (by decide))).trans hcs4
  have n5 := heap_cell hcs5 hn0
  have l5 := heap_lt hcs5
  have HF : Hid (∀ W, Below ((w3.setCell ⟨gl, j * 2 + 1, none⟩ (.slice s2.ra q.length s2.cap)).setCell ⟨gt, m * 5, none⟩ (.int .i64 0)).heap.size ((w3.setCell ⟨gl, j * 2 + 1, none⟩ (.slice s2.ra q.length s2.cap)).setCell ⟨gt, m * 5, none⟩ (.int .i64 0)) W → ∃ s', DX W r pt pl pg (T.set m { x with w := 0 }) (L.set j (s', ⟨(m : Int) + 1, q⟩)) G ∧ Chg (Fd r pt pl pg L) (Fd r pt pl pg (L.set j (s', ⟨(m : Int) + 1, q⟩))) w W) := fun W hW => ⟨s2, hX5.below hW, (((hC1.trans hC2).trans hC4).trans hC5).trans (Chg.quiet _ hW)⟩
  have z0 : (0 : Int) ≤ (j : Int) := by omega
  have z1 : (j : Int) < (L.length : Int) := by omega
  have z2 : (0 : Int) ≤ (m : Int) := by omega
  have z3 : (m : Int) < (T.length : Int) := by omega
  have hw : IntKind.i64.wrap ((m : Int) + 1 - 1) = (m : Int) := by
    rw [show (m : Int) + 1 - 1 = m by omega]
    exact IntWalk.i64_in _ (by omega)
  obtain ⟨sra, sca⟩ := s
  obtain ⟨ra2, ca2⟩ := s2
  dsimp only at hra hcap
  subst hra
  dsimp only at e1 k1 m1 hap d0 e0 n0 n5 t0
  rw [show (((m : Int) + 1) :: q).length = q.length + 1 from rfl] at e1 k1 m1
  clear h hX1 hX2 hX4 hX5 hC1 hC2 hC4 hC5 hcs hc0 hc1 hcs1 hd0 hd1 hcs2 hg0 hg1 hcs3 hcs4 hn0 hct ht0 hcs5 q1 q2 q3 q4 hi hi1 hi2 hi4 hm hp hpt
  generalize hln : q.length = ln at *
  have k4 : (ln : Int) + 1 > 0 := by omega
  have k5 : (1 : Int) ≤ (ln : Int) + 1 := by omega
  by_cases hca : sca = 1
  · subst hca
    have h0 : ln = 0 := by omega
    subst h0
    unfold Sl.rest at hap
    rw [if_pos rfl] at hap
    dsimp only at hap
    go_enter Tryd.func80, Tryd.ntmps80
    go_wp2_with (at_builtin; refine stop_of ?_)
    unfold Hid
    refine wpList_append_known _ rfl _ _ 62 62 rfl _ _ rfl rfl (hap _) ?_
    clear hap
    go_upto_region 8 with fail
    go_region
    all_goals
      go_wp2
      go_ret
      exact ⟨rfl, HF.out _ (Below.refl _ _).drew⟩
  · unfold Sl.rest at hap
    rw [if_neg hca] at hap
    dsimp only [Option.map_some] at hap
    have k6 : ¬ sca - 1 = 0 := by omega
    have k7 : (ln : Int) + 1 ≤ (sca : Int) := by omega
    go_enter Tryd.func80, Tryd.ntmps80
    go_wp2_with (at_builtin; refine stop_of ?_)
    unfold Hid
    refine wpList_append_known _ rfl _ _ 62 62 rfl _ _ rfl rfl (hap _) ?_
    clear hap
    go_upto_region 8 with fail
    go_region
    all_goals
      go_wp2
      go_ret
      exact ⟨rfl, HF.out _ (Below.refl _ _).drew⟩
end
end Go.Proofs.YtdlnkdcgipaoeaaDoor

/- The document's book: Lock. -/
namespace Go.Proofs.YtdlnkdcgipaoeaaDoor
open Go.RowKit

def dlockM (D : Dk) (t k : Int) : (Bool × Int) × Dk :=
  if isB D.t.length t = false ∨ isL D.l.length k = false then ((false, 190), D) else
  match D.t[(t - 1).toNat]?, D.l[k.toNat]? with
  | some x, some y => if (!x.en && x.w == 0) = false then ((false, 192), D) else if y.ho = t then ((false, 191), D) else if y.ho = 0 then ((true, 0), { D with l := D.l.set k.toNat { y with ho := t } }) else ((false, 0), { D with t := D.t.set (t - 1).toNat ⟨2, k, false, 0, 0⟩, l := D.l.set k.toNat { y with row := y.row ++ [t] } })
  | _, _ => ((false, 190), D)
def DR2 (r : Nat) (D' : Dk) (F : Nat → Prop) (w w' : World) : Prop := ∃ F', DB w' r D' F' ∧ Chg F F' w w'
theorem DB.dr {w w' : World} {r : Nat} {D : Dk} {F : Nat → Prop} (h : DB w r D F) (hb : Below w.heap.size w w') : DR2 r D F w w' := ⟨F, h.below hb, Chg.quiet F hb⟩
theorem dr_of {w w' : World} {r : Nat} {pt pl pg pt' pl' pg' : Sl} {T' : List Dt} {L L' : List (Sl × Dl)} {G' : List Int} (h : DX w' r pt' pl' pg' T' L' G') (hc : Chg (Fd r pt pl pg L) (Fd r pt' pl' pg' L') w w') : DR2 r ⟨T', L'.map (·.2), G'⟩ (Fd r pt pl pg L) w w' := ⟨_, ⟨pt', pl', pg', L', h, rfl, rfl⟩, hc⟩
section
variable {w : World} {r : Nat} {pt pl pg : Sl} {T : List Dt} {L : List (Sl × Dl)} {G : List Int}
/-- A thread is another, whole. -/
theorem DX.allT (h : DX w r pt pl pg T L G) {i gt : Nat} {x : Dt} (a b : Int) (c : Bool) (d e : Int) (hi : T[i]? = some x) (hg : pt.ra = some ⟨gt, 0, none⟩) :
    DX (((((w.setCell ⟨gt, i * 5, none⟩ (.int .i64 a)).setCell ⟨gt, i * 5 + 1, none⟩ (.int .i64 b)).setCell ⟨gt, i * 5 + 2, none⟩ (.bool c)).setCell ⟨gt, i * 5 + 3, none⟩ (.int .u64 d)).setCell ⟨gt, i * 5 + 4, none⟩ (.int .i64 e)) r pt pl pg (T.set i ⟨a, b, c, d, e⟩) L G ∧ Chg (Fd r pt pl pg L) (Fd r pt pl pg L) w (((((w.setCell ⟨gt, i * 5, none⟩ (.int .i64 a)).setCell ⟨gt, i * 5 + 1, none⟩ (.int .i64 b)).setCell ⟨gt, i * 5 + 2, none⟩ (.bool c)).setCell ⟨gt, i * 5 + 3, none⟩ (.int .u64 d)).setCell ⟨gt, i * 5 + 4, none⟩ (.int .i64 e)) := by
  have hlt := (List.getElem?_eq_some_iff.1 hi).1
  refine h.turnT (gt := gt) (by rw [Sl.blk, hg]; rfl) List.length_set (fun g hne => by rw [Below.heap_setCell _ _ _ _ hne, Below.heap_setCell _ _ _ _ hne, Below.heap_setCell _ _ _ _ hne, Below.heap_setCell _ _ _ _ hne, Below.heap_setCell _ _ _ _ hne]) ((((((Below.refl 0 w).setCell (p := ⟨gt, i * 5, none⟩) (Nat.zero_le _) _).setCell (p := ⟨gt, i * 5 + 1, none⟩) (Nat.zero_le _) _).setCell (p := ⟨gt, i * 5 + 2, none⟩) (Nat.zero_le _) _).setCell (p := ⟨gt, i * 5 + 3, none⟩) (Nat.zero_le _) _).setCell (p := ⟨gt, i * 5 + 4, none⟩) (Nat.zero_le _) _) ?_
  have ho := h.t
  rw [hg] at ho ⊢
  have e1 := fm_set dc_len T i 0 x { x with w := a } (.int .i64 a) hi (by omega) rfl
  have g1 : (T.set i { x with w := a })[i]? = some { x with w := a } := List.getElem?_set_self hlt
  have e2 := fm_set dc_len _ i 1 _ { x with w := a, f := b } (.int .i64 b) g1 (by omega) rfl
  rw [List.set_set] at e2
  have g2 : (T.set i { x with w := a, f := b })[i]? = some { x with w := a, f := b } := List.getElem?_set_self hlt
  have e3 := fm_set dc_len _ i 2 _ { x with w := a, f := b, en := c } (.bool c) g2 (by omega) rfl
  rw [List.set_set] at e3
  have g3 : (T.set i { x with w := a, f := b, en := c })[i]? = some { x with w := a, f := b, en := c } := List.getElem?_set_self hlt
  have e4 := fm_set dc_len _ i 3 _ { x with w := a, f := b, en := c, wd := d } (.int .u64 d) g3 (by omega) rfl
  rw [List.set_set] at e4
  have g4 : (T.set i { x with w := a, f := b, en := c, wd := d })[i]? = some { x with w := a, f := b, en := c, wd := d } := List.getElem?_set_self hlt
  have e5 := fm_set dc_len _ i 4 _ ⟨a, b, c, d, e⟩ (.int .i64 e) g4 (by omega) rfl
  rw [List.set_set] at e5
  rw [e5, e4, e3, e2, e1]
  exact own_set (own_set (own_set (own_set (own_set ho _) _) _) _) _
end
end Go.Proofs.YtdlnkdcgipaoeaaDoor
