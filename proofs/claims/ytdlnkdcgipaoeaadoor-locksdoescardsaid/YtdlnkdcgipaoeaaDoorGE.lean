/- The document's book: as mathematics, and how it lies in memory.; The document's book: is there such a thread, does it go.; What the document's book tells. -/
import Derived.Test.YtdlnkdcgipaoeaaDoorGD
/- The document's book: as mathematics, and how it lies in memory. -/
namespace Go.Proofs.YtdlnkdcgipaoeaaDoor
open Go.RowKit

/-- A thread: what it waits for (0 nothing, 1 a thread's end, 2 a lock), which; how it has ended. -/
structure Dt where
  w : Int
  f : Int
  en : Bool
  wd : Int
  er : Int
structure Dl where
  ho : Int
  row : List Int
structure Dk where
  t : List Dt
  l : List Dl
  g : List Int
def dc (x : Dt) : List Value := [.int .i64 x.w, .int .i64 x.f, .bool x.en, .int .u64 x.wd, .int .i64 x.er]
def dlc (x : Sl × Dl) : List Value := [.int .i64 x.2.ho, .slice x.1.ra x.2.row.length x.1.cap]
theorem dc_len (x : Dt) : (dc x).length = 5 := rfl
theorem dlc_len (x : Sl × Dl) : (dlc x).length = 2 := rfl
def dws (L : List (Sl × Dl)) : List (Sl × List Int) := L.map (fun x => (x.1, x.2.row))
theorem dws_at {L : List (Sl × Dl)} {i : Nat} {x : Sl × Dl} (h : L[i]? = some x) : (dws L)[i]? = some (x.1, x.2.row) := by
  rw [dws, List.getElem?_map, h]
  rfl
theorem dws_set {L : List (Sl × Dl)} {i : Nat} (x : Sl × Dl) : dws (L.set i x) = (dws L).set i (x.1, x.2.row) := by
  rw [dws, dws, List.map_set]
structure DX (w : World) (r : Nat) (pt pl pg : Sl) (T : List Dt) (L : List (Sl × Dl)) (G : List Int) : Prop where
  obj : w.heap[r]? = some (.cells #[.slice pt.ra T.length pt.cap, .slice pl.ra L.length pl.cap, .slice pg.ra G.length pg.cap] 100 (0, 0))
  t : w.ownsRow 0 140 5 (.slice pt.ra T.length pt.cap) T.length (T.flatMap dc)
  l : w.ownsRow 0 142 2 (.slice pl.ra L.length pl.cap) L.length (L.flatMap dlc)
  g : w.ownsRow 0 56 1 (.slice pg.ra G.length pg.cap) G.length (G.map (Value.int .u64))
  rr : RR w (dws L)
  tn : T.length ≤ 8
  ln : L.length ≤ 8
  gn : G.length ≤ 64
/-- The blocks that it has. -/
def Fd (r : Nat) (pt pl pg : Sl) (L : List (Sl × Dl)) (g : Nat) : Prop := (g = r ∨ pt.blk = some g ∨ pl.blk = some g ∨ pg.blk = some g) ∨ ∃ p ∈ dws L, p.1.blk = some g
section
variable {w w1 w' : World} {r : Nat} {pt pl pg : Sl} {T : List Dt} {L : List (Sl × Dl)} {G : List Int}
theorem DX.tb (h : DX w r pt pl pg T L G) {g : Nat} (hg : pt.blk = some g) : ∃ cs, w.heap[g]? = some (.cells cs 140 (0, 0)) := own_blk h.t (by rw [ob_eq]; exact hg)
theorem DX.lb (h : DX w r pt pl pg T L G) {g : Nat} (hg : pl.blk = some g) : ∃ cs, w.heap[g]? = some (.cells cs 142 (0, 0)) := own_blk h.l (by rw [ob_eq]; exact hg)
theorem DX.gb (h : DX w r pt pl pg T L G) {g : Nat} (hg : pg.blk = some g) : ∃ cs, w.heap[g]? = some (.cells cs 56 (0, 0)) := own_blk h.g (by rw [ob_eq]; exact hg)
theorem DX.rb (h : DX w r pt pl pg T L G) {g : Nat} (hg : ∃ p ∈ dws L, p.1.blk = some g) : ∃ cs, w.heap[g]? = some (.cells cs 3 (0, 0)) := by
  obtain ⟨p, hp, hg⟩ := hg
  obtain ⟨i, hi⟩ := List.getElem?_of_mem hp
  exact (h.rr.r i p hi).bt hg
theorem DX.lt (h : DX w r pt pl pg T L G) {g : Nat} (hg : Fd r pt pl pg L g) : g < w.heap.size := by
  rcases hg with (rfl | hg | hg | hg) | hg
  · exact heap_lt h.obj
  · obtain ⟨_, h'⟩ := h.tb hg; exact heap_lt h'
  · obtain ⟨_, h'⟩ := h.lb hg; exact heap_lt h'
  · obtain ⟨_, h'⟩ := h.gb hg; exact heap_lt h'
  · exact h.rr.lt hg
theorem DX.kept (h : DX w r pt pl pg T L G) (hk : ∀ g, Fd r pt pl pg L g → w'.heap[g]? = w.heap[g]?) : DX w' r pt pl pg T L G :=
  ⟨(hk r (.inl (.inl rfl))).trans h.obj, own_same h.t (fun g hg => hk g (.inl (.inr (.inl (by rw [← ob_eq]; exact hg))))), own_same h.l (fun g hg => hk g (.inl (.inr (.inr (.inl (by rw [← ob_eq]; exact hg)))))), own_same h.g (fun g hg => hk g (.inl (.inr (.inr (.inr (by rw [← ob_eq]; exact hg)))))), h.rr.kept (fun g hg => hk g (.inr hg)), h.tn, h.ln, h.gn⟩
theorem DX.below (h : DX w r pt pl pg T L G) (hb : Below w.heap.size w w') : DX w' r pt pl pg T L G := h.kept (fun g hg => hb.block g (h.lt hg))
/-- The threads' row is turned, nothing else. -/
theorem DX.turnT (h : DX w r pt pl pg T L G) {gt : Nat} {T' : List Dt} (hg : pt.blk = some gt) (hl : T'.length = T.length) (hk : ∀ g, g ≠ gt → w'.heap[g]? = w.heap[g]?) (hb : Below 0 w w') (ho : w'.ownsRow 0 140 5 (.slice pt.ra T.length pt.cap) T.length (T'.flatMap dc)) :
    DX w' r pt pl pg T' L G ∧ Chg (Fd r pt pl pg L) (Fd r pt pl pg L) w w' := by
  obtain ⟨ct, htb⟩ := h.tb hg
  refine ⟨⟨?_, by rw [hl]; exact ho, ?_, ?_, ?_, by rw [hl]; exact h.tn, h.ln, h.gn⟩, fun g h1 h2 => hk g (fun e => h2 (.inl (.inr (.inl (by rw [e]; exact hg))))), hb, fun g hg => .inl hg⟩
  · rw [hl]
    refine (hk r (fun e => ?_)).trans h.obj
    have := h.obj
    rw [e, htb] at this
    cases this
  · refine own_same h.l (fun g hg' => hk g ?_)
    obtain ⟨c2, h2⟩ := own_blk h.l hg'
    exact ty_ne h2 htb (by decide)
  · refine own_same h.g (fun g hg' => hk g ?_)
    obtain ⟨c2, h2⟩ := own_blk h.g hg'
    exact ty_ne h2 htb (by decide)
  · refine h.rr.kept (fun g hr => hk g ?_)
    obtain ⟨c2, h2⟩ := h.rb hr
    exact ty_ne h2 htb (by decide)
/-- One lock is another. -/
theorem DX.upL (h : DX w r pt pl pg T L G) {i gt : Nat} {x x' : Sl × Dl} (hi : L[i]? = some x) (hR : RI w1 x'.1 x'.2.row) (hk : ∀ g, g < w.heap.size → x.1.blk ≠ some g → w1.heap[g]? = w.heap[g]?) (hb : Below 0 w w1) (hq : ∀ g, x'.1.blk = some g → x.1.blk = some g ∨ w.heap.size ≤ g) (hg : pl.blk = some gt) (hk' : ∀ g, g ≠ gt → w'.heap[g]? = w1.heap[g]?) (hb' : Below 0 w1 w')
    (ho : w1.ownsRow 0 142 2 (.slice pl.ra L.length pl.cap) L.length (L.flatMap dlc) → w'.ownsRow 0 142 2 (.slice pl.ra L.length pl.cap) L.length ((L.set i x').flatMap dlc)) :
    DX w' r pt pl pg T (L.set i x') G ∧ Chg (Fd r pt pl pg L) (Fd r pt pl pg (L.set i x')) w w' := by
  have hri := dws_at hi
  obtain ⟨ct, htb⟩ := h.lb hg
  have rne : ∀ g, (∃ p ∈ dws L, p.1.blk = some g) → g ≠ gt := fun g hr => by
    obtain ⟨c2, h2⟩ := h.rb hr
    exact ty_ne h2 htb (by decide)
  have xne : ∀ g cs t, w.heap[g]? = some (.cells cs t (0, 0)) → t ≠ 3 → x.1.blk ≠ some g := fun g cs t hgt hn e => by
    obtain ⟨c2, h2⟩ := (h.rr.r _ _ hri).bt e
    rw [hgt] at h2
    cases h2
    exact hn rfl
  have tot : ∀ g, g < w.heap.size → x.1.blk ≠ some g → g ≠ gt → w'.heap[g]? = w.heap[g]? := fun g h1 h2 h3 => (hk' g h3).trans (hk g h1 h2)
  have e1 : (L.set i x').length = L.length := List.length_set
  have hob : gt ≠ r := fun e => by
    subst e
    have := h.obj
    rw [htb] at this
    cases this
  have RIb : ∀ g, x'.1.blk = some g → g ≠ gt := fun g hg' => by
    rcases hq g hg' with hq | hq
    · exact rne g ⟨_, List.mem_of_getElem? hri, hq⟩
    · have := heap_lt htb
      omega
  refine ⟨⟨?_, ?_, ?_, ?_, ?_, h.tn, by rw [e1]; exact h.ln, h.gn⟩, fun g h1 h2 => tot g h1 (fun e => h2 (.inr ⟨_, List.mem_of_getElem? hri, e⟩)) (fun e => h2 (.inl (.inr (.inr (.inl (by rw [e]; exact hg)))))), hb.trans hb', fun g hg' => ?_⟩
  · rw [e1]
    exact (tot r (heap_lt h.obj) (xne r _ _ h.obj (by decide)) (fun e => hob e.symm)).trans h.obj
  · refine own_same h.t (fun g hg' => ?_)
    obtain ⟨c2, h2⟩ := own_blk h.t hg'
    exact tot g (heap_lt h2) (xne g _ _ h2 (by decide)) (ty_ne h2 htb (by decide))
  · rw [e1]
    refine ho (own_same h.l (fun g hg' => ?_))
    rw [ob_eq, hg] at hg'
    cases hg'
    exact hk gt (heap_lt htb) (xne gt _ _ htb (by decide))
  · refine own_same h.g (fun g hg' => ?_)
    obtain ⟨c2, h2⟩ := own_blk h.g hg'
    exact tot g (heap_lt h2) (xne g _ _ h2 (by decide)) (ty_ne h2 htb (by decide))
  · rw [dws_set]
    exact h.rr.setG (q := (x'.1, x'.2.row)) hri (hR.kept (fun g hg' => hk' g (RIb g hg'))) (fun g h1 h2 h3 => tot g h1 h2 (rne g h3)) hq
  · rcases hg' with hg' | ⟨p, hp, hg'⟩
    · exact .inl (.inl hg')
    · rw [dws_set] at hp
      rcases List.mem_or_eq_of_mem_set hp with hp | rfl
      · exact .inl (.inr ⟨p, hp, hg'⟩)
      · rcases hq g hg' with hq | hq
        · exact .inl (.inr ⟨_, List.mem_of_getElem? hri, hq⟩)
        · exact .inr hq
end
def DB (w : World) (r : Nat) (D : Dk) (F : Nat → Prop) : Prop := ∃ pt pl pg L, DX w r pt pl pg D.t L D.g ∧ L.map (·.2) = D.l ∧ F = Fd r pt pl pg L
theorem DB.kept {w w' : World} {r : Nat} {D : Dk} {F : Nat → Prop} (h : DB w r D F) (hk : ∀ g, F g → w'.heap[g]? = w.heap[g]?) : DB w' r D F := by
  obtain ⟨pt, pl, pg, L, hX, h2, rfl⟩ := h
  exact ⟨pt, pl, pg, L, hX.kept hk, h2, rfl⟩
theorem DB.lt {w : World} {r : Nat} {D : Dk} {F : Nat → Prop} (h : DB w r D F) {g : Nat} (hg : F g) : g < w.heap.size := by
  obtain ⟨pt, pl, pg, L, hX, h2, rfl⟩ := h
  exact hX.lt hg
theorem DB.below {w w' : World} {r : Nat} {D : Dk} {F : Nat → Prop} (h : DB w r D F) (hb : Below w.heap.size w w') : DB w' r D F := h.kept (fun g hg => hb.block g (h.lt hg))
end Go.Proofs.YtdlnkdcgipaoeaaDoor

/- The document's book: is there such a thread, does it go. -/
namespace Go.Proofs.YtdlnkdcgipaoeaaDoor
open Go.RowKit

section
variable {w : World} {r : Nat} {pt pl pg : Sl} {T : List Dt} {L : List (Sl × Dl)} {G : List Int}
theorem DX.c0 (h : DX w r pt pl pg T L G) : w.cell? ⟨r, 0, none⟩ = some (.slice pt.ra T.length pt.cap) := heap_cell h.obj rfl
theorem DX.c1 (h : DX w r pt pl pg T L G) : w.cell? ⟨r, 1, none⟩ = some (.slice pl.ra L.length pl.cap) := heap_cell h.obj rfl
theorem DX.c2 (h : DX w r pt pl pg T L G) : w.cell? ⟨r, 2, none⟩ = some (.slice pg.ra G.length pg.cap) := heap_cell h.obj rfl
theorem DX.tf (h : DX w r pt pl pg T L G) {i : Nat} {x : Dt} (hi : T[i]? = some x) : ∃ gt, pt.ra = some ⟨gt, 0, none⟩ ∧ pt.blk = some gt ∧ gt < w.heap.size ∧ ∃ cs, w.heap[gt]? = some (.cells cs 140 (0, 0)) ∧ cs[i * 5]? = some (.int .i64 x.w) ∧ cs[i * 5 + 1]? = some (.int .i64 x.f) ∧ cs[i * 5 + 2]? = some (.bool x.en) ∧ cs[i * 5 + 3]? = some (.int .u64 x.wd) ∧ cs[i * 5 + 4]? = some (.int .i64 x.er) := by
  have hlt := (List.getElem?_eq_some_iff.1 hi).1
  obtain ⟨g, c, hv, -, -⟩ := World.ownsRow.form h.t (by omega)
  have e : pt.ra = some ⟨g, 0, none⟩ := (Value.slice.inj hv).1
  have ht := h.t
  rw [e] at ht
  obtain ⟨cs, h1, _, _, _, _, _, h2⟩ := own_out ht
  refine ⟨g, e, by rw [Sl.blk, e]; rfl, heap_lt h1, cs, h1, h2 _ _ ?_, h2 _ _ ?_, h2 _ _ ?_, h2 _ _ ?_, h2 _ _ ?_⟩
  · exact fm_at dc_len T i 0 x hi (by omega)
  · exact fm_at dc_len T i 1 x hi (by omega)
  · exact fm_at dc_len T i 2 x hi (by omega)
  · exact fm_at dc_len T i 3 x hi (by omega)
  · exact fm_at dc_len T i 4 x hi (by omega)
theorem DX.lf (h : DX w r pt pl pg T L G) {i : Nat} {x : Sl × Dl} (hi : L[i]? = some x) : ∃ gt, pl.ra = some ⟨gt, 0, none⟩ ∧ pl.blk = some gt ∧ gt < w.heap.size ∧ ∃ cs, w.heap[gt]? = some (.cells cs 142 (0, 0)) ∧ cs[i * 2]? = some (.int .i64 x.2.ho) ∧ cs[i * 2 + 1]? = some (.slice x.1.ra x.2.row.length x.1.cap) := by
  have hlt := (List.getElem?_eq_some_iff.1 hi).1
  obtain ⟨g, c, hv, -, -⟩ := World.ownsRow.form h.l (by omega)
  have e : pl.ra = some ⟨g, 0, none⟩ := (Value.slice.inj hv).1
  have ht := h.l
  rw [e] at ht
  obtain ⟨cs, h1, _, _, _, _, _, h2⟩ := own_out ht
  refine ⟨g, e, by rw [Sl.blk, e]; rfl, heap_lt h1, cs, h1, h2 _ _ ?_, h2 _ _ ?_⟩
  · exact fm_at dlc_len L i 0 x hi (by omega)
  · exact fm_at dlc_len L i 1 x hi (by omega)
set_option maxRecDepth 100000 in
set_option maxHeartbeats 4000000 in
theorem dIs_any (h : DX w r pt pl pg T L G) (x : Int) :
    Calls Tryd.prog 78 #[.pointer (some ⟨r, 0, none⟩), .int .i64 x] w fun e w' => e = .returned (.bool (isB T.length x)) ∧ w' = w := by
  have c0 := h.c0
  have lb := heap_lt h.obj
  clear h
  unfold isB
  generalize T.length = n at *
  by_cases h1 : 1 ≤ x
  · rw [show decide (1 ≤ x) = true from decide_eq_true h1]
    by_cases h2 : x ≤ n
    · rw [show decide (x ≤ (n : Int)) = true from decide_eq_true h2]
      go_enter Tryd.func78, Tryd.ntmps78
      go_wp2
      go_ret
      exact ⟨rfl, rfl⟩
    · rw [show decide (x ≤ (n : Int)) = false from decide_eq_false h2]
      go_enter Tryd.func78, Tryd.ntmps78
      go_wp2
      go_ret
      exact ⟨rfl, rfl⟩
  · rw [show decide (1 ≤ x) = false from decide_eq_false h1]
    go_enter Tryd.func78, Tryd.ntmps78
    go_wp2
    go_ret
    exact ⟨rfl, rfl⟩
set_option maxRecDepth 100000 in
set_option maxHeartbeats 4000000 in
theorem dGoes_any (h : DX w r pt pl pg T L G) {i : Nat} {x : Dt} (hi : T[i]? = some x) :
    Calls Tryd.prog 79 #[.pointer (some ⟨r, 0, none⟩), .int .i64 ((i : Int) + 1)] w fun e w' => e = .returned (.bool (!x.en && x.w == 0)) ∧ w' = w := by
  have c0 := h.c0
  have lb := heap_lt h.obj
  have hn := h.tn
  have hlt := (List.getElem?_eq_some_iff.1 hi).1
  obtain ⟨gt, hp, -, lg, cs, hcs, hc0, -, hc2, -⟩ := h.tf hi
  have d0 := heap_cell hcs hc0
  have d2 := heap_cell hcs hc2
  rw [hp] at c0
  have hw : IntKind.i64.wrap ((i : Int) + 1 - 1) = (i : Int) := by
    rw [show (i : Int) + 1 - 1 = i by omega]
    exact IntWalk.i64_in _ (by omega)
  have k1 : (0 : Int) ≤ (i : Int) := by omega
  have k2 : (i : Int) < (T.length : Int) := by omega
  generalize T.length = n at *
  obtain ⟨xw, xf, xen, xwd, xer⟩ := x
  dsimp only at d0 d2 ⊢
  clear h hi hcs hc0 hc2 hp
  cases xen
  · go_enter Tryd.func79, Tryd.ntmps79
    go_wp2
    go_ret
    exact ⟨ret_bool (by simp), rfl⟩
  · go_enter Tryd.func79, Tryd.ntmps79
    go_wp2
    go_ret
    exact ⟨rfl, rfl⟩
end
end Go.Proofs.YtdlnkdcgipaoeaaDoor

/- What the document's book tells. -/
namespace Go.Proofs.YtdlnkdcgipaoeaaDoor
open Go.RowKit

section
variable {w : World} {r : Nat} {pt pl pg : Sl} {T : List Dt} {L : List (Sl × Dl)} {G : List Int}
def dhoX (L : List (Sl × Dl)) (x : Int) : Int := if isL L.length x = true then (match L[x.toNat]? with
  | some l => l.2.ho
  | none => 0) else 0
set_option maxRecDepth 100000 in
set_option maxHeartbeats 4000000 in
theorem dHolder_any (h : DX w r pt pl pg T L G) (x : Int) :
    Calls Tryd.prog 43 #[.pointer (some ⟨r, 0, none⟩), .int .i64 x] w fun e w' => e = .returned (.int .i64 (dhoX L x)) ∧ w' = w := by
  have c1 := h.c1
  have lb := heap_lt h.obj
  cases hB : isL L.length x
  · have HE : dhoX L x = 0 := by unfold dhoX; rw [hB]; rfl
    rw [HE]
    have hB' := hB
    simp [isL] at hB'
    clear h HE hB
    by_cases h0 : x < 0
    · go_enter Tryd.func43, Tryd.ntmps43
      go_wp2
      go_ret
      exact ⟨rfl, rfl⟩
    · have h1 : (L.length : Int) ≤ x := hB' (by omega)
      go_enter Tryd.func43, Tryd.ntmps43
      go_wp2
      go_ret
      exact ⟨rfl, rfl⟩
  · obtain ⟨i, rfl, hi⟩ := isL_at hB
    obtain ⟨y, hy⟩ : ∃ y, L[i]? = some y := ⟨_, List.getElem?_eq_getElem hi⟩
    obtain ⟨gl, hp, -, lg, cs, hcs, hc0, -⟩ := h.lf hy
    have d1 := heap_cell hcs hc0
    have HE : dhoX L (i : Int) = y.2.ho := by
      unfold dhoX
      rw [hB, if_pos rfl, Int.toNat_natCast, hy]
    rw [HE]
    rw [hp] at c1
    have k0 : ¬ (i : Int) < 0 := by omega
    have k1 : (0 : Int) ≤ (i : Int) := by omega
    have k2 : (i : Int) < (L.length : Int) := by omega
    have k3 : ¬ (L.length : Int) ≤ (i : Int) := by omega
    generalize y.2.ho = ho at d1 ⊢
    clear h HE hB hcs hc0 hp
    go_enter Tryd.func43, Tryd.ntmps43
    go_wp2
    go_ret
    exact ⟨rfl, rfl⟩
theorem DX.gf (h : DX w r pt pl pg T L G) {i : Nat} {x : Int} (hi : G[i]? = some x) : ∃ gt, pg.ra = some ⟨gt, 0, none⟩ ∧ pg.blk = some gt ∧ gt < w.heap.size ∧ ∃ cs, w.heap[gt]? = some (.cells cs 56 (0, 0)) ∧ cs[i]? = some (.int .u64 x) := by
  have hlt := (List.getElem?_eq_some_iff.1 hi).1
  obtain ⟨g, c, hv, -, -⟩ := World.ownsRow.form h.g (by omega)
  have e : pg.ra = some ⟨g, 0, none⟩ := (Value.slice.inj hv).1
  have ht := h.g
  rw [e] at ht
  obtain ⟨cs, h1, _, _, _, _, _, h2⟩ := own_out ht
  refine ⟨g, e, by rw [Sl.blk, e]; rfl, heap_lt h1, cs, h1, h2 _ _ ?_⟩
  rw [List.getElem?_map, hi]
  rfl
set_option maxRecDepth 100000 in
set_option maxHeartbeats 4000000 in
theorem dGlobal_any (h : DX w r pt pl pg T L G) (x : Int) :
    Calls Tryd.prog 38 #[.pointer (some ⟨r, 0, none⟩), .int .i64 x] w fun e w' => e = .returned (.tuple #[.int .u64 (glX G x).1, .int .i64 (glX G x).2]) ∧ w' = w := by
  have c2 := h.c2
  have lb := heap_lt h.obj
  cases hB : isL G.length x
  · have HE : glX G x = (0, 1) := by unfold glX; rw [hB]; rfl
    rw [HE]
    have hB' := hB
    simp [isL] at hB'
    clear h HE hB
    by_cases h0 : x < 0
    · go_enter Tryd.func38, Tryd.ntmps38
      go_wp2
      exact bodyPost_ret (results_tmp2 rfl _ _ _) rfl ⟨rfl, rfl⟩
    · have h1 : (G.length : Int) ≤ x := hB' (by omega)
      go_enter Tryd.func38, Tryd.ntmps38
      go_wp2
      exact bodyPost_ret (results_tmp2 rfl _ _ _) rfl ⟨rfl, rfl⟩
  · obtain ⟨i, rfl, hi⟩ := isL_at hB
    obtain ⟨y, hy⟩ : ∃ y, G[i]? = some y := ⟨_, List.getElem?_eq_getElem hi⟩
    obtain ⟨gg, hp, -, lg, cs, hcs, hc⟩ := h.gf hy
    have d1 := heap_cell hcs hc
    have HE : glX G (i : Int) = (y, 0) := by
      unfold glX
      rw [hB, if_pos rfl, Int.toNat_natCast, hy]
      rfl
    rw [HE]
    rw [hp] at c2
    have k0 : ¬ (i : Int) < 0 := by omega
    have k1 : (0 : Int) ≤ (i : Int) := by omega
    have k2 : (i : Int) < (G.length : Int) := by omega
    have k3 : ¬ (G.length : Int) ≤ (i : Int) := by omega
    clear h HE hB hcs hc hp
    go_enter Tryd.func38, Tryd.ntmps38
    go_wp2
    exact bodyPost_ret (results_tmp2 rfl _ _ _) rfl ⟨rfl, rfl⟩
def dwtX (T : List Dt) (x : Int) : Bool := isB T.length x && (match T[(x - 1).toNat]? with
  | some t => t.w != 0
  | none => false)
set_option maxRecDepth 100000 in
set_option maxHeartbeats 4000000 in
theorem dWaits_any (h : DX w r pt pl pg T L G) (x : Int) :
    Calls Tryd.prog 42 #[.pointer (some ⟨r, 0, none⟩), .int .i64 x] w fun e w' => e = .returned (.bool (dwtX T x)) ∧ w' = w := by
  have HI : Hid _ := dIs_any h x
  have c0 := h.c0
  have lb := heap_lt h.obj
  have hn := h.tn
  cases hB : isB T.length x
  · have HE : dwtX T x = false := by unfold dwtX; rw [hB]; rfl
    rw [HE]
    rw [hB] at HI
    clear h HE hB
    go_enter Tryd.func42, Tryd.ntmps42
    go_wp2_with fail
    refine Calls.mono HI.out ?_
    rintro e w2 ⟨rfl, hw2⟩
    rw [hw2]
    clear hw2
    go_wp2
    go_ret
    exact ⟨rfl, rfl⟩
  · obtain ⟨i, rfl, hi⟩ := isB_at hB
    obtain ⟨t, ht⟩ : ∃ t, T[i]? = some t := ⟨_, List.getElem?_eq_getElem hi⟩
    obtain ⟨gt, hp, -, lg, cs, hcs, hc0, -⟩ := h.tf ht
    have d0 := heap_cell hcs hc0
    have HE : dwtX T ((i : Int) + 1) = (t.w != 0) := by
      unfold dwtX
      rw [hB, show ((i : Int) + 1 - 1).toNat = i by omega, ht]
      rfl
    rw [HE]
    rw [hB] at HI
    rw [hp] at c0
    have hw : IntKind.i64.wrap ((i : Int) + 1 - 1) = (i : Int) := by
      rw [show (i : Int) + 1 - 1 = i by omega]
      exact IntWalk.i64_in _ (by omega)
    have k1 : (0 : Int) ≤ (i : Int) := by omega
    have k2 : (i : Int) < (T.length : Int) := by omega
    generalize T.length = n at *
    generalize t.w = tw at d0 ⊢
    clear h HE hB hcs hc0 hp ht
    go_enter Tryd.func42, Tryd.ntmps42
    go_wp2_with fail
    refine Calls.mono HI.out ?_
    rintro e w2 ⟨rfl, hw2⟩
    rw [hw2]
    clear hw2
    go_wp2
    go_ret
    exact ⟨ret_bool rfl, rfl⟩
end
end Go.Proofs.YtdlnkdcgipaoeaaDoor
