/- Whoever lent them writes over them; the law's state. -/
import Derived.Test.YtdcmkifljcdmmaaGreatDoorHHReaches
namespace Go.Proofs.YtdcmkifljcdmmaaGreatDoor
open Go.RowKit

theorem fr_one {g k : Nat} {w : World} {v : Value} : Fr (fun j => j ≠ g) w (w.setCell ⟨g, k, none⟩ v) := ⟨(Below.refl 0 w).setCell (p := ⟨g, k, none⟩) (Nat.zero_le _) _, fun _ hj _ => Below.heap_setCell _ _ _ _ hj⟩
structure SpV (w wr : World) (g n : Nat) : Prop where
  d : DR wr 53 g n (fun _ _ => True)
  f : Fr (fun k => k ≠ g) w wr
set_option maxRecDepth 100000 in
set_option maxHeartbeats 8000000 in
theorem spoilV_any (n g : Nat) (w : World) (hl : n ≤ 1000000) (hD : DR w 53 g (n + 2) (fun _ _ => True)) :
    Calls Tryz.prog 12 #[.slice (some ⟨g, 0, none⟩) n (n + 2)] w fun e w' => e = .returned (.tuple #[]) ∧ Fr (fun k => k ≠ g) w w' := by
  have H0 : Hid (SpV w w g (n + 2)) := ⟨hD, Fr.refl _ _⟩
  clear hD
  go_enter Tryz.func12, Tryz.ntmps12
  go_wp2_with fail
  go_loopw [3] (fun i wr => ∃ j : Nat, i = .int .i64 j ∧ j ≤ n + 2 ∧ Hid (SpV w wr g (n + 2))) (fun i _ => n + 2 - (intOf i).toNat)
  case atStart => exact ⟨0, rfl, Nat.zero_le _, H0⟩
  case round =>
    clear H0
    obtain ⟨j, rfl, hj, HI⟩ := hrel
    by_cases hjl : j < n + 2
    · have k1 : (j : Int) < (n : Int) + 2 := by omega
      have k2 : (j : Int) < ((n + 2 : Nat) : Int) := by omega
      obtain ⟨u, hu, _⟩ := HI.out.d.cell hjl
      have hf := HI.out.d.fz j
      have lg := HI.out.d.lt
      have HE : Hid (SpV w (wr.setCell ⟨g, j, none⟩ (.int .u64 77777773)) g (n + 2)) := ⟨HI.out.d.set (fun _ _ _ _ => trivial) trivial, HI.out.f.trans fr_one⟩
      go_wp2_with fail
      refine ⟨⟨j + 1, by go_num, by omega, HE⟩, by simp [intOf]; omega⟩
    · have e : j = n + 2 := by omega
      subst e
      have k1 : ¬ (((n + 2 : Nat) : Int) < (n : Int) + 2) := by omega
      have k2 : ¬ (((n + 2 : Nat) : Int) < ((n + 2 : Nat) : Int)) := by omega
      go_wp2_with fail
      go_end0
      exact ⟨rfl, HI.out.f⟩
theorem own_set {w : World} {base e size n cap g k : Nat} {xs : List Value} (h : w.ownsRow base e size (.slice (some ⟨g, 0, none⟩) n cap) n xs) (hk : k < xs.length) (u : Value) : (w.setCell ⟨g, k, none⟩ u).ownsRow base e size (.slice (some ⟨g, 0, none⟩) n cap) n (xs.set k u) := by
  obtain ⟨cs, h1, h2, h3, h4, h5, h6, h7⟩ := own_out h
  refine own_of (set_atC h1 u) (by simp [h2]) h3 h4 h5 (by simp [h6]) (fun j x hj => ?_)
  rw [List.getElem?_set] at hj
  have hkc : k < cs.size := (Array.getElem?_eq_some_iff.1 (h7 k _ (List.getElem?_eq_getElem hk))).1
  split at hj
  · rename_i e
    subst e
    cases hj
    rw [Array.getElem?_setIfInBounds_self_of_lt hkc]
  · rename_i e
    rw [Array.getElem?_setIfInBounds_ne e]
    exact h7 j x hj
structure SpK (w wr : World) (g n : Nat) : Prop where
  d : DR wr 55 g (n * 4) (fun _ _ => True)
  f : Fr (fun k => k ≠ g) w wr
set_option maxRecDepth 100000 in
set_option maxHeartbeats 8000000 in
theorem spoilK_any (n g : Nat) (w : World) (hl : n ≤ 1000000) (hD : DR w 55 g ((n + 2) * 4) (fun _ _ => True)) :
    Calls Tryz.prog 11 #[.slice (some ⟨g, 0, none⟩) n (n + 2)] w fun e w' => e = .returned (.tuple #[]) ∧ Fr (fun k => k ≠ g) w w' := by
  have H0 : Hid (SpK w w g (n + 2)) := ⟨hD, Fr.refl _ _⟩
  clear hD
  go_enter Tryz.func11, Tryz.ntmps11
  go_wp2_with fail
  go_loopw [3] (fun i wr => ∃ j : Nat, i = .int .i64 j ∧ j ≤ n + 2 ∧ Hid (SpK w wr g (n + 2))) (fun i _ => n + 2 - (intOf i).toNat)
  case atStart => exact ⟨0, rfl, Nat.zero_le _, H0⟩
  case round =>
    clear H0
    obtain ⟨j, rfl, hj, HI⟩ := hrel
    by_cases hjl : j < n + 2
    · have k1 : (j : Int) < (n : Int) + 2 := by omega
      have k2 : (j : Int) < ((n + 2 : Nat) : Int) := by omega
      have d0 := HI.out.d
      have d1 : DR _ 55 g ((n + 2) * 4) (fun _ _ => True) := d0.set (j := j * 4) (v := .int .u8 77) (fun _ _ _ _ => trivial) trivial
      have d2 : DR _ 55 g ((n + 2) * 4) (fun _ _ => True) := d1.set (j := j * 4 + 1) (v := .int .u8 0) (fun _ _ _ _ => trivial) trivial
      have d3 : DR _ 55 g ((n + 2) * 4) (fun _ _ => True) := d2.set (j := j * 4 + 1 + 1) (v := .int .u64 77777773) (fun _ _ _ _ => trivial) trivial
      have d4 : DR _ 55 g ((n + 2) * 4) (fun _ _ => True) := d3.set (j := j * 4 + 1 + 1 + 1) (v := .int .u64 0) (fun _ _ _ _ => trivial) trivial
      obtain ⟨u0, hu0, _⟩ := d0.cell (j := j * 4) (by omega)
      obtain ⟨u1, hu1, _⟩ := d1.cell (j := j * 4 + 1) (by omega)
      obtain ⟨u2, hu2, _⟩ := d2.cell (j := j * 4 + 1 + 1) (by omega)
      obtain ⟨u3, hu3, _⟩ := d3.cell (j := j * 4 + 1 + 1 + 1) (by omega)
      have f0 := d0.fz (j * 4)
      have f1 := d1.fz (j * 4 + 1)
      have f2 := d2.fz (j * 4 + 1 + 1)
      have f3 := d3.fz (j * 4 + 1 + 1 + 1)
      have lg := d0.lt
      have HE : Hid (SpK w _ g (n + 2)) := ⟨d4, (((HI.out.f.trans fr_one).trans fr_one).trans fr_one).trans fr_one⟩
      clear d0 d1 d2 d3 d4 HI
      go_wp2_with fail
      refine ⟨⟨j + 1, by go_num, by omega, HE⟩, by simp [intOf]; omega⟩
    · have e : j = n + 2 := by omega
      subst e
      have k1 : ¬ (((n + 2 : Nat) : Int) < (n : Int) + 2) := by omega
      have k2 : ¬ (((n + 2 : Nat) : Int) < ((n + 2 : Nat) : Int)) := by omega
      go_wp2_with fail
      go_end0
      exact ⟨rfl, HI.out.f⟩
theorem clCells_set : ∀ (l : List Cl) (j : Nat) (x : Cl) (p q : Int), l[j]? = some x → clCells (l.set j ⟨x.k, x.c, p, q⟩) = ((clCells l).set (j * 4 + 1 + 1) (.int .u64 p)).set (j * 4 + 1 + 1 + 1) (.int .u64 q)
  | [], j, x, p, q, h => by simp at h
  | y :: r, 0, x, p, q, h => by
    have e : y = x := by simpa using h
    subst e
    rfl
  | y :: r, j + 1, x, p, q, h => by
    have := clCells_set r j x p q (by simpa using h)
    have e : ∀ M : List Cl, clCells (y :: M) = .int .u8 y.k :: .int .u8 y.c :: .int .u64 y.a :: .int .u64 y.b :: clCells M := fun _ => rfl
    rw [List.set_cons_succ, e, e, this, show (j + 1) * 4 + 1 + 1 = j * 4 + 1 + 1 + 1 + 1 + 1 + 1 by omega]
    simp only [List.set_cons_succ]
/-- How the law stands. -/
structure GX (w0 W : World) (g gr b : Nat) (H : List Cl) (R : List Int) (c : Nat → Value) (N : Nat → Nat) (V : Nat → Nat → Value) : Prop where
  lent : LentW W w0.heap.size g H
  wds : LenV W w0.heap.size gr R
  bk : Bk W b c N V Fo
  fg : ¬ BkF b c N V Fo g
  fr : ¬ BkF b c N V Fo gr
  low : ∀ k, BkF b c N V Fo k → w0.heap.size ≤ k
  bel : Below w0.heap.size w0 W
  ok : ∀ x ∈ H, OkK x
theorem GX.below {w0 W W' : World} {g gr b : Nat} {H : List Cl} {R : List Int} {c : Nat → Value} {N : Nat → Nat} {V : Nat → Nat → Value} (h : GX w0 W g gr b H R c N V) (hb : Below W.heap.size W W') : GX w0 W' g gr b H R c N V :=
  ⟨own_same h.lent (fun k hk => hb.block k (h.lent.lt k hk).2), own_same h.wds (fun k hk => hb.block k (h.wds.lt k hk).2), h.bk.below hb, h.fg, h.fr, h.low, h.bel.trans (hb.mono h.bel.size), h.ok⟩
theorem GX.re {w0 W W' : World} {g gr b : Nat} {H : List Cl} {R : List Int} {c : Nat → Value} {N : Nat → Nat} {V : Nat → Nat → Value} (h : GX w0 W g gr b H R c N V) (hr : ReR W W' b c N V) : ∃ c' N' V', GX w0 W' g gr b H R c' N' V' ∧ ∀ k, N' k ≤ N k + 1 := by
  obtain ⟨c', N', V', h1, h2, h3, h4, h5⟩ := hr
  have lg : g < W.heap.size := (h.lent.lt g rfl).2
  have lr : gr < W.heap.size := (h.wds.lt gr rfl).2
  refine ⟨c', N', V', ⟨own_same h.lent (fun k hk => ?_), own_same h.wds (fun k hk => ?_), h1, fun hF => ?_, fun hF => ?_, fun k hk => ?_, ?_, h.ok⟩, h2⟩
  · have e : g = k := by simpa [Value.ownBlock] using hk
    subst e; exact h5 g lg h.fg
  · have e : gr = k := by simpa [Value.ownBlock] using hk
    subst e; exact h5 gr lr h.fr
  · rcases h3 g hF with h' | h'
    · exact h.fg h'
    · omega
  · rcases h3 gr hF with h' | h'
    · exact h.fr h'
    · omega
  · rcases h3 k hk with h' | h'
    · exact h.low k h'
    · have := h.bel.size; omega
  · exact h.bel.trans ⟨h4.os, h4.tape, h4.output, h4.size, fun k hk => h5 k (Nat.lt_of_lt_of_le hk h.bel.size) (fun hF => by have := h.low k hF; omega)⟩
theorem hr_same {w w' : World} {ra : Option Addr} {l : List Cl} (h : HR w ra l) (hs : w.heap.size ≤ w'.heap.size) (hk : ∀ g, g < w.heap.size → w'.heap[g]? = w.heap[g]?) : HR w' ra l := by
  obtain ⟨b, o, h1, h2⟩ := h
  refine ⟨b, o, h1, fun j x hx => ?_⟩
  obtain ⟨g1, g2, g3⟩ := h2 j x hx
  have e : ∀ o', w'.cell? ⟨b, o', none⟩ = w.cell? ⟨b, o', none⟩ := fun o' => by simp only [World.cell?, hk b g1]
  exact ⟨Nat.lt_of_lt_of_le g1 hs, by rw [e, e, e, e]; exact g2, g3⟩
theorem wr_same {w w' : World} {ra : Option Addr} {l : List Int} (h : WR w ra l) (hs : w.heap.size ≤ w'.heap.size) (hk : ∀ g, g < w.heap.size → w'.heap[g]? = w.heap[g]?) : WR w' ra l := by
  obtain ⟨b, o, h1, h2⟩ := h
  refine ⟨b, o, h1, fun j x hx => ?_⟩
  obtain ⟨g1, g2, g3⟩ := h2 j x hx
  have e : ∀ o', w'.cell? ⟨b, o', none⟩ = w.cell? ⟨b, o', none⟩ := fun o' => by simp only [World.cell?, hk b g1]
  exact ⟨Nat.lt_of_lt_of_le g1 hs, by rw [e]; exact g2, g3⟩
theorem GX.stays {w0 W W' : World} {g gr b : Nat} {H : List Cl} {R : List Int} {c : Nat → Value} {N : Nat → Nat} {V : Nat → Nat → Value} (h : GX w0 W g gr b H R c N V) (hk : SmK (BkF b c N V Fo) W W') : w0.heap.size ≤ W'.heap.size ∧ ∀ k, k < w0.heap.size → W'.heap[k]? = w0.heap[k]? :=
  ⟨Nat.le_trans h.bel.size hk.1, fun k hk' => (hk.2 k (Nat.lt_of_lt_of_le hk' h.bel.size) (fun hF => by have := h.low k hF; omega)).trans (h.bel.block k hk')⟩
theorem GX.hrk {w0 W : World} {g gr b : Nat} {H : List Cl} {R : List Int} {c : Nat → Value} {N : Nat → Nat} {V : Nat → Nat → Value} (h : GX w0 W g gr b H R c N V) : HRk (BkF b c N V Fo) W (some ⟨g, 0, none⟩) H := fun w' hk =>
  hr_lent (own_same h.lent (fun k hk' => by
    have e : g = k := by simpa [Value.ownBlock] using hk'
    subst e; exact hk.2 g (h.lent.lt g rfl).2 h.fg)) h.ok
theorem GX.wrk {w0 W : World} {g gr b : Nat} {H : List Cl} {R : List Int} {c : Nat → Value} {N : Nat → Nat} {V : Nat → Nat → Value} (h : GX w0 W g gr b H R c N V) (hR : ∀ x ∈ R, Rng x) : WRk (BkF b c N V Fo) W (some ⟨gr, 0, none⟩) R := fun w' hk => by
  have h1 : LenV w' w0.heap.size gr R := own_same h.wds (fun k hk' => by
    have e : gr = k := by simpa [Value.ownBlock] using hk'
    subst e; exact hk.2 gr (h.wds.lt gr rfl).2 h.fr)
  obtain ⟨q1, _, _, q2, _⟩ := lenV_at h1
  exact ⟨gr, 0, .inr rfl, fun j x hx => ⟨q2, by rw [Nat.zero_add]; exact q1 j x hx, hR x (List.mem_of_getElem? hx)⟩⟩
/-- A cell's words change places. -/
theorem GX.swap {w0 W : World} {g gr b : Nat} {H : List Cl} {R : List Int} {c : Nat → Value} {N : Nat → Nat} {V : Nat → Nat → Value} (h : GX w0 W g gr b H R c N V) {j : Nat} {x : Cl} (hx : H[j]? = some x) :
    GX w0 ((W.setCell ⟨g, j * 4 + 1 + 1, none⟩ (.int .u64 x.b)).setCell ⟨g, j * 4 + 1 + 1 + 1, none⟩ (.int .u64 x.a)) g gr b (H.set j ⟨x.k, x.c, x.b, x.a⟩) R c N V := by
  have hj := (List.getElem?_eq_some_iff.1 hx).1
  have hl := clCells_len H
  have kk : ∀ k, k ≠ g → ((W.setCell ⟨g, j * 4 + 1 + 1, none⟩ (.int .u64 x.b)).setCell ⟨g, j * 4 + 1 + 1 + 1, none⟩ (.int .u64 x.a)).heap[k]? = W.heap[k]? := fun k hk => (Below.heap_setCell _ _ _ _ hk).trans (Below.heap_setCell _ _ _ _ hk)
  have hg : w0.heap.size ≤ g := (h.lent.lt g rfl).1
  refine ⟨?_, own_same h.wds (fun k hk => kk k (fun e => ?_)), h.bk.kept (fun k hk => kk k (fun e => h.fg (by rw [← e]; exact hk))), h.fg, h.fr, h.low, (h.bel.setCell (p := ⟨g, j * 4 + 1 + 1, none⟩) hg _).setCell (p := ⟨g, j * 4 + 1 + 1 + 1, none⟩) hg _, fun y hy => ?_⟩
  · have h1 := own_set (own_set h.lent (k := j * 4 + 1 + 1) (by simp; omega) (.int .u64 x.b)) (k := j * 4 + 1 + 1 + 1) (by simp; omega) (.int .u64 x.a)
    rw [List.set_append, if_pos (by omega), List.set_append, if_pos (by simp; omega), ← clCells_set H j x x.b x.a hx] at h1
    unfold LentW
    rw [List.length_set]
    exact h1
  · have e2 : gr = k := by simpa [Value.ownBlock] using hk
    obtain ⟨cs, hc⟩ := own_blk h.wds rfl
    obtain ⟨ds, hd⟩ := own_blk h.lent rfl
    exact ty_ne hc hd (by decide) (by rw [e2, e])
  · have := List.mem_or_eq_of_mem_set hy
    rcases this with hy | hy
    · exact h.ok y hy
    · have hx' := h.ok x (List.mem_of_getElem? hx)
      rw [hy]
      exact ⟨hx'.k, hx'.c, hx'.b, hx'.a⟩
/-- At the beginning. -/
theorem gx_new {w0 W : World} {g gr : Nat} {H : List Cl} {R : List Int} (hl : LentW W w0.heap.size g H) (hw : LenV W w0.heap.size gr R) (hb : Below w0.heap.size w0 W) (hk : ∀ x ∈ H, OkK x) {W' : World} (hb' : Below W.heap.size W W') (hbk : BkH W' W.heap.size (fun _ => nilV)) :
    GX w0 W' g gr W.heap.size H R (fun _ => nilV) (fun _ => 0) (fun _ _ => nilV) := by
  have hF : ∀ k, BkF W.heap.size (fun _ => nilV) (fun _ => 0) (fun _ _ => nilV) Fo k → k = W.heap.size := fun k hk => by
    rcases hk with rfl | ⟨k', _, hk | ⟨j, hj, _⟩⟩
    · rfl
    · cases hk
    · exact absurd hj (Nat.not_lt_zero _)
  refine ⟨own_same hl (fun k hk => hb'.block k (hl.lt k hk).2), own_same hw (fun k hk => hb'.block k (hw.lt k hk).2), ⟨hbk, fun _ h => h, fun k _ => ⟨fun _ => 0, fun _ => [], sh_nil _ _ _ _ _⟩⟩, fun h => ?_, fun h => ?_, fun k hk => ?_, hb.trans (hb'.mono hb.size), hk⟩
  · have := (hl.lt g rfl).2; have := hF g h; omega
  · have := (hw.lt gr rfl).2; have := hF gr h; omega
  · rw [hF k hk]; exact hb.size
/-- What is spoilt is the law's own. -/
theorem GX.spoilt {w0 W W' : World} {g gr b : Nat} {H : List Cl} {R : List Int} {c : Nat → Value} {N : Nat → Nat} {V : Nat → Nat → Value} (h : GX w0 W g gr b H R c N V) {k : Nat} (hk : k = g ∨ k = gr) (hf : Fr (fun j => j ≠ k) W W') : Bk W' b c N V Fo ∧ Below w0.heap.size w0 W' := by
  have h0 : ¬ BkF b c N V Fo k ∧ w0.heap.size ≤ k := by
    rcases hk with rfl | rfl
    · exact ⟨h.fg, (h.lent.lt k rfl).1⟩
    · exact ⟨h.fr, (h.wds.lt k rfl).1⟩
  exact ⟨h.bk.kept (fun j hj => hf.2 j (fun e => h0.1 (by rw [← e]; exact hj)) (h.bk.lt j hj)), h.bel.trans ⟨hf.1.os, hf.1.tape, hf.1.output, hf.1.size, fun j hj => hf.2 j (fun e => by have := h0.2; have e' : j = k := e; omega) (Nat.lt_of_lt_of_le hj h.bel.size)⟩⟩
end Go.Proofs.YtdcmkifljcdmmaaGreatDoor
