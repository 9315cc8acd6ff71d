/- The document's Holds: what is live, what is named: mathematics.; The document's Guarded.; The document's Holds: what its two rows of words are beside a view. -/
import Derived.Test.YtphpkedfcmghmaaDoorHBRefSrc
/- The document's Holds: what is live, what is named: mathematics. -/
namespace Go.Proofs.YtphpkedfcmghmaaDoor
open Go.RowKit

/-- A word's cell has been met. -/
def HitO (h : List Cl) (R : List Nat) (w : Int) : Prop := ∀ d y, refN w = some d → h[d]? = some y → d ∈ R
theorem HitO.mono {h : List Cl} {R R' : List Nat} {w : Int} (hh : HitO h R w) (hs : ∀ d ∈ R, d ∈ R') : HitO h R' w := fun d y h1 h2 => hs d (hh d y h1 h2)
structure OdOk (h : List Cl) (n0 i : Nat) (out : List Nat) (l : List Int) : Prop where
  nd : out.Nodup
  ok : ∀ c ∈ out, ∃ x, h[c]? = some x
  len : l.length ≤ n0 + 2 * out.length
  done : ∀ (j : Nat) w, j < i → l[j]? = some w → HitO h out w
  kids : ∀ c ∈ out, ∀ x, h[c]? = some x → x.k ≠ 0 → x.a ∈ l ∧ x.b ∈ l
theorem OdOk.out_le {h : List Cl} {n0 i : Nat} {out : List Nat} {l : List Int} (o : OdOk h n0 i out l) : out.length ≤ h.length := by
  have h1 : out.length ≤ (List.range h.length).length := List.Nodup.length_le_of_subset o.nd (fun c hc => by
    obtain ⟨x, hx⟩ := o.ok c hc
    exact List.mem_range.2 (List.getElem?_eq_some_iff.1 hx).1)
  simpa using h1
theorem OdOk.start (h : List Cl) (l : List Int) : OdOk h l.length 0 [] l := ⟨List.nodup_nil, (fun _ hc => by cases hc), Nat.le_add_right _ _, fun _ _ hj => absurd hj (Nat.not_lt_zero _), (fun _ hc => by cases hc)⟩
theorem OdOk.step {h : List Cl} {n0 i : Nat} {out : List Nat} {l : List Int} (o : OdOk h n0 i out l) {w : Int} (hw : l[i]? = some w) : OdOk h n0 (i + 1) (ordS h out l w).1 (ordS h out l w).2 := by
  have same : HitO h out w → OdOk h n0 (i + 1) out l := fun hh => ⟨o.nd, o.ok, o.len, fun j w' hj hw' => by
    by_cases e : j = i
    · subst e; rw [hw] at hw'; cases hw'; exact hh
    · exact o.done j w' (by omega) hw', o.kids⟩
  unfold ordS
  cases hr : refN w with
  | none => exact same (fun d y h1 _ => by rw [hr] at h1; cases h1)
  | some c =>
    dsimp only
    cases hct : out.contains c with
    | true =>
      rw [if_pos rfl]
      exact same (fun d y h1 _ => by rw [hr] at h1; cases h1; simpa using hct)
    | false =>
      rw [if_neg (by decide)]
      cases hx : h[c]? with
      | none => exact same (fun d y h1 h2 => by rw [hr] at h1; cases h1; rw [hx] at h2; cases h2)
      | some x =>
        have il := (List.getElem?_eq_some_iff.1 hw).1
        have mono : ∀ d ∈ out, d ∈ out ++ [c] := fun d hd => List.mem_append_left _ hd
        have sub : ∀ u ∈ l, u ∈ (if x.k = 0 then l else l ++ [x.a, x.b]) := fun u hu => by
          split
          · exact hu
          · exact List.mem_append_left _ hu
        refine ⟨?_, fun d hd => ?_, ?_, fun j w' hj hw' => ?_, fun d hd y hy hk => ?_⟩
        · show (out ++ [c]).Nodup
          rw [List.nodup_append]
          refine ⟨o.nd, by simp, fun a ha b hb e => ?_⟩
          rw [List.mem_singleton.1 hb] at e
          subst e
          have : out.contains a = true := by simpa using ha
          rw [hct] at this
          cases this
        · rcases List.mem_append.1 hd with hd | hd
          · exact o.ok d hd
          · rw [List.mem_singleton.1 hd]; exact ⟨x, hx⟩
        · have := o.len
          show (if x.k = 0 then l else l ++ [x.a, x.b]).length ≤ n0 + 2 * (out ++ [c]).length
          split
          · simp; omega
          · simp; omega
        · have hw2 : (if x.k = 0 then l else l ++ [x.a, x.b])[j]? = some w' := hw'
          have hl : l[j]? = some w' := by
            split at hw2
            · exact hw2
            · rwa [List.getElem?_append_left (by omega)] at hw2
          by_cases e : j = i
          · subst e; rw [hw] at hl; cases hl
            intro d y h1 _
            rw [hr] at h1
            cases h1
            exact List.mem_append_right _ (List.mem_singleton.2 rfl)
          · exact (o.done j w' (by omega) hl).mono mono
        · show y.a ∈ (if x.k = 0 then l else l ++ [x.a, x.b]) ∧ y.b ∈ (if x.k = 0 then l else l ++ [x.a, x.b])
          rcases List.mem_append.1 hd with hd | hd
          · have := o.kids d hd y hy hk
            exact ⟨sub _ this.1, sub _ this.2⟩
          · rw [List.mem_singleton.1 hd, hx] at hy
            cases hy
            rw [if_neg hk]
            exact ⟨List.mem_append_right _ (by simp), List.mem_append_right _ (by simp)⟩
theorem ordS_out {h : List Cl} {out : List Nat} {l : List Int} {w : Int} : (∀ d ∈ out, d ∈ (ordS h out l w).1) ∧ ∀ u ∈ l, u ∈ (ordS h out l w).2 := by
  unfold ordS
  split
  · exact ⟨fun _ h => h, fun _ h => h⟩
  · split
    · exact ⟨fun _ h => h, fun _ h => h⟩
    · split
      · exact ⟨fun _ h => h, fun _ h => h⟩
      · refine ⟨fun _ h => List.mem_append_left _ h, fun u hu => ?_⟩
        dsimp only
        split
        · exact hu
        · exact List.mem_append_left _ hu
/-- What is met in the end is closed. -/
theorem ord_closed {h : List Cl} {n0 : Nat} : ∀ (f i : Nat) (out : List Nat) (l : List Int), n0 + 2 * h.length ≤ f + i → OdOk h n0 i out l → (∀ w ∈ l, HitO h (ordM h f i out l) w) ∧ ∀ c ∈ ordM h f i out l, ∀ x, h[c]? = some x → x.k ≠ 0 → HitO h (ordM h f i out l) x.a ∧ HitO h (ordM h f i out l) x.b := by
  have fin : ∀ (i : Nat) (out : List Nat) (l : List Int), l.length ≤ i → OdOk h n0 i out l → (∀ w ∈ l, HitO h out w) ∧ ∀ c ∈ out, ∀ x, h[c]? = some x → x.k ≠ 0 → HitO h out x.a ∧ HitO h out x.b := fun i out l hl o => by
    have hw : ∀ w ∈ l, HitO h out w := fun w hw => by
      obtain ⟨j, hj⟩ := List.getElem?_of_mem hw
      exact o.done j w (by have := (List.getElem?_eq_some_iff.1 hj).1; omega) hj
    exact ⟨hw, fun c hc x hx hk => ⟨hw _ (o.kids c hc x hx hk).1, hw _ (o.kids c hc x hx hk).2⟩⟩
  intro f
  induction f with
  | zero =>
    intro i out l hf o
    exact fin i out l (by have := o.out_le; have := o.len; omega) o
  | succ f ih =>
    intro i out l hf o
    cases hw : l[i]? with
    | none =>
      have e : ordM h (f + 1) i out l = out := by unfold ordM; rw [hw]
      rw [e]
      exact fin i out l (List.getElem?_eq_none_iff.1 hw) o
    | some w =>
      have e : ordM h (f + 1) i out l = ordM h f (i + 1) (ordS h out l w).1 (ordS h out l w).2 := by rw [ordM, hw]
      rw [e]
      have := ih (i + 1) _ _ (by omega) (o.step hw)
      exact ⟨fun u hu => this.1 u (ordS_out.2 u hu), this.2⟩
/-- What is live is reached. -/
theorem live_ends {v : Vw} {c : Nat} (hc : liveM v c = true) : c ∈ orderM v.h (rootsV v) := by
  have cl := ord_closed (n0 := (rootsV v).length) ((rootsV v).length + 2 * v.h.length) 0 [] (rootsV v) (by omega) (OdOk.start v.h (rootsV v))
  have hk : c ∈ walkB v usedB (namedM v (fun x => (x.s : Int) != 0)) := by simpa [liveM, metW] using hc
  have un : ∀ y : Cl, usedB y = true → y.k ≠ 0 := fun y hy e => by simp [usedB, e] at hy
  have : c ∈ orderM v.h (rootsV v) ∧ ∃ x, v.h[c]? = some x ∧ x.k ≠ 0 := by
    refine goW_least (v := v) (mf := usedB) (fun c => c ∈ orderM v.h (rootsV v) ∧ ∃ x, v.h[c]? = some x ∧ x.k ≠ 0) (fun c x hp hx d y hd hy hm => ?_) _ 0 _ (seed_least _ (fun c x hn hx hm => ?_) _) c hk
    · obtain ⟨hp1, x', hx', hk'⟩ := hp
      rw [hx] at hx'
      cases hx'
      refine ⟨?_, y, hy, un y hm⟩
      rcases hd with hd | hd
      · exact (cl.2 c hp1 x hx hk').1 d y hd hy
      · exact (cl.2 c hp1 x hx hk').2 d y hd hy
    · refine ⟨?_, x, hx, un x hm⟩
      obtain ⟨z, hz, hz2⟩ := List.any_eq_true.1 hn
      rw [Bool.and_eq_true] at hz2
      obtain ⟨w, hw, hr'⟩ := List.any_eq_true.1 hz2.2
      have hr : refN w = some c := by simpa using hr'
      have hs : z.s ≠ 0 := by have := hz2.1; simp at this; omega
      have hwr : w ∈ rootsV v := by
        unfold rootsV
        rcases List.mem_append.1 hz with hz | hz
        · exact absurd (cells_s _ _ hz) hs
        · rcases List.mem_append.1 hz with hz | hz
          · obtain ⟨j, y, hj, rfl⟩ := (globsH_mem _ _ _).1 hz
            have e : w = y := List.mem_singleton.1 hw
            subst e
            exact List.mem_append_left _ (List.mem_of_getElem? hj)
          · obtain ⟨j, y, hj, rfl⟩ := (lanesH_mem _ _ _).1 hz
            exact List.mem_append_right _ (List.mem_flatten.2 ⟨y.roots, List.mem_map.2 ⟨y, List.mem_of_getElem? hj, rfl⟩, hw⟩)
      exact cl.1 w hwr c x hr hx
  exact this.1
theorem live_is {v : Vw} {c : Nat} {y : Cl} (hy : v.h[c]? = some y) (hk : y.k ≠ 0) : (orderM v.h (rootsV v)).contains c = liveM v c := by
  rw [Bool.eq_iff_iff]
  constructor
  · intro h; exact ends_live (by simpa using h) hy hk
  · intro h; simpa using live_ends h
def blackB (x : Cl) : Bool := usedB x && decide (x.c = 2)
def lanesL (l : List Ln) : List Int := l.flatMap (fun x => if x.sc then x.roots else [])
def cellsB (h : List Cl) : List Int := h.flatMap (fun x => if blackB x then [x.a, x.b] else [])
def laidL (v : Vw) : List Int := v.gl.take v.laid.toNat ++ (lanesL v.lanes ++ cellsB v.h)
theorem lanesL_more {l : List Ln} {k : Nat} {x : Ln} (hx : l[k]? = some x) : lanesL (l.take (k + 1)) = lanesL (l.take k) ++ if x.sc then x.roots else [] := by
  unfold lanesL
  rw [List.take_add_one, hx]
  simp
theorem cellsB_more {h : List Cl} {k : Nat} {x : Cl} (hx : h[k]? = some x) : cellsB (h.take (k + 1)) = cellsB (h.take k) ++ if blackB x then [x.a, x.b] else [] := by
  unfold cellsB
  rw [List.take_add_one, hx]
  simp
theorem cellsB_le : ∀ h : List Cl, (cellsB h).length ≤ 2 * h.length
  | [] => by simp [cellsB]
  | x :: r => by
    have := cellsB_le r
    have e : cellsB (x :: r) = (if blackB x then [x.a, x.b] else []) ++ cellsB r := rfl
    rw [e]
    split <;> simp <;> omega
theorem lanesL_le : ∀ l : List Ln, (lanesL l).length ≤ (l.map Ln.roots).flatten.length
  | [] => by simp [lanesL]
  | x :: r => by
    have h := lanesL_le r
    have e : lanesL (x :: r) = (if x.sc then x.roots else []) ++ lanesL r := rfl
    rw [e, List.map_cons, List.flatten_cons, List.length_append, List.length_append]
    split
    · omega
    · rw [List.length_nil]; omega
/-- What is laid is what the holders that are past name. -/
theorem laid_named {v : Vw} (h0 : 0 ≤ v.laid) (d : Nat) : (∃ w ∈ laidL v, refN w = some d) ↔ passM v d = true := by
  have any : ∀ (x : Hd) (w : Int), x ∈ holdersM v → (colM v x == 2) = true → w ∈ x.ws → refN w = some d → passM v d = true := fun x w h1 h2 h3 h4 => List.any_eq_true.2 ⟨x, h1, by dsimp only; rw [h2, Bool.true_and]; exact List.any_eq_true.2 ⟨w, h3, by rw [h4]; exact beq_self_eq_true _⟩⟩
  have cc : ∀ (j : Nat) (y : Cl) (ws : List Int), v.h[j]? = some y → colM v ⟨0, j, ws⟩ = y.c := fun j y ws h => by unfold colM; rw [if_pos rfl]; dsimp only; rw [h]
  have cg : ∀ (j : Nat) (ws : List Int), colM v ⟨1, j, ws⟩ = if v.laid ≤ (j : Int) then 1 else 2 := fun j ws => by
    unfold colM
    rw [if_neg (by show ¬ (1 : Nat) = 0; decide)]
    by_cases h : v.laid ≤ (j : Int)
    · rw [if_pos ⟨rfl, h⟩, if_pos h]
    · rw [if_neg (fun h' => h h'.2), if_neg (fun h' => absurd (show (1 : Nat) = 2 from h'.1) (by decide)), if_neg h]
  have cl : ∀ (j : Nat) (y : Ln) (ws : List Int), v.lanes[j]? = some y → colM v ⟨2, j, ws⟩ = if y.sc = false then 1 else 2 := fun j y ws h => by
    unfold colM
    rw [if_neg (by show ¬ (2 : Nat) = 0; decide), if_neg (fun h' => absurd (show (2 : Nat) = 1 from h'.1) (by decide))]
    dsimp only
    rw [h]
    simp
  constructor
  · rintro ⟨w, hw, hr⟩
    unfold laidL at hw
    rcases List.mem_append.1 hw with hw | hw
    · obtain ⟨i, hi⟩ := List.getElem?_of_mem hw
      rw [List.getElem?_take] at hi
      split at hi
      · rename_i hlt
        exact any ⟨1, 0 + i, [w]⟩ w (List.mem_append_right _ (List.mem_append_left _ ((globsH_mem _ _ _).2 ⟨_, w, hi, rfl⟩))) (by rw [cg, if_neg (by omega)]; rfl) (List.mem_singleton.2 rfl) hr
      · cases hi
    · rcases List.mem_append.1 hw with hw | hw
      · obtain ⟨y, hy, hwy⟩ := List.mem_flatMap.1 hw
        obtain ⟨j, hj⟩ := List.getElem?_of_mem hy
        cases hg : y.sc with
        | false => rw [hg] at hwy; cases hwy
        | true =>
          rw [hg, if_pos rfl] at hwy
          exact any ⟨2, 0 + j, y.roots⟩ w (List.mem_append_right _ (List.mem_append_right _ ((lanesH_mem _ _ _).2 ⟨j, y, hj, rfl⟩))) (by rw [Nat.zero_add, cl j y _ hj, hg]; rfl) hwy hr
      · obtain ⟨y, hy, hwy⟩ := List.mem_flatMap.1 hw
        obtain ⟨j, hj⟩ := List.getElem?_of_mem hy
        cases hg : blackB y with
        | false => rw [hg] at hwy; cases hwy
        | true =>
          rw [hg, if_pos rfl] at hwy
          have hk : y.k ≠ 0 := fun e => by simp [blackB, usedB, e] at hg
          have hc : y.c = 2 := by
            unfold blackB at hg
            rw [Bool.and_eq_true] at hg
            simpa using hg.2
          exact any ⟨0, 0 + j, [y.a, y.b]⟩ w (List.mem_append_left _ ((cellsH_mem _ _ _).2 ⟨j, y, hj, hk, rfl⟩)) (by rw [Nat.zero_add, cc j y _ hj, hc]; rfl) hwy hr
  · intro h
    obtain ⟨x, hx, hx2⟩ := List.any_eq_true.1 h
    rw [Bool.and_eq_true] at hx2
    obtain ⟨w, hw, hr'⟩ := List.any_eq_true.1 hx2.2
    have hr : refN w = some d := by simpa using hr'
    have hc : (colM v x == 2) = true := hx2.1
    refine ⟨w, ?_, hr⟩
    unfold laidL
    rcases List.mem_append.1 hx with hx | hx
    · obtain ⟨j, y, hj, hk, rfl⟩ := (cellsH_mem _ _ _).1 hx
      rw [Nat.zero_add, cc j y _ hj] at hc
      refine List.mem_append_right _ (List.mem_append_right _ (List.mem_flatMap.2 ⟨y, List.mem_of_getElem? hj, ?_⟩))
      have hg : blackB y = true := by
        have : y.c = 2 := by simpa using hc
        simp [blackB, usedB, hk, this]
      rw [hg, if_pos rfl]
      exact hw
    · rcases List.mem_append.1 hx with hx | hx
      · obtain ⟨j, y, hj, rfl⟩ := (globsH_mem _ _ _).1 hx
        rw [cg] at hc
        have hlt : ¬ v.laid ≤ ((0 + j : Nat) : Int) := fun e => by rw [if_pos e] at hc; simp at hc
        have e : w = y := List.mem_singleton.1 hw
        subst e
        refine List.mem_append_left _ (List.mem_of_getElem? (i := j) ?_)
        rw [List.getElem?_take, if_pos (by omega)]
        exact hj
      · obtain ⟨j, y, hj, rfl⟩ := (lanesH_mem _ _ _).1 hx
        rw [Nat.zero_add, cl j y _ hj] at hc
        refine List.mem_append_right _ (List.mem_append_left _ (List.mem_flatMap.2 ⟨y, List.mem_of_getElem? hj, ?_⟩))
        cases hs : y.sc with
        | false => rw [hs] at hc; simp at hc
        | true => rw [if_pos rfl]; exact hw
/-- What is named by the first ones. -/
def nmB (l : List Int) (d : Nat) : Bool := l.any (fun w => refN w == some d)
theorem nm_pass {v : Vw} (h0 : 0 ≤ v.laid) (d : Nat) : nmB (laidL v) d = passM v d := by
  rw [Bool.eq_iff_iff, ← laid_named h0 d]
  unfold nmB
  rw [List.any_eq_true]
  constructor
  · rintro ⟨w, h1, h2⟩; exact ⟨w, h1, by simpa using h2⟩
  · rintro ⟨w, h1, h2⟩; exact ⟨w, h1, by simpa using h2⟩
end Go.Proofs.YtphpkedfcmghmaaDoor

/- The document's Guarded. -/
namespace Go.Proofs.YtphpkedfcmghmaaDoor
open Go.RowKit

def GuD (v : Vw) (e : Ending) (w w' : World) : Prop := Below w.heap.size w w' ∧ ((mayV v = false ∧ e = .returned (.tuple #[.slice none 0 0, .slice none 0 0, .int .i64 130])) ∨ (mayV v = true ∧ ∃ g1 g2, e = .returned (.tuple #[.slice (some ⟨g1, 0, none⟩) v.h.length v.h.length, .slice (some ⟨g2, 0, none⟩) v.h.length v.h.length, .int .i64 0]) ∧ DR w' 4 g1 v.h.length (fun k u => u = .bool (byM v k)) ∧ DR w' 4 g2 v.h.length (fun k u => u = .bool (wellM v k))))
set_option maxRecDepth 100000 in
set_option maxHeartbeats 8000000 in
theorem refGuarded_any (p : Vp) (v : Vw) (w : World) (hV : VL w p v) (hsm : v.h.length + v.gl.length + (v.lanes.map Ln.roots).flatten.length ≤ 20000) :
    Calls Tryd.prog 28 #[.agg (p.cells v)] w fun e w' => GuD v e w w' := by
  obtain ⟨pcr, pcc, pyr, pyc, pgr, pgc, plr, plc⟩ := p
  have HV : Hid (VL w ⟨pcr, pcc, pyr, pyc, pgr, pgc, plr, plc⟩ v) := hV
  have HSm : Hid (v.h.length + v.gl.length + (v.lanes.map Ln.roots).flatten.length ≤ 20000) := hsm
  obtain ⟨W1, hW1⟩ : ∃ W1, w.alloc (.cells ((⟨pcr, pcc, pyr, pyc, pgr, pgc, plr, plc⟩ : Vp).cells v) 28) = W1 := ⟨_, rfl⟩
  have b1 : Below w.heap.size w W1 := by rw [← hW1]; exact (Below.refl _ w).alloc (Nat.le_refl _) _
  have v1 : VB W1 w.heap.size ⟨pcr, pcc, pyr, pyc, pgr, pgc, plr, plc⟩ v := by unfold VB; rw [← hW1]; exact World.alloc_heap_new w _
  have HS : Hid (RS w W1 ⟨pcr, pcc, pyr, pyc, pgr, pgc, plr, plc⟩ v) := ⟨v1, b1⟩
  have HR1 : Hid _ := refMay_any ⟨pcr, pcc, pyr, pyc, pgr, pgc, plr, plc⟩ v W1 (hV.kc (kc_below (Nat.le_refl _) b1))
  obtain ⟨d0, d1, d2, d3, d4, d5, d6⟩ := v1.at7
  have l1 : w.heap.size < W1.heap.size := (Array.getElem?_eq_some_iff.1 v1).1
  unfold Vp.cells at hW1 HR1
  unfold Vp.cells
  dsimp only at hW1 HR1 d0 d3 d4 d6 ⊢
  have HW1 : Hid _ := hW1
  clear hW1 hV b1 v1 hsm
  go_enter Tryd.func28, Tryd.ntmps28
  go_upto_region 1 with fail
  rw [HW1.out]
  clear HW1
  cases hm : mayV v
  · rw [hm] at HR1
    have HMm : Hid (mayV v = false) := hm
    clear hm
    go_wp2_with fail
    refine Calls.mono HR1.out ?_
    rintro e W2 ⟨rfl, hb2⟩
    have HS2 : Hid _ := HS.out.below hb2
    clear HR1 HS hb2 d0 d1 d2 d3 d4 d5 d6 l1
    go_wp2
    go_ret3
    exact ⟨HS2.out.bel, .inl ⟨HMm.out, rfl⟩⟩
  · rw [hm] at HR1
    have HMm : Hid (mayV v = true) := hm
    clear hm
    go_wp2_with fail
    refine Calls.mono HR1.out ?_
    rintro e W2 ⟨rfl, hb2⟩
    have HS2 : Hid (RS w W2 ⟨pcr, pcc, pyr, pyc, pgr, pgc, plr, plc⟩ v) := HS.out.below hb2
    clear HR1 HS hb2 d0 d1 d2 d3 d4 d5 d6 l1
    obtain ⟨d0, d1, d2, d3, d4, d5, d6⟩ := HS2.out.vb.at7
    dsimp only at d0 d3 d4 d6
    have l2 := HS2.out.lt
    have HG1 : Hid _ := refGu_any ⟨pcr, pcc, pyr, pyc, pgr, pgc, plr, plc⟩ v true W2 (HV.out.kc (kc_below (Nat.le_refl _) HS2.out.bel)) HMm.out HSm.out
    unfold Vp.cells at HG1
    dsimp only at HG1
    go_wp2_with fail
    refine Calls.mono HG1.out ?_
    rintro e W3 ⟨⟨g1, rfl, hd1⟩, hb3⟩
    have HS3 : Hid (RS w W3 ⟨pcr, pcc, pyr, pyc, pgr, pgc, plr, plc⟩ v) := HS2.out.below hb3
    have HD1 : Hid (DR W3 4 g1 v.h.length (fun k u => u = .bool (byM v k))) := hd1.mono (fun k u _ hu => by rw [hu, gu_by (may_is.1 HMm.out).1.2.2.1])
    clear HG1 HS2 hb3 hd1 d0 d1 d2 d3 d4 d5 d6 l2
    obtain ⟨d0, d1, d2, d3, d4, d5, d6⟩ := HS3.out.vb.at7
    dsimp only at d0 d3 d4 d6
    have l2 := HS3.out.lt
    have HG2 : Hid _ := refGu_any ⟨pcr, pcc, pyr, pyc, pgr, pgc, plr, plc⟩ v false W3 (HV.out.kc (kc_below (Nat.le_refl _) HS3.out.bel)) HMm.out HSm.out
    unfold Vp.cells at HG2
    dsimp only at HG2
    go_wp2_with fail
    refine Calls.mono HG2.out ?_
    rintro e W4 ⟨⟨g2, rfl, hd2⟩, hb4⟩
    have HS4 : Hid (RS w W4 ⟨pcr, pcc, pyr, pyc, pgr, pgc, plr, plc⟩ v) := HS3.out.below hb4
    have HD2 : Hid (DR W4 4 g2 v.h.length (fun k u => u = .bool (wellM v k))) := hd2.mono (fun k u _ hu => by rw [hu, gu_well (may_is.1 HMm.out).1.2.2.1])
    have HD3 : Hid (DR W4 4 g1 v.h.length (fun k u => u = .bool (byM v k))) := HD1.out.kept (hb4.block _ HD1.out.lt)
    clear HG2 HS3 hb4 hd2 HD1 d0 d1 d2 d3 d4 d5 d6 l2
    go_wp2
    go_ret3
    exact ⟨HS4.out.bel, .inr ⟨HMm.out, g1, g2, rfl, HD3.out, HD2.out⟩⟩
end Go.Proofs.YtphpkedfcmghmaaDoor

/- The document's Holds: what its two rows of words are beside a view. -/
namespace Go.Proofs.YtphpkedfcmghmaaDoor
open Go.RowKit

theorem add_zero (a : Addr) : a.add 0 = a := by simp [Addr.add]
theorem cut_gl {W : World} (a : Option Addr) (n c k : Nat) (hk : k ≤ c) : (Instr.slice 25 (.slice a n c) none (some (.int .i64 (k : Int))) none).run Tryd.prog W = .ok (.slice a k c) W := by
  rw [run_slice_h (P := Tryd.prog) (w := W) 25 _ n c (by kernel_rfl) .i64 k (by omega) (by omega)]
  have e : (if c = 0 then a else a.map (fun x => x.add 0)) = a := by
    split
    · rfl
    · cases a with
      | none => rfl
      | some a => rw [Option.map_some, add_zero]
  first | (go_simp; done) | (go_simp; rw [e])
theorem take_news {W : World} {ra : Option Addr} {l : List Int} (n : Nat) (h : (ra = none → l.length = 0) ∧ ∀ ad, ra = some ad → ∀ j u, (l.map (Value.int .u64))[j]? = some u → W.cell? (ad.add j) = some u) (hn : n ≤ l.length) :
    (ra = none → n = 0) ∧ ∀ ad, ra = some ad → ∀ j u, ((l.take n).map (Value.int .u64))[j]? = some u → W.cell? (ad.add j) = some u :=
  ⟨fun e => by have := h.1 e; omega, fun ad had j u hu => h.2 ad had j u (by
    rw [List.getElem?_map, List.getElem?_take] at hu
    split at hu
    · rw [List.getElem?_map]; exact hu
    · cases hu)⟩
/-- A view and two rows of words. -/
structure HT2 (w0 W : World) (p : Vp) (v : Vw) (va : Value) (A : List Int) (vb : Value) (B : List Int) : Prop where
  e : EV w0 W p v (.slice none 0 0) [] (.slice none 0 0) [] va A
  o : W.ownsRow w0.heap.size 57 1 vb B.length (B.map (Value.int .u64))
  n : ∀ g, va.ownBlock = some g → vb.ownBlock ≠ some g
theorem HT2.below {w0 W W' : World} {p : Vp} {v : Vw} {va vb : Value} {A B : List Int} (h : HT2 w0 W p v va A vb B) (hb : Below W.heap.size W W') : HT2 w0 W' p v va A vb B :=
  ⟨h.e.below hb, own_same h.o (fun k hk => hb.block k (h.o.lt k hk).2), h.n⟩
theorem HT2.growA {w0 W W' : World} {p : Vp} {v : Vw} {va va' vb : Value} {A A' B : List Int} (h : HT2 w0 W p v va A vb B) (hg : W.grownBy W' va.ownBlock) (ho : W'.ownsRow w0.heap.size 57 1 va' A'.length (A'.map (Value.int .u64))) (hn : ∀ g, va'.ownBlock = some g → va.ownBlock = some g ∨ W.heap.size ≤ g) : HT2 w0 W' p v va' A' vb B :=
  ⟨h.e.growR hg ho, own_same h.o (fun k hk => hg.block k (h.o.lt k hk).2 (fun e => h.n k e.symm hk)), fun g hg' e => by
    rcases hn g hg' with h1 | h1
    · exact h.n g h1 e
    · have := (h.o.lt g e).2; omega⟩
theorem HT2.growB {w0 W W' : World} {p : Vp} {v : Vw} {va vb vb' : Value} {A B B' : List Int} (h : HT2 w0 W p v va A vb B) (hg : W.grownBy W' vb.ownBlock) (ho : W'.ownsRow w0.heap.size 57 1 vb' B'.length (B'.map (Value.int .u64))) (hn : ∀ g, vb'.ownBlock = some g → vb.ownBlock = some g ∨ W.heap.size ≤ g) : HT2 w0 W' p v va A vb' B' := by
  have hk : ∀ k, k < W.heap.size → vb.ownBlock ≠ some k → W'.heap[k]? = W.heap[k]? := fun k hk hn => hg.block k hk (fun e => hn e.symm)
  refine ⟨⟨(hk _ h.e.lt (own_ty h.o h.e.vb (by decide))).trans h.e.vb, World.ownsRow_nil _ _ _ _, World.ownsRow_nil _ _ _ _, own_same h.e.rr (fun k hk' => hk k (h.e.rr.lt k hk').2 (fun e => h.n k hk' e)), h.e.bel.trans (grown_low hg (fun g hg' => (h.o.lt g hg').1) h.e.bel.size)⟩, ho, fun g hg' e => ?_⟩
  rcases hn g e with h1 | h1
  · exact h.n g hg' h1
  · have := (h.e.rr.lt g hg').2; omega
theorem DR.grown {W W' : World} {t g n : Nat} {P : Nat → Value → Prop} (h : DR W t g n P) {base e size m : Nat} {v : Value} {xs : List Value} (o : W.ownsRow base e size v m xs) (ht : t ≠ e) (hg : W.grownBy W' v.ownBlock) : DR W' t g n P := by
  obtain ⟨cs, q, r⟩ := h
  exact ⟨cs, (hg.block g (heap_lt q) (fun e => own_ty o q ht e.symm)).trans q, r⟩
end Go.Proofs.YtphpkedfcmghmaaDoor
