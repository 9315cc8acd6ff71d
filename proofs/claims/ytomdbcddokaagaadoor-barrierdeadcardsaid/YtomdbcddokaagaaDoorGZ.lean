/- What is reached is closed (the document's walk).; What is dead when a cycle begins stays white: a property that each move keeps.; An append that tells where its answer lies, and that the elder value still reads its row.; BarrierDead: how a cycle begins; what is kept beside.; BarrierDead: what holds between two steps; a truth is put. -/
import Derived.Test.YtomdbcddokaagaaDoorGK
import Derived.Test.YtomdbcddokaagaaDoorGL
import Derived.Test.YtomdbcddokaagaaDoorGX
import Derived.Test.YtomdbcddokaagaaDoorHBKnown
import Derived.Test.YtomdbcddokaagaaDoorHKLaw0
import Derived.Test.YtomdbcddokaagaaDoorHKLive
import Derived.Laws.AppendOwn
import Derived.Laws.OwnMore
/- What is reached is closed (the document's walk). -/
namespace Go.Proofs.YtomdbcddokaagaaDoor
open Go.RowKit

def HitO (h : List Cl) (R : List Nat) (w : Int) : Prop := ∀ d y, refN w = some d → h[d]? = some y → d ∈ R
theorem HitO.mono {h : List Cl} {R R' : List Nat} {w : Int} (hh : HitO h R w) (hs : ∀ d ∈ R, d ∈ R') : HitO h R' w := fun d y h1 h2 => hs d (hh d y h1 h2)
structure OdOk (h : List Cl) (n0 i : Nat) (out : List Nat) (l : List Int) : Prop where
  nd : out.Nodup
  ok : ∀ c ∈ out, ∃ x, h[c]? = some x
  len : l.length ≤ n0 + 2 * out.length
  done : ∀ (j : Nat) w, j < i → l[j]? = some w → HitO h out w
  kids : ∀ c ∈ out, ∀ x, h[c]? = some x → x.k ≠ 0 → x.a ∈ l ∧ x.b ∈ l
theorem OdOk.out_le {h : List Cl} {n0 i : Nat} {out : List Nat} {l : List Int} (o : OdOk h n0 i out l) : out.length ≤ h.length := by
  have h1 : out.length ≤ (List.range h.length).length := List.Nodup.length_le_of_subset o.nd (fun c hc => by
    obtain ⟨x, hx⟩ := o.ok c hc
    exact List.mem_range.2 (List.getElem?_eq_some_iff.1 hx).1)
  simpa using h1
theorem OdOk.start (h : List Cl) (l : List Int) : OdOk h l.length 0 [] l := ⟨List.nodup_nil, (fun _ hc => by cases hc), Nat.le_add_right _ _, fun _ _ hj => absurd hj (Nat.not_lt_zero _), (fun _ hc => by cases hc)⟩
theorem OdOk.step {h : List Cl} {n0 i : Nat} {out : List Nat} {l : List Int} (o : OdOk h n0 i out l) {w : Int} (hw : l[i]? = some w) : OdOk h n0 (i + 1) (ordS h out l w).1 (ordS h out l w).2 := by
  have same : HitO h out w → OdOk h n0 (i + 1) out l := fun hh => ⟨o.nd, o.ok, o.len, fun j w' hj hw' => by
    by_cases e : j = i
    · subst e; rw [hw] at hw'; cases hw'; exact hh
    · exact o.done j w' (by omega) hw', o.kids⟩
  unfold ordS
  cases hr : refN w with
  | none => exact same (fun d y h1 _ => by rw [hr] at h1; cases h1)
  | some c =>
    dsimp only
    cases hct : out.contains c with
    | true =>
      rw [if_pos rfl]
      exact same (fun d y h1 _ => by rw [hr] at h1; cases h1; simpa using hct)
    | false =>
      rw [if_neg (by decide)]
      cases hx : h[c]? with
      | none => exact same (fun d y h1 h2 => by rw [hr] at h1; cases h1; rw [hx] at h2; cases h2)
      | some x =>
        have il := (List.getElem?_eq_some_iff.1 hw).1
        have mono : ∀ d ∈ out, d ∈ out ++ [c] := fun d hd => List.mem_append_left _ hd
        have sub : ∀ u ∈ l, u ∈ (if x.k = 0 then l else l ++ [x.a, x.b]) := fun u hu => by
          split
          · exact hu
          · exact List.mem_append_left _ hu
        refine ⟨?_, fun d hd => ?_, ?_, fun j w' hj hw' => ?_, fun d hd y hy hk => ?_⟩
        · show (out ++ [c]).Nodup
          rw [List.nodup_append]
          refine ⟨o.nd, by simp, fun a ha b hb e => ?_⟩
          rw [List.mem_singleton.1 hb] at e
          subst e
          have : out.contains a = true := by simpa using ha
          rw [hct] at this
          cases this
        · rcases List.mem_append.1 hd with hd | hd
          · exact o.ok d hd
          · rw [List.mem_singleton.1 hd]; exact ⟨x, hx⟩
        · have := o.len
          show (if x.k = 0 then l else l ++ [x.a, x.b]).length ≤ n0 + 2 * (out ++ [c]).length
          split
          · simp; omega
          · simp; omega
        · have hw2 : (if x.k = 0 then l else l ++ [x.a, x.b])[j]? = some w' := hw'
          have hl : l[j]? = some w' := by
            split at hw2
            · exact hw2
            · rwa [List.getElem?_append_left (by omega)] at hw2
          by_cases e : j = i
          · subst e; rw [hw] at hl; cases hl
            intro d y h1 _
            rw [hr] at h1
            cases h1
            exact List.mem_append_right _ (List.mem_singleton.2 rfl)
          · exact (o.done j w' (by omega) hl).mono mono
        · show y.a ∈ (if x.k = 0 then l else l ++ [x.a, x.b]) ∧ y.b ∈ (if x.k = 0 then l else l ++ [x.a, x.b])
          rcases List.mem_append.1 hd with hd | hd
          · have := o.kids d hd y hy hk
            exact ⟨sub _ this.1, sub _ this.2⟩
          · rw [List.mem_singleton.1 hd, hx] at hy
            cases hy
            rw [if_neg hk]
            exact ⟨List.mem_append_right _ (by simp), List.mem_append_right _ (by simp)⟩
theorem ordS_out {h : List Cl} {out : List Nat} {l : List Int} {w : Int} : (∀ d ∈ out, d ∈ (ordS h out l w).1) ∧ ∀ u ∈ l, u ∈ (ordS h out l w).2 := by
  unfold ordS
  split
  · exact ⟨fun _ h => h, fun _ h => h⟩
  · split
    · exact ⟨fun _ h => h, fun _ h => h⟩
    · split
      · exact ⟨fun _ h => h, fun _ h => h⟩
      · refine ⟨fun _ h => List.mem_append_left _ h, fun u hu => ?_⟩
        dsimp only
        split
        · exact hu
        · exact List.mem_append_left _ hu
/-- What is met in the end is closed. -/
theorem ord_closed {h : List Cl} {n0 : Nat} : ∀ (f i : Nat) (out : List Nat) (l : List Int), n0 + 2 * h.length ≤ f + i → OdOk h n0 i out l → (∀ w ∈ l, HitO h (ordM h f i out l) w) ∧ ∀ c ∈ ordM h f i out l, ∀ x, h[c]? = some x → x.k ≠ 0 → HitO h (ordM h f i out l) x.a ∧ HitO h (ordM h f i out l) x.b := by
  have fin : ∀ (i : Nat) (out : List Nat) (l : List Int), l.length ≤ i → OdOk h n0 i out l → (∀ w ∈ l, HitO h out w) ∧ ∀ c ∈ out, ∀ x, h[c]? = some x → x.k ≠ 0 → HitO h out x.a ∧ HitO h out x.b := fun i out l hl o => by
    have hw : ∀ w ∈ l, HitO h out w := fun w hw => by
      obtain ⟨j, hj⟩ := List.getElem?_of_mem hw
      exact o.done j w (by have := (List.getElem?_eq_some_iff.1 hj).1; omega) hj
    exact ⟨hw, fun c hc x hx hk => ⟨hw _ (o.kids c hc x hx hk).1, hw _ (o.kids c hc x hx hk).2⟩⟩
  intro f
  induction f with
  | zero =>
    intro i out l hf o
    exact fin i out l (by have := o.out_le; have := o.len; omega) o
  | succ f ih =>
    intro i out l hf o
    cases hw : l[i]? with
    | none =>
      have e : ordM h (f + 1) i out l = out := by unfold ordM; rw [hw]
      rw [e]
      exact fin i out l (List.getElem?_eq_none_iff.1 hw) o
    | some w =>
      have e : ordM h (f + 1) i out l = ordM h f (i + 1) (ordS h out l w).1 (ordS h out l w).2 := by rw [ordM, hw]
      rw [e]
      have := ih (i + 1) _ _ (by omega) (o.step hw)
      exact ⟨fun u hu => this.1 u (ordS_out.2 u hu), this.2⟩
end Go.Proofs.YtomdbcddokaagaaDoor

/- What is dead when a cycle begins stays white: a property that each move keeps. -/
namespace Go.Proofs.YtomdbcddokaagaaDoor
open Go.RowKit

def UsedAt (v : Vw) (c : Nat) : Prop := ∃ x, v.h[c]? = some x ∧ usedB x = true
/-- A word names nothing that is used but what is in A. -/
def OkW (v : Vw) (A : Nat → Prop) (w : Int) : Prop := ∀ d, refN w = some d → UsedAt v d → A d
structure Dd (v : Vw) (A F : Nat → Prop) : Prop where
  rt : ∀ t ∈ v.lanes, ∀ w ∈ t.roots, OkW v A w
  gl : ∀ w ∈ v.gl, OkW v A w
  ce : ∀ (c : Nat) (x : Cl), v.h[c]? = some x → usedB x = true → A c → OkW v A x.a ∧ OkW v A x.b
  co : ∀ (c : Nat) (x : Cl), v.h[c]? = some x → usedB x = true → x.c ≠ 0 → A c
  fr : ∀ c, F c → A c ∧ ∃ x, v.h[c]? = some x ∧ usedB x = true ∧ x.c = 2
/-- What was free and is used. -/
def Nw (v v' : Vw) (c : Nat) : Prop := ¬ UsedAt v c ∧ UsedAt v' c
section
variable {v v' : Vw} {A F : Nat → Prop}
theorem OkW.mono {w : Int} (h : OkW v A w) : OkW v' (fun c => A c ∨ Nw v v' c) w := fun d hd hu => by
  by_cases e : UsedAt v d
  · exact .inl (h d hd e)
  · exact .inr ⟨e, hu⟩
theorem Dd.own (h : Dd v A F) {i : Nat} {t : Ln} (hi : v.lanes[i]? = some t) {x : Int} (hx : Own t x) : OkW v A x := by
  rcases hx with h1 | rfl
  · exact h.rt t (List.mem_of_getElem? hi) x h1
  · intro d hd
    rw [ref53] at hd
    cases hd
theorem Dd.src (h : Dd v A F) {i : Nat} {t : Ln} (hi : v.lanes[i]? = some t) {x : Int} (hx : Src v t x) : OkW v A x := by
  rcases hx with h1 | rfl | ⟨c, y, w, hw, hr, hy, hu, h1⟩ | h1 | ⟨o, ho, _, h1⟩ | ⟨c, y, hr, hy, hu, h2, _⟩
  · exact h.rt t (List.mem_of_getElem? hi) x h1
  · intro d hd
    rw [ref53] at hd
    cases hd
  · have hA := h.rt t (List.mem_of_getElem? hi) w hw c hr ⟨y, hy, hu⟩
    rcases h1 with rfl | rfl
    · exact (h.ce c y hy hu hA).1
    · exact (h.ce c y hy hu hA).2
  · exact h.gl x h1
  · exact h.rt o ho x h1
  · intro d hd _
    rw [hr] at hd
    cases hd
    exact h.co c y hy hu (by omega)
/-- What is shaded is in A. -/
theorem shd_in {ws must : List Int} {l : List Nat} (hs : Shd v ws must l) (hw : ∀ w ∈ ws, OkW v A w) : ∀ c ∈ l, A c := fun c hc => by
  obtain ⟨w, hw1, hr⟩ := hs.on c hc
  obtain ⟨x, hx, hxw⟩ := hs.wh c hc
  refine hw w hw1 c hr ⟨x, hx, ?_⟩
  unfold whiteB at hxw
  rw [Bool.and_eq_true] at hxw
  exact hxw.1
theorem used_grey {l : List Nat} {c : Nat} {x' : Cl} (hx : (greyL v.h l)[c]? = some x') : ∃ x, v.h[c]? = some x ∧ x'.k = x.k ∧ x'.a = x.a ∧ x'.b = x.b ∧ (c ∉ l → x' = x) := by
  rw [greyL_get] at hx
  cases hc : v.h[c]? with
  | none => rw [hc] at hx; cases hx
  | some x =>
    rw [hc] at hx
    have e := Option.some.inj hx
    refine ⟨x, rfl, ?_⟩
    rw [← e]
    dsimp only
    by_cases hl : c ∈ l
    · rw [if_pos hl]
      exact ⟨rfl, rfl, rfl, fun hn => absurd hl hn⟩
    · rw [if_neg hl]
      exact ⟨rfl, rfl, rfl, fun _ => rfl⟩
theorem used_k {x y : Cl} (h : x.k = y.k) : usedB x = usedB y := by unfold usedB; rw [h]
/-- Cells are shaded and one of them is turned: what is left of the property. -/
theorem Dd.turn (h : Dd v A F) {l : List Nat} {c : Nat} {x y' : Cl} {gr gl : List Int} {la : Int} {M : List Ln} (hl : ∀ d ∈ l, A d) (hw : Whites v.h l) (hx : v.h[c]? = some x)
    (hc : usedB y' = true → (A c ∨ usedB x = false)) (hab : OkW v A y'.a ∧ OkW v A y'.b) (hcol : x.c = 2 → usedB x = true → y'.c = 2) (hku : usedB x = true → usedB y' = true) (hnew : usedB x = false → usedB y' = true → y'.c = 2)
    (hgl : ∀ w ∈ gl, OkW v A w) (hM : ∀ t ∈ M, ∀ w ∈ t.roots, OkW v A w) (hv : v' = ⟨(greyL v.h l).set c y', v.ph, v.sw, gr, gl, la, M⟩) :
    Dd v' (fun d => A d ∨ Nw v v' d) (fun d => F d ∨ Nw v v' d) := by
  have hlt : c < (greyL v.h l).length := by
    have := (List.getElem?_eq_some_iff.1 hx).1
    rw [show (greyL v.h l).length = v.h.length from greyL_len l v.h]
    exact this
  have at_c : v'.h[c]? = some y' := by rw [hv]; exact List.getElem?_set_self hlt
  have at_d : ∀ d, d ≠ c → v'.h[d]? = (greyL v.h l)[d]? := fun d hd => by rw [hv]; exact List.getElem?_set_ne (fun e => hd e.symm)
  have new_c : ∀ z, v'.h[c]? = some z → z = y' := fun z hz => by rw [at_c] at hz; exact (Option.some.inj hz).symm
  have nwc : usedB x = false → usedB y' = true → Nw v v' c := fun h1 h2 => by
    refine ⟨fun hu => ?_, ⟨y', at_c, h2⟩⟩
    obtain ⟨z, hz, hu⟩ := hu
    rw [hx] at hz
    cases hz
    rw [h1] at hu
    cases hu
  refine ⟨fun t ht w hw' => ?_, fun w hw' => ?_, fun d z hz hu hA => ?_, fun d z hz hu hcz => ?_, fun d hd => ?_⟩
  · rw [hv] at ht
    exact (hM t ht w hw').mono
  · rw [hv] at hw'
    exact (hgl w hw').mono
  · by_cases e : d = c
    · subst e
      rw [new_c z hz]
      exact ⟨hab.1.mono, hab.2.mono⟩
    · rw [at_d d e] at hz
      obtain ⟨x0, hx0, e1, e2, e3, -⟩ := used_grey hz
      rw [used_k e1] at hu
      have hA' : A d := by
        rcases hA with hA | hA
        · exact hA
        · exact absurd ⟨x0, hx0, hu⟩ hA.1
      have := h.ce d x0 hx0 hu hA'
      rw [e2, e3]
      exact ⟨this.1.mono, this.2.mono⟩
  · by_cases e : d = c
    · subst e
      rw [new_c z hz] at hu
      rcases hc hu with h1 | h1
      · exact .inl h1
      · exact .inr (nwc h1 hu)
    · rw [at_d d e] at hz
      obtain ⟨x0, hx0, e1, -, -, e4⟩ := used_grey hz
      rw [used_k e1] at hu
      by_cases hdl : d ∈ l
      · exact .inl (hl d hdl)
      · rw [e4 hdl] at hcz
        exact .inl (h.co d x0 hx0 hu hcz)
  · rcases hd with hd | hd
    · obtain ⟨hA, x0, hx0, hu, hc2⟩ := h.fr d hd
      refine ⟨.inl hA, ?_⟩
      by_cases e : d = c
      · subst e
        rw [hx] at hx0
        cases hx0
        exact ⟨y', at_c, hku hu, hcol hc2 hu⟩
      · refine ⟨x0, ?_, hu, hc2⟩
        rw [at_d d e, greyL_get, hx0]
        show some (if d ∈ l then greyC x0 else x0) = some x0
        rw [if_neg (fun hdl => ?_)]
        obtain ⟨z, hz, hzw⟩ := hw d hdl
        rw [hx0] at hz
        cases hz
        unfold whiteB at hzw
        simp [hc2] at hzw
    · refine ⟨.inr hd, ?_⟩
      obtain ⟨hn, z, hz, hu⟩ := hd
      by_cases e : d = c
      · subst e
        have hz' := new_c z hz
        rw [hz'] at hu
        refine ⟨y', at_c, hu, ?_⟩
        cases hxu : usedB x with
        | true => exact absurd ⟨x, hx, hxu⟩ hn
        | false => exact hnew hxu hu
      · rw [at_d d e] at hz
        obtain ⟨x0, hx0, e1, -, -, -⟩ := used_grey hz
        rw [used_k e1] at hu
        exact absurd ⟨x0, hx0, hu⟩ hn
/-- Cells are shaded, none is turned. -/
theorem Dd.shade (h : Dd v A F) {l : List Nat} {gr gl : List Int} {la : Int} {M : List Ln} (hl : ∀ d ∈ l, A d) (hw : Whites v.h l) (hgl : ∀ w ∈ gl, OkW v A w) (hM : ∀ t ∈ M, ∀ w ∈ t.roots, OkW v A w) (hv : v' = ⟨greyL v.h l, v.ph, v.sw, gr, gl, la, M⟩) :
    Dd v' (fun d => A d ∨ Nw v v' d) (fun d => F d ∨ Nw v v' d) := by
  have hv'h : v'.h = greyL v.h l := by rw [hv]
  refine ⟨fun t ht w hw' => ?_, fun w hw' => ?_, fun d z hz hu hA => ?_, fun d z hz hu hcz => ?_, fun d hd => ?_⟩
  · rw [hv] at ht
    exact (hM t ht w hw').mono
  · rw [hv] at hw'
    exact (hgl w hw').mono
  · rw [hv'h] at hz
    obtain ⟨x0, hx0, e1, e2, e3, -⟩ := used_grey hz
    rw [used_k e1] at hu
    have hA' : A d := by
      rcases hA with hA | hA
      · exact hA
      · exact absurd ⟨x0, hx0, hu⟩ hA.1
    have := h.ce d x0 hx0 hu hA'
    rw [e2, e3]
    exact ⟨this.1.mono, this.2.mono⟩
  · rw [hv'h] at hz
    obtain ⟨x0, hx0, e1, -, -, e4⟩ := used_grey hz
    rw [used_k e1] at hu
    by_cases hdl : d ∈ l
    · exact .inl (hl d hdl)
    · rw [e4 hdl] at hcz
      exact .inl (h.co d x0 hx0 hu hcz)
  · rcases hd with hd | hd
    · obtain ⟨hA, x0, hx0, hu, hc2⟩ := h.fr d hd
      refine ⟨.inl hA, x0, ?_, hu, hc2⟩
      rw [hv'h, greyL_get, hx0]
      show some (if d ∈ l then greyC x0 else x0) = some x0
      rw [if_neg (fun hdl => ?_)]
      obtain ⟨z, hz, hzw⟩ := hw d hdl
      rw [hx0] at hz
      cases hz
      unfold whiteB at hzw
      simp [hc2] at hzw
    · obtain ⟨hn, z, hz, hu⟩ := hd
      rw [hv'h] at hz
      obtain ⟨x0, hx0, e1, -, -, -⟩ := used_grey hz
      rw [used_k e1] at hu
      exact absurd ⟨x0, hx0, hu⟩ hn
/-- Lanes alone are turned. -/
theorem Dd.lanes (h : Dd v A F) {M : List Ln} (hM : ∀ t ∈ M, ∀ w ∈ t.roots, OkW v A w) (hv : v' = ⟨v.h, v.ph, v.sw, v.grey, v.gl, v.laid, M⟩) : Dd v' (fun d => A d ∨ Nw v v' d) (fun d => F d ∨ Nw v v' d) :=
  h.shade (l := []) (fun d hd => by cases hd) (fun d hd => by cases hd) h.gl hM (by rw [hv]; rfl)
theorem Dd.setL (h : Dd v A F) {i : Nat} {t : Ln} (ht : ∀ w ∈ t.roots, OkW v A w) (hv : v' = setL v i t) : Dd v' (fun d => A d ∨ Nw v v' d) (fun d => F d ∨ Nw v v' d) :=
  h.lanes (M := v.lanes.set i t) (fun s hs => by
    rcases List.mem_or_eq_of_mem_set hs with h1 | rfl
    · exact h.rt s h1
    · exact ht) (by rw [hv]; rfl)
theorem pair_ok {a b : Int} (ha : OkW v A a) (hb : OkW v A b) : ∀ w ∈ [a, b], OkW v A w := fun w hw => by
  rcases List.mem_cons.1 hw with rfl | hw
  · exact ha
  · rw [List.mem_singleton.1 hw]
    exact hb
theorem mv_dead {G : List Nat} (m : Mv v v') (hF : Fm v G) (h : Dd v A F) : Dd v' (fun d => A d ∨ Nw v v' d) (fun d => F d ∨ Nw v v' d) := by
  cases m with
  | take i t x hi he hs =>
    refine h.setL (fun w hw => ?_) rfl
    rcases List.mem_append.1 hw with hw | hw
    · exact h.rt t (List.mem_of_getElem? hi) w hw
    · rw [List.mem_singleton.1 hw]
      exact h.src hi hs
  | drop i t r hi he hs hl => exact h.setL (fun w hw => h.rt t (List.mem_of_getElem? hi) w (hs w hw)) rfl
  | ends i t n hi he hs =>
    refine h.setL (fun w hw => ?_) rfl
    rw [List.mem_singleton.1 hw]
    exact h.own hi hs
  | spawn i t a b hi ha hb h8 =>
    refine h.lanes (fun s hs => ?_) rfl
    rcases List.mem_append.1 hs with hs | hs
    · exact h.rt s hs
    · rw [List.mem_singleton.1 hs]
      exact pair_ok (h.own hi ha) (h.own hi hb)
  | store i t c x y w old n l y' hi hw hc hx hu hn hl hy hp =>
    have hA := h.rt t (List.mem_of_getElem? hi) w hw c hc ⟨x, hx, hu⟩
    have hab := h.ce c x hx hu hA
    have hold : OkW v A old := by
      rcases hp with ⟨rfl, -⟩ | ⟨rfl, -⟩
      · exact hab.1
      · exact hab.2
    have hnk := h.own hi hn
    have hin := shd_in hl (pair_ok hold hnk)
    obtain ⟨x0, hx0, e1, e2, e3, e4⟩ := used_grey hy
    rw [hx] at hx0
    cases hx0
    have huy : usedB y' = true := by
      rcases hp with ⟨-, rfl⟩ | ⟨-, rfl⟩
      · rw [← hu]; exact used_k e1
      · rw [← hu]; exact used_k e1
    refine h.turn hin hl.wh hx (fun _ => .inl hA) ?_ (fun h2 _ => ?_) (fun _ => huy) (fun h1 => by rw [hu] at h1; cases h1) h.gl h.rt rfl
    · rcases hp with ⟨-, rfl⟩ | ⟨-, rfl⟩
      · exact ⟨hnk, by rw [e3]; exact hab.2⟩
      · exact ⟨by rw [e2]; exact hab.1, hnk⟩
    · have hcl : c ∉ l := fun hcl => by
        obtain ⟨z, hz, hzw⟩ := hl.wh c hcl
        rw [hx] at hz
        cases hz
        unfold whiteB at hzw
        simp [h2] at hzw
      have hyx := e4 hcl
      rcases hp with ⟨-, rfl⟩ | ⟨-, rfl⟩
      · rw [hyx]; exact h2
      · rw [hyx]; exact h2
  | fill i t c x k a b l hi hx hu hk ha hb hl =>
    have hin := shd_in hl (pair_ok (h.own hi ha) (h.own hi hb))
    have hxu : usedB x = false := by unfold usedB; simp [hu]
    exact h.turn hin hl.wh hx (fun _ => .inr hxu) ⟨h.own hi ha, h.own hi hb⟩ (fun _ _ => rfl) (fun h1 => by rw [hxu] at h1; cases h1) (fun _ _ => rfl) h.gl h.rt rfl
  | lay i t k g0 n l hi hk hn hl =>
    have hg := h.gl g0 (List.mem_of_getElem? hk)
    exact h.shade (shd_in hl (pair_ok hg (h.own hi hn))) hl.wh (fun w hw => by
      rcases List.mem_or_eq_of_mem_set hw with h1 | rfl
      · exact h.gl w h1
      · exact h.own hi hn) h.rt rfl
  | root k g l hk hla hl =>
    exact h.shade (shd_in hl (fun w hw => by rw [List.mem_singleton.1 hw]; exact h.gl g (List.mem_of_getElem? hk))) hl.wh h.gl h.rt rfl
  | scan i t l hi hl =>
    exact h.shade (shd_in hl (h.rt t (List.mem_of_getElem? hi))) hl.wh h.gl (fun s hs => by
      rcases List.mem_or_eq_of_mem_set hs with h1 | rfl
      · exact h.rt s h1
      · exact h.rt t (List.mem_of_getElem? hi)) rfl
  | into c x r l hv hx hl =>
    have hcG : c ∈ G := by
      have := hF.gy.e
      rw [hv] at this
      cases hG : G with
      | nil => rw [hG] at this; cases this
      | cons d q =>
        rw [hG, List.map_cons] at this
        have e := (List.cons.inj this).1
        have : c = d := Int.ofNat.inj e
        rw [this]
        exact List.mem_cons_self
    have hg0 := (hF.gy.m c).1 hcG
    have hgx : usedB x = true ∧ x.c = 1 := by
      unfold gr0 at hg0
      rw [hx] at hg0
      simpa [greyB] using hg0
    have hA := h.co c x hx hgx.1 (by omega)
    have hab := h.ce c x hx hgx.1 hA
    have hux : usedB (⟨x.k, 2, x.a, x.b⟩ : Cl) = true := by rw [← hgx.1]; exact used_k rfl
    exact h.turn (y' := ⟨x.k, 2, x.a, x.b⟩) (shd_in hl (pair_ok hab.1 hab.2)) hl.wh hx (fun _ => .inl hA) hab (fun _ _ => rfl) (fun _ => hux) (fun h1 => by rw [hgx.1] at h1; cases h1) h.gl h.rt rfl
/-- Used stays used. -/
theorem mv_used (m : Mv v v') {c : Nat} (h : UsedAt v c) : UsedAt v' c := by
  obtain ⟨x, hx, hu⟩ := h
  have gr : ∀ l : List Nat, ∃ z, (greyL v.h l)[c]? = some z ∧ usedB z = true := fun l => by
    rw [greyL_get, hx]
    refine ⟨_, rfl, ?_⟩
    split
    · rw [← hu]; exact used_k rfl
    · exact hu
  have st : ∀ (l : List Nat) (d : Nat) (y : Cl), (d = c → usedB y = true) → ∃ z, ((greyL v.h l).set d y)[c]? = some z ∧ usedB z = true := fun l d y hy => by
    obtain ⟨z, hz, hzu⟩ := gr l
    by_cases e : d = c
    · subst e
      exact ⟨y, List.getElem?_set_self (List.getElem?_eq_some_iff.1 hz).1, hy rfl⟩
    · exact ⟨z, by rw [List.getElem?_set_ne e]; exact hz, hzu⟩
  cases m with
  | take => exact ⟨x, hx, hu⟩
  | drop => exact ⟨x, hx, hu⟩
  | ends => exact ⟨x, hx, hu⟩
  | spawn => exact ⟨x, hx, hu⟩
  | store i t d x1 y w old n l y' hi hw hc hx1 hu1 hn hl hy hp =>
    refine st l d y' (fun e => ?_)
    obtain ⟨x0, hx0, e1, -⟩ := used_grey hy
    rw [hx1] at hx0
    cases hx0
    rcases hp with ⟨-, rfl⟩ | ⟨-, rfl⟩
    · rw [← hu1]; exact used_k e1
    · rw [← hu1]; exact used_k e1
  | fill i t d x1 k a b l hi hx1 hu1 hk ha hb hl => exact st l d _ (fun _ => by unfold usedB; simp; omega)
  | lay => exact gr _
  | root => exact gr _
  | scan => exact gr _
  | into d x1 r l hv hx1 hl =>
    refine st l d _ (fun e => ?_)
    subst e
    rw [hx] at hx1
    cases hx1
    rw [← hu]
    exact used_k rfl
end
theorem Dd.same {v : Vw} {A A' F F' : Nat → Prop} (h : Dd v A F) (hA : ∀ c, A c ↔ A' c) (hF : ∀ c, F c ↔ F' c) : Dd v A' F' := by
  have e1 : A = A' := funext fun c => propext (hA c)
  have e2 : F = F' := funext fun c => propext (hF c)
  rw [← e1, ← e2]
  exact h
theorem mvs_used {v v' : Vw} (m : v' = v ∨ Mv v v' ∨ ∃ v1, Mv v v1 ∧ Mv v1 v') {c : Nat} (h : UsedAt v c) : UsedAt v' c := by
  rcases m with rfl | m | ⟨v1, m1, m2⟩
  · exact h
  · exact mv_used m h
  · exact mv_used m2 (mv_used m1 h)
theorem mvs_dead {v v' : Vw} {G : List Nat} {A F : Nat → Prop} (m : v' = v ∨ Mv v v' ∨ ∃ v1, Mv v v1 ∧ Mv v1 v') (hF : Fm v G) (h : Dd v A F) : Dd v' (fun d => A d ∨ Nw v v' d) (fun d => F d ∨ Nw v v' d) := by
  rcases m with rfl | m | ⟨v1, m1, m2⟩
  · refine h.same (fun c => ⟨.inl, fun e => ?_⟩) (fun c => ⟨.inl, fun e => ?_⟩)
    · rcases e with e | e
      · exact e
      · exact absurd e.2 e.1
    · rcases e with e | e
      · exact e
      · exact absurd e.2 e.1
  · exact mv_dead m hF h
  · obtain ⟨G1, hF1⟩ := mv_fm m1 hF
    have key : ∀ c, (Nw v v1 c ∨ Nw v1 v' c) ↔ Nw v v' c := fun c => by
      constructor
      · rintro (e | e)
        · exact ⟨e.1, mv_used m2 e.2⟩
        · exact ⟨fun hu => e.1 (mv_used m1 hu), e.2⟩
      · rintro ⟨e1, e2⟩
        by_cases hu : UsedAt v1 c
        · exact .inl ⟨e1, hu⟩
        · exact .inr ⟨hu, e2⟩
    refine (mv_dead m2 hF1 (mv_dead m1 hF h)).same (fun c => ?_) (fun c => ?_)
    · rw [or_assoc, key]
    · rw [or_assoc, key]
/-- How it begins. -/
theorem dead_start {v : Vw} (hw : ∀ x ∈ v.h, x.c = 0) : Dd v (fun c => (orderM v.h (rootsV v)).contains c = true) (fun _ => False) := by
  have cl := ord_closed (n0 := (rootsV v).length) ((rootsV v).length + 2 * v.h.length) 0 [] (rootsV v) (by omega) (OdOk.start v.h (rootsV v))
  have un : ∀ y : Cl, usedB y = true → y.k ≠ 0 := fun y hy e => by simp [usedB, e] at hy
  have rr : ∀ w ∈ rootsV v, OkW v (fun c => (orderM v.h (rootsV v)).contains c = true) w := fun w hw' d hd ⟨y, hy, _⟩ => by
    have : d ∈ orderM v.h (rootsV v) := cl.1 w hw' d y hd hy
    simpa using this
  refine ⟨fun t ht w hw' => rr w ?_, fun w hw' => rr w (List.mem_append_left _ hw'), fun c x hx hu hA => ?_, fun c x hx _ hc => absurd (hw x (List.mem_of_getElem? hx)) hc, fun c hc => hc.elim⟩
  · exact List.mem_append_right _ (List.mem_flatten.2 ⟨t.roots, List.mem_map.2 ⟨t, ht, rfl⟩, hw'⟩)
  · have hm : c ∈ orderM v.h (rootsV v) := by simpa using hA
    have := cl.2 c hm x hx (un x hu)
    refine ⟨fun d hd ⟨y, hy, _⟩ => ?_, fun d hd ⟨y, hy, _⟩ => ?_⟩
    · have h1 : d ∈ orderM v.h (rootsV v) := this.1 d y hd hy
      simpa using h1
    · have h1 : d ∈ orderM v.h (rootsV v) := this.2 d y hd hy
      simpa using h1
end Go.Proofs.YtomdbcddokaagaaDoor

/- An append that tells where its answer lies, and that the elder value still reads its row. -/
namespace Go.Proofs.YtomdbcddokaagaaDoor
open Go.RowKit

theorem append_full {P : Program} (w : World) (t ty e : TypeId) (i : TypeInfo) (z : Value) (ht : P.underlying t = some (.slice e)) (hi : P.info? e = some i) (hz : i.zero = some z)
    (base g n cap : Nat) (xs : List Value) (hown : w.ownsRow base e i.size (.slice (some ⟨g, 0, none⟩) n cap) n xs) (a : Addr) (m c : Nat) (news : List Value) (hl : news.length = m * i.size)
    (hnews : ∀ j u, news[j]? = some u → w.cell? (a.add j) = some u) (h63 : n + m ≤ maxLen) (hb : (n + m) * i.bytes ≤ 140737488355328) (hfull : cap < n + m) {v' : Value} {w' : World}
    (hrun : (Builtin.append_ #[t, t] ty #[.slice (some ⟨g, 0, none⟩) n cap, .slice (some a) m c]).run P w = .ok v' w') : Below w.heap.size w w' := by
  have holds : ∀ j u, xs[j]? = some u → w.cell? ((⟨g, 0, none⟩ : Addr).add j) = some u := hown.cells (g := g) rfl
  have hr := run_append_grow (P := P) w t ty e i z ht hi hz ⟨g, 0, none⟩ n cap xs hown.1 holds a m c news hl hnews (by omega) (by simp only [maxLen] at h63; omega) (growslice_fits (by omega) hb)
  rw [hrun] at hr
  cases hr
  exact ((Below.refl _ w).drew).alloc (Nat.le_refl _) _

theorem own_prefix {w w' : World} {base e size g n n' cap cap' : Nat} {xs r : List Value} (h : w.ownsRow base e size (.slice (some ⟨g, 0, none⟩) n cap) n xs) (h1 : w.ownsRow base e size (.slice (some ⟨g, 0, none⟩) n' cap') n' (xs ++ r))
    (h2 : w'.ownsRow base e size (.slice (some ⟨g, 0, none⟩) n' cap') n' (xs ++ r)) : w'.ownsRow base e size (.slice (some ⟨g, 0, none⟩) n cap) n xs := by
  obtain ⟨hl, hc⟩ := h
  rcases hc with ⟨h', _⟩ | ⟨a, b, cur, hv, hb, hh, hn, hm, hz, ht⟩
  · simp at h'
  rcases h1.2 with ⟨h', _⟩ | ⟨a1, b1, cur1, hv1, _, hh1, _, _, hz1, _⟩
  · simp at h'
  obtain ⟨hl2, hc2⟩ := h2
  rcases hc2 with ⟨h', _⟩ | ⟨a2, b2, cur2, hv2, _, hh2, _, _, hz2, ht2⟩
  · simp at h'
  simp only [Value.slice.injEq, Option.some.injEq, Addr.mk.injEq, and_true, true_and] at hv hv1 hv2
  obtain ⟨rfl, rfl⟩ := hv
  obtain ⟨rfl, rfl⟩ := hv1
  obtain ⟨rfl, rfl⟩ := hv2
  rw [hh] at hh1
  cases hh1
  refine ⟨hl, .inr ⟨g, cap, cur2, rfl, hb, hh2, hn, hm, by rw [hz2, ← hz1, hz], ?_⟩⟩
  have : n * size ≤ n' * size := by rw [← hl, ← hl2, List.length_append]; omega
  have h3 : (cur2.toList.take (n' * size)).take (n * size) = cur2.toList.take (n * size) := by rw [List.take_take, Nat.min_eq_left this]
  rw [← h3, ht2, ← hl, List.take_left]

theorem own_told {w w' : World} {base e size n n' : Nat} {v u : Value} {xs r : List Value} (h : w.ownsRow base e size v n xs) (h1 : w.ownsRow base e size u n' (xs ++ r))
    (h2 : w'.ownsRow base e size u n' (xs ++ r)) (hg : w.grownBy w' u.ownBlock) : w'.ownsRow base e size v n xs := by
  by_cases e : v.ownBlock = none ∨ v.ownBlock ≠ u.ownBlock
  · exact h.kept hg e
  · rcases h.2 with ⟨rfl, _⟩ | ⟨g, cap, cur, rfl, _⟩
    · exact absurd (.inl rfl) e
    · rcases h1.2 with ⟨rfl, _⟩ | ⟨g1, cap1, cur1, rfl, _⟩
      · exact absurd (.inr (by simp [Value.ownBlock])) e
      · have : g = g1 := by
          by_cases e' : g = g1
          · exact e'
          · exact absurd (.inr (by simp [Value.ownBlock, e'])) e
        subst this
        exact own_prefix h h1 h2

theorem append_told {P : Program} {w w' : World} {base : Nat} {t ty e : TypeId} {i : TypeInfo} {z : Value} {size bytes : Nat} (ht : P.underlying t = some (.slice e)) (hi : P.info? e = some i) (hz : i.zero = some z)
    (hsize : i.size = size) (hby : i.bytes = bytes) (hsz : 0 < size) {v v' : Value} {n : Nat} {xs : List Value} (hown : w.ownsRow base e size v n xs)
    {a : Addr} {m c : Nat} {news : List Value} (hl : news.length = m * size) (hnews : ∀ j u, news[j]? = some u → w.cell? (a.add j) = some u) (h1 : ∀ u ∈ news, u.oneCell' = true)
    (h63 : n + m ≤ maxLen) (hbytes : (n + m) * bytes ≤ 140737488355328) (hm : 0 < m)
    (hrun : (Builtin.append_ #[t, t] ty #[v, .slice (some a) m c]).run P w = .ok v' w') (hown' : w'.ownsRow base e size v' (n + m) (xs ++ news)) (hg : w.grownBy w' v.ownBlock) :
    w'.ownsRow base e size v n xs ∧ (v'.ownBlock = v.ownBlock ∨ v'.ownBlock = some w.heap.size) := by
  subst hsize
  subst hby
  have hsmall : n + m ≤ 9223372036854775807 := by simp only [maxLen] at h63; omega
  rcases hown.2 with ⟨rfl, rfl⟩ | ⟨g, cap, cur, rfl, hbg, hgg, hnc, hcm, hcs, htake⟩
  · have hx : xs = [] := List.eq_nil_of_length_eq_zero (by simpa using hown.1)
    subst hx
    have hr := run_append_nil (P := P) w t ty e i z ht hi hz a m c news hl hnews hm (by omega) (by have hb := hbytes; simp only [Nat.zero_add] at hb; omega)
    rw [hrun] at hr
    cases hr
    exact ⟨World.ownsRow_nil _ _ _ _, .inr rfl⟩
  · by_cases hroom : n + m ≤ cap
    · have hfit : n * i.size + news.length ≤ cur.size := by rw [hl, hcs, ← Nat.add_mul]; exact Nat.mul_le_mul_right _ hroom
      have hr := run_append_room (P := P) w t ty e i ht hi g n cap cur hgg a m c news hl hnews h1 hroom hfit
      rw [hrun] at hr
      cases hr
      refine ⟨?_, .inl rfl⟩
      obtain ⟨hl2, hc2⟩ := hown'
      rcases hc2 with ⟨h', _⟩ | ⟨a2, b2, cur2, hv2, _, hh2, _, _, hz2, ht2⟩
      · simp at h'
      simp only [Value.slice.injEq, Option.some.injEq, Addr.mk.injEq, and_true, true_and] at hv2
      obtain ⟨rfl, rfl⟩ := hv2
      refine ⟨hown.1, .inr ⟨g, cap, cur2, rfl, hbg, hh2, hnc, hcm, hz2, ?_⟩⟩
      have : n * i.size ≤ (n + m) * i.size := Nat.mul_le_mul_right _ (by omega)
      have h3 : (cur2.toList.take ((n + m) * i.size)).take (n * i.size) = cur2.toList.take (n * i.size) := by rw [List.take_take, Nat.min_eq_left this]
      rw [← h3, ht2, ← hown.1, List.take_left]
    · have hb := append_full w t ty e i z ht hi hz base g n cap xs hown a m c news hl hnews h63 hbytes (by omega) hrun
      have holds : ∀ j u, xs[j]? = some u → w.cell? ((⟨g, 0, none⟩ : Addr).add j) = some u := hown.cells (g := g) rfl
      have hr := run_append_grow (P := P) w t ty e i z ht hi hz ⟨g, 0, none⟩ n cap xs hown.1 holds a m c news hl hnews (by omega) (by omega) (growslice_fits (by omega) hbytes)
      rw [hrun] at hr
      cases hr
      refine ⟨⟨hown.1, .inr ⟨g, cap, cur, rfl, hbg, ?_, hnc, hcm, hcs, htake⟩⟩, .inr rfl⟩
      rw [hb.block g (Array.getElem?_eq_some_iff.1 hgg).1]; exact hgg

theorem wpList_append_told {P : Program} (w : World) {ops : Array Oper} {rest : List Oper} {o : Oper} {a : Act} {Q : Exit → Act → World → Prop} (hgd : o.guard = none) (s x : Operand) (t : TypeId)
    (ho : o.op = .call { callee := .builtin .append, args := #[s, x], argTypes := #[t, t] })
    (base : Nat) (e : TypeId) (i : TypeInfo) (z : Value) (size bytes : Nat) (ht : P.underlying t = some (.slice e)) (hi : P.info? e = some i) (hz : i.zero = some z)
    (hsize : i.size = size) (hby : i.bytes = bytes) (hzs : z.cells.size = size) (hsz : 0 < size)
    (v : Value) (n : Nat) (xs : List Value) (hs : a.eval s = v) (hown : w.ownsRow base e size v n xs)
    (ad : Addr) (m c : Nat) (news : List Value) (hx : a.eval x = .slice (some ad) m c) (hl : news.length = m * size) (hnews : ∀ j u, news[j]? = some u → w.cell? (ad.add j) = some u) (h1 : ∀ u ∈ news, u.oneCell' = true)
    (h63 : n + m ≤ maxLen) (hbytes : (n + m) * bytes ≤ 140737488355328) (hbase : base ≤ w.heap.size) (hm : 0 < m)
    (h : ∀ v' w', w'.ownsRow base e size v' (n + m) (xs ++ news) → w.grownBy w' v.ownBlock → w'.ownsRow base e size v n xs → (v'.ownBlock = v.ownBlock ∨ v'.ownBlock = some w.heap.size) → wpList P ops Q rest (a.put o.dst v') w') : wpList P ops Q (o :: rest) a w :=
  wpList_plain hgd fun _ hK => by
    obtain ⟨v', w', hr, h2, h3, _⟩ := run_append_own (P := P) w base t o.type e i z size bytes ht hi hz hsize hby hzs hsz v n xs hown ad m c news hl hnews h1 h63 hbytes hbase
    obtain ⟨h4, h5⟩ := append_told ht hi hz hsize hby hsz hown hl hnews h1 h63 hbytes hm hr h2 h3
    unfold Oper.wp execOp
    simp only [ho, resolve, invoke, builtin, Sem.run_bind, Sem.run_pure, Result.andThen_ok, List.map_toArray, List.map_cons, List.map_nil, hs, hx, hr]
    exact hK _ _ (h v' w' h2 h3 h4 h5)
end Go.Proofs.YtomdbcddokaagaaDoor

/- BarrierDead: how a cycle begins; what is kept beside. -/
namespace Go.Proofs.YtomdbcddokaagaaDoor
open Go.RowKit

section
variable {α : Type}
def mpN (f : α → α) (l : List α) (i : Nat) : List α := (l.take i).map f ++ l.drop i
theorem mp_zero (f : α → α) (l : List α) : mpN f l 0 = l := by simp [mpN]
theorem mp_len (f : α → α) (l : List α) (i : Nat) : (mpN f l i).length = l.length := by simp [mpN]; omega
theorem mp_at (f : α → α) (l : List α) (i : Nat) : (mpN f l i)[i]? = l[i]? := by
  unfold mpN
  by_cases h : i < l.length
  · rw [List.getElem?_append_right (by simp; omega)]
    simp only [List.length_map, List.length_take, List.getElem?_drop]
    rw [show i + (i - min i l.length) = i by omega]
  · rw [List.getElem?_eq_none (by simp; omega), List.getElem?_eq_none (by omega)]
theorem mp_succ {f : α → α} {l : List α} {i : Nat} {x : α} (h : l[i]? = some x) : mpN f l (i + 1) = (mpN f l i).set i (f x) := by
  have hlt := (List.getElem?_eq_some_iff.1 h).1
  unfold mpN
  rw [List.set_append_right _ _ (by simp; omega)]
  have e : i - ((l.take i).map f).length = 0 := by simp; omega
  rw [e, List.drop_eq_getElem_cons hlt, List.set_cons_zero, List.take_add_one, h]
  have hx : l[i] = x := (List.getElem?_eq_some_iff.1 h).2
  simp
theorem mp_all (f : α → α) (l : List α) : mpN f l l.length = l.map f := by simp [mpN]
end
def wh1 (x : Cl) : Cl := ⟨x.k, 0, x.a, x.b⟩
def ln1 (t : Ln) : Ln := ⟨t.roots, false, t.en⟩
def vA (v : Vw) (i : Nat) : Vw := ⟨mpN wh1 v.h i, 1, v.sw, [], v.gl, 0, v.lanes⟩
def vB (v : Vw) (j : Nat) : Vw := ⟨v.h.map wh1, 1, v.sw, [], v.gl, 0, mpN ln1 v.lanes j⟩
def vC (v : Vw) : Vw := ⟨v.h.map wh1, 1, v.sw, [], v.gl, 0, v.lanes.map ln1⟩
section
variable {z : Wz} {W W' : World} {wb : Nat} {p : Vp} {v : Vw} {L : List Lq}
theorem KX.dead0 (X : KX z W wb p v L) : KX z (((W.setCell ⟨wb, 1, none⟩ (.int .u8 1)).setCell ⟨wb, 5, none⟩ (.int .i64 0)).setCell ⟨wb, 3, none⟩ (.slice none 0 0)) wb { p with yr := none, yc := 0 } (vA v 0) L := by
  have X1 := X.field (p' := p) (v' := ⟨v.h, 1, v.sw, v.grey, v.gl, v.laid, v.lanes⟩) 1 (.int .u8 1) (by unfold Vp.cells; rfl) X.c X.y ⟨rfl, rfl, rfl⟩ ⟨rfl, rfl, rfl⟩ X.ok
  have X2 := X1.laidX 0
  have X3 := X2.field (p' := { p with yr := none, yc := 0 }) (v' := ⟨v.h, 1, v.sw, [], v.gl, 0, v.lanes⟩) 3 (.slice none 0 0) (by unfold Vp.cells; rfl) X2.c (World.ownsRow_nil _ _ _ _) ⟨rfl, rfl, rfl⟩ ⟨rfl, rfl, rfl⟩ X2.ok
  unfold vA
  rw [mp_zero]
  exact X3
/-- What else is known of truths. -/
theorem KX.re (X : KX z W wb p v L) (z' : Wz) (hz : z'.w = z.w) (hP : z'.P W) : KX z' W wb p v L := by
  obtain ⟨w0, P, st⟩ := z
  obtain ⟨w0', P', st'⟩ := z'
  dsimp only at hz
  subst hz
  exact ⟨X.b, X.lb, X.c, X.y, X.g, X.l, X.q, X.ag, X.aq, X.e, X.ok, X.rg, X.rl, X.bel, hP⟩
/-- Truths are turned, nothing else. -/
theorem KX.keepB (X : KX z W wb p v L) (hb : Below z.heap.size z W') (hk : ∀ (k : Nat) (cs : Array Value) (t : TypeId), t ≠ 4 → W.heap[k]? = some (.cells cs t (0, 0)) → W'.heap[k]? = W.heap[k]?) (hP : z.P W') : KX z W' wb p v L := by
  have own : ∀ {e size n : Nat} {x : Value} {xs : List Value}, W.ownsRow z.heap.size e size x n xs → e ≠ 4 → W'.ownsRow z.heap.size e size x n xs := fun h hn => own_same h (fun k hk' => by obtain ⟨cs, hc⟩ := own_blk h hk'; exact hk k cs _ hn hc)
  exact ⟨(hk _ _ _ (by decide) X.b).trans X.b, X.lb, own X.c (by decide), own X.y (by decide), own X.g (by decide), own X.l (by decide), fun q hq => own (X.q q hq) (by decide), X.ag, X.aq, X.e, X.ok, X.rg, X.rl, hb, hP⟩
end
theorem vC_may {v : Vw} (hm : mayV (vC v) = true) : Good (vC v) := by
  have hc : ∀ x ∈ (vC v).h, x.c = 0 := fun x hx => by
    obtain ⟨y, -, rfl⟩ := List.mem_map.1 hx
    rfl
  refine ⟨fm_of hm (.inl rfl), fun c x hx hw hp => ?_, fun x hx => by rw [hc x hx]; exact Int.le_refl _⟩
  rcases pass_iff.1 hp with ⟨d, y, hy, -, h2, -⟩ | ⟨i, g, -, h2, -⟩ | ⟨i, t, ht, h2, -⟩
  · rw [hc y (List.mem_of_getElem? hy)] at h2
    cases h2
  · have h3 : (i : Int) < 0 := h2
    omega
  · obtain ⟨s, -, rfl⟩ := List.mem_map.1 (List.mem_of_getElem? ht)
    cases h2
theorem vC_bn {v : Vw} {N : Nat} (h : Bn v N) : Bn (vC v) N := by
  refine ⟨by show (v.h.map wh1).length ≤ _; rw [List.length_map]; exact h.h, h.g, by show (v.lanes.map ln1).length ≤ _; rw [List.length_map]; exact h.l, fun t ht => ?_⟩
  obtain ⟨s, hs, rfl⟩ := List.mem_map.1 ht
  exact h.r s hs
theorem vC_holds {v : Vw} : hoM (vC v) = if mayV (vC v) then (true, 0, 0) else (false, 0, 130) := by
  cases hm : mayV (vC v) with
  | false => unfold hoM; rw [hm]; rfl
  | true =>
    obtain ⟨G, hF⟩ := (vC_may hm).fm
    have := holds_of hF (vC_may hm).jr (vC_may hm).c0
    unfold hoE at this
    have h1 : (hoM (vC v)).1 = true ∧ (hoM (vC v)).2.1 = 0 ∧ (hoM (vC v)).2.2 = 0 := by
      simpa using this
    rw [if_pos rfl]
    exact Prod.ext h1.1 (Prod.ext h1.2.1 h1.2.2)
theorem vC_dead (v : Vw) : Dd (vC v) (fun c => (orderM (vC v).h (rootsV (vC v))).contains c = true) (fun _ => False) := dead_start (fun x hx => by
  obtain ⟨y, -, rfl⟩ := List.mem_map.1 hx
  rfl)
def fkB (v : Vw) (c : Nat) : Bool := match v.h[c]? with | some x => decide (x.k = 0) | none => true
def kB (v : Vw) (c : Nat) : Bool := match v.h[c]? with | some x => !decide (x.k = 0) | none => false
theorem kB_iff {v : Vw} {c : Nat} : kB v c = true ↔ UsedAt v c := by
  unfold kB UsedAt usedB
  cases h : v.h[c]? with
  | none => simp
  | some x => simp
theorem fkB_iff {v : Vw} {c : Nat} : fkB v c = true ↔ ¬ UsedAt v c := by
  unfold fkB UsedAt usedB
  cases h : v.h[c]? with
  | none => simp
  | some x => simp
def frB (v v' : Vw) (f : Nat → Bool) (c : Nat) : Bool := f c || (fkB v c && kB v' c)
theorem dead_next {v v' : Vw} {A0 f : Nat → Bool} (hm : Mvs v v') (hg : Good v) (h : Dd v (fun c => A0 c = true ∨ f c = true) (fun c => f c = true)) : Dd v' (fun c => A0 c = true ∨ frB v v' f c = true) (fun c => frB v v' f c = true) := by
  obtain ⟨G, hF⟩ := hg.fm
  have key : ∀ c, Nw v v' c ↔ (fkB v c && kB v' c) = true := fun c => by rw [Bool.and_eq_true, kB_iff, fkB_iff]; exact Iff.rfl
  refine (mvs_dead hm hF h).same (fun c => ?_) (fun c => ?_)
  · unfold frB
    rw [key, Bool.or_eq_true, or_assoc]
  · unfold frB
    rw [key, Bool.or_eq_true]
theorem dead_end {v : Vw} {A0 f : Nat → Bool} (h : Dd v (fun c => A0 c = true ∨ f c = true) (fun c => f c = true)) {c : Nat} {x : Cl} (hx : v.h[c]? = some x) : (f c = true → x.c = 2) ∧ (f c = false → A0 c = false → x.k ≠ 0 → x.c = 0) := by
  refine ⟨fun hf => ?_, fun hf hA hk => ?_⟩
  · obtain ⟨-, y, hy, -, h2⟩ := h.fr c hf
    rw [hx] at hy
    cases hy
    exact h2
  · by_cases e : x.c = 0
    · exact e
    · have hu : usedB x = true := by unfold usedB; simp [hk]
      rcases h.co c x hx hu e with h1 | h1
      · rw [hA] at h1; cases h1
      · rw [hf] at h1; cases h1
/-- A row of truths. -/
abbrev TR (W : World) (g n : Nat) (f : Nat → Bool) : Prop := DR W 4 g n (fun k u => u = .bool (f k))
theorem TR.kept {W W' : World} {g n : Nat} {f : Nat → Bool} (h : TR W g n f) (hk : W'.heap[g]? = W.heap[g]?) : TR W' g n f := by
  obtain ⟨cs, h1, h2⟩ := h
  exact ⟨cs, hk.trans h1, h2⟩
theorem TR.stay {W W' : World} {g n : Nat} {f : Nat → Bool} (h : TR W g n f) (hk : ∀ (g : Nat) (cs : Array Value), W.heap[g]? = some (.cells cs 4 (0, 0)) → W'.heap[g]? = W.heap[g]?) : TR W' g n f := by
  obtain ⟨cs, h1, h2⟩ := h
  exact ⟨cs, (hk g cs h1).trans h1, h2⟩
theorem TR.at {W : World} {g n : Nat} {f : Nat → Bool} (h : TR W g n f) {k : Nat} (hk : k < n) : W.cell? ⟨g, k, none⟩ = some (.bool (f k)) ∧ g < W.heap.size ∧ W.frozen? ⟨g, k, none⟩ = false := by
  obtain ⟨cs, h1, h2, h3⟩ := h
  have hc : k < cs.size := by omega
  have := h3 k cs[k] (Array.getElem?_eq_getElem hc)
  refine ⟨heap_cell h1 (by rw [Array.getElem?_eq_getElem hc, this]), heap_lt h1, by simp [World.frozen?, h1]⟩
theorem TR.put {W : World} {g n : Nat} {f f' : Nat → Bool} (h : TR W g n f) (j : Nat) (b : Bool) (hf : ∀ k, f' k = if k = j then b else f k) : TR (W.setCell ⟨g, j, none⟩ (.bool b)) g n f' := by
  obtain ⟨cs, h1, h2, h3⟩ := h
  refine ⟨_, set_atC h1 _, by simp [h2], fun k u hu => ?_⟩
  show u = .bool (f' k)
  rw [hf k]
  by_cases e : j = k
  · subst e
    rw [if_pos rfl]
    have hlt : j < cs.size := by
      have := (Array.getElem?_eq_some_iff.1 hu).1
      simpa using this
    simp [hlt] at hu
    exact hu.symm
  · rw [if_neg (fun h => e h.symm)]
    rw [Array.getElem?_setIfInBounds_ne e] at hu
    exact h3 k u hu
/-- What is known of truths while a step is gone. -/
def zD (w0 : World) (S0 gl gf n : Nat) (A0 f : Nat → Bool) (vq : Value) (fk : Nat → Bool) : Wz := ⟨w0, fun W => TR W gl n A0 ∧ TR W gf n f ∧ W.ownsRow S0 4 1 vq n ((List.range n).map (fun k => .bool (fk k))), fun hk h => ⟨h.1.stay hk, h.2.1.stay hk, own_same h.2.2 (fun g hg => by
    obtain ⟨cs, hc⟩ := own_blk h.2.2 hg
    exact hk g cs hc)⟩⟩
theorem infoBo : (Tryd.prog.info? 4).map (fun i => (i.zero, i.size, i.bytes)) = some (some (.bool false), 1, 1) := by kernel_rfl
theorem bool_one (b : Bool) : ∀ u ∈ [Value.bool b], u.oneCell' = true := by
  intro u hu
  obtain rfl : u = .bool b := by simpa using hu
  rfl
theorem made_truths : ∀ (m : Nat) (_ : m ≤ 60) (W : World), (Instr.makeSlice 73 (.int .i64 (m : Int)) (.int .i64 (m : Int))).run Tryd.prog W = .ok (.slice (some ⟨W.heap.size, 0, none⟩) m m) (W.alloc (.cells ((List.replicate m false).map Value.bool).toArray 4))
  | 0, _, W => by show _ = _; kernel_rfl
  | 1, _, W => by show _ = _; kernel_rfl
  | 2, _, W => by show _ = _; kernel_rfl
  | 3, _, W => by show _ = _; kernel_rfl
  | 4, _, W => by show _ = _; kernel_rfl
  | 5, _, W => by show _ = _; kernel_rfl
  | 6, _, W => by show _ = _; kernel_rfl
  | 7, _, W => by show _ = _; kernel_rfl
  | 8, _, W => by show _ = _; kernel_rfl
  | 9, _, W => by show _ = _; kernel_rfl
  | 10, _, W => by show _ = _; kernel_rfl
  | 11, _, W => by show _ = _; kernel_rfl
  | 12, _, W => by show _ = _; kernel_rfl
  | 13, _, W => by show _ = _; kernel_rfl
  | 14, _, W => by show _ = _; kernel_rfl
  | 15, _, W => by show _ = _; kernel_rfl
  | 16, _, W => by show _ = _; kernel_rfl
  | 17, _, W => by show _ = _; kernel_rfl
  | 18, _, W => by show _ = _; kernel_rfl
  | 19, _, W => by show _ = _; kernel_rfl
  | 20, _, W => by show _ = _; kernel_rfl
  | 21, _, W => by show _ = _; kernel_rfl
  | 22, _, W => by show _ = _; kernel_rfl
  | 23, _, W => by show _ = _; kernel_rfl
  | 24, _, W => by show _ = _; kernel_rfl
  | 25, _, W => by show _ = _; kernel_rfl
  | 26, _, W => by show _ = _; kernel_rfl
  | 27, _, W => by show _ = _; kernel_rfl
  | 28, _, W => by show _ = _; kernel_rfl
  | 29, _, W => by show _ = _; kernel_rfl
  | 30, _, W => by show _ = _; kernel_rfl
  | 31, _, W => by show _ = _; kernel_rfl
  | 32, _, W => by show _ = _; kernel_rfl
  | 33, _, W => by show _ = _; kernel_rfl
  | 34, _, W => by show _ = _; kernel_rfl
  | 35, _, W => by show _ = _; kernel_rfl
  | 36, _, W => by show _ = _; kernel_rfl
  | 37, _, W => by show _ = _; kernel_rfl
  | 38, _, W => by show _ = _; kernel_rfl
  | 39, _, W => by show _ = _; kernel_rfl
  | 40, _, W => by show _ = _; kernel_rfl
  | 41, _, W => by show _ = _; kernel_rfl
  | 42, _, W => by show _ = _; kernel_rfl
  | 43, _, W => by show _ = _; kernel_rfl
  | 44, _, W => by show _ = _; kernel_rfl
  | 45, _, W => by show _ = _; kernel_rfl
  | 46, _, W => by show _ = _; kernel_rfl
  | 47, _, W => by show _ = _; kernel_rfl
  | 48, _, W => by show _ = _; kernel_rfl
  | 49, _, W => by show _ = _; kernel_rfl
  | 50, _, W => by show _ = _; kernel_rfl
  | 51, _, W => by show _ = _; kernel_rfl
  | 52, _, W => by show _ = _; kernel_rfl
  | 53, _, W => by show _ = _; kernel_rfl
  | 54, _, W => by show _ = _; kernel_rfl
  | 55, _, W => by show _ = _; kernel_rfl
  | 56, _, W => by show _ = _; kernel_rfl
  | 57, _, W => by show _ = _; kernel_rfl
  | 58, _, W => by show _ = _; kernel_rfl
  | 59, _, W => by show _ = _; kernel_rfl
  | 60, _, W => by show _ = _; kernel_rfl
  | n + 61, h, _ => absurd h (by omega)
theorem made_tr (W : World) (m : Nat) : TR (W.alloc (.cells ((List.replicate m false).map Value.bool).toArray 4)) W.heap.size m (fun _ => false) := by
  refine ⟨_, heap_alloc_new W _, by simp, fun k u hu => ?_⟩
  rw [List.getElem?_toArray, List.getElem?_map] at hu
  cases h : (List.replicate m false)[k]? with
  | none => rw [h] at hu; cases hu
  | some b =>
    rw [h] at hu
    have := List.eq_of_mem_replicate (List.mem_of_getElem? h)
    rw [this] at hu
    exact (Option.some.inj hu).symm
end Go.Proofs.YtomdbcddokaagaaDoor

/- BarrierDead: what holds between two steps; a truth is put. -/
namespace Go.Proofs.YtomdbcddokaagaaDoor
open Go.RowKit

theorem mvs_len {v v' : Vw} (m : Mvs v v') : v'.h.length = v.h.length := by
  rcases m with rfl | m | ⟨v1, m1, m2⟩
  · rfl
  · exact (mv_nr m).1
  · exact (mv_nr m2).1.trans (mv_nr m1).1
/-- What holds between two steps. -/
def Dst (w0 W : World) (wb gl gf n : Nat) (A0 : Nat → Bool) (N : Nat) : Prop := ∃ (p : Vp) (v : Vw) (L : List Lq) (f : Nat → Bool), KX (zT w0) W wb p v L ∧ Tab W ∧ Good v ∧ Bn v N ∧ v.h.length = n ∧ Dd v (fun c => A0 c = true ∨ f c = true) (fun c => f c = true) ∧ TR W gl n A0 ∧ TR W gf n f
theorem TR.lt {W : World} {g n : Nat} {f : Nat → Bool} (h : TR W g n f) : g < W.heap.size := by
  obtain ⟨cs, h1, _⟩ := h
  exact heap_lt h1
theorem TR.eq {W : World} {g n : Nat} {f f' : Nat → Bool} (h : TR W g n f) (e : ∀ k, f k = f' k) : TR W g n f' := by
  rw [show f' = f from funext fun k => (e k).symm]
  exact h
/-- How far the fresh row is told anew. -/
def frK (v v' : Vw) (f : Nat → Bool) (k : Nat) (c : Nat) : Bool := if c < k then frB v v' f c else f c
section
variable {w0 W : World} {wb S0 gl gf n : Nat} {A0 f fk : Nat → Bool} {vq : Value} {p : Vp} {v : Vw} {L : List Lq}
theorem KX.fresh (X : KX (zD w0 S0 gl gf n A0 f vq fk) W wb p v L) (hlf : gl ≠ gf) (h0 : w0.heap.size ≤ gf) (hS : gf < S0) (k : Nat) (b : Bool) {f' : Nat → Bool} (hf : ∀ c, f' c = if c = k then b else f c) : KX (zD w0 S0 gl gf n A0 f' vq fk) (W.setCell ⟨gf, k, none⟩ (.bool b)) wb p v L := by
  have kp : ∀ g, g ≠ gf → (W.setCell ⟨gf, k, none⟩ (.bool b)).heap[g]? = W.heap[g]? := fun g hg => Below.heap_setCell _ _ _ _ hg
  obtain ⟨P1, P2, P3⟩ := X.bz
  obtain ⟨cs, hcs, -⟩ := id P2
  have X1 : KX (zT w0) W wb p v L := X.re (zT w0) rfl trivial
  have X2 : KX (zT w0) (W.setCell ⟨gf, k, none⟩ (.bool b)) wb p v L := X1.keepB (X1.bel.setCell (p := ⟨gf, k, none⟩) h0 _) (fun g cs' t ht hg => kp g (fun e => by
    subst e
    rw [hcs] at hg
    exact ht ((Obj.cells.inj (Option.some.inj hg)).2.1.symm))) trivial
  refine X2.re _ rfl ⟨P1.kept (kp _ hlf), P2.put k b hf, own_same P3 (fun g hg => kp g (fun e => ?_))⟩
  have := (P3.lt g hg).1
  omega
end
theorem frK_succ {v v' : Vw} {f : Nat → Bool} {k : Nat} (c : Nat) : frK v v' f (k + 1) c = if c = k then (f k || (fkB v k && kB v' k)) else frK v v' f k c := by
  unfold frK
  by_cases h : c = k
  · subst h
    rw [if_pos (by omega), if_pos rfl]
    rfl
  · rw [if_neg h]
    by_cases h1 : c < k
    · rw [if_pos h1, if_pos (by omega)]
    · rw [if_neg h1, if_neg (by omega)]
theorem frK_zero {v v' : Vw} {f : Nat → Bool} (c : Nat) : frK v v' f 0 c = f c := rfl
theorem frK_all {v v' : Vw} {f : Nat → Bool} {n c : Nat} (h : c < n) : frK v v' f n c = frB v v' f c := if_pos h
theorem TR.eqN {W : World} {g n : Nat} {f f' : Nat → Bool} (h : TR W g n f) (e : ∀ k, k < n → f k = f' k) : TR W g n f' := by
  obtain ⟨cs, h1, h2, h3⟩ := h
  refine ⟨cs, h1, h2, fun k u hu => ?_⟩
  show u = .bool (f' k)
  rw [← e k (by have := (Array.getElem?_eq_some_iff.1 hu).1; omega)]
  exact h3 k u hu
end Go.Proofs.YtomdbcddokaagaaDoor
