/- A region whose last operation waits for all others: it is carried out behind them. -/
import Derived.StillTailTactics
import Derived.Deep.RegionHeld3
namespace Go.Proofs.YtomdbcddokaagaaDoor

theorem wp_monoQ {P : Program} {o : Oper} {a : Act} {w : World} {K : Act → World → Prop} {Q Q' : Exit → Act → World → Prop} (h : ∀ e a w, e ≠ .normal → Q' e a w → Q e a w) (hh : o.wp P a w K Q') : o.wp P a w K Q := by
  unfold Oper.wp at *
  generalize (execOp a.eval o).run P w = r at *
  have hl : LetsOut Q' → LetsOut Q := fun ⟨a, w, hq⟩ => ⟨a, w, h _ a w (by simp) hq⟩
  cases r with
  | ok n w' =>
    cases n <;> simp only [Oper.upon] at hh ⊢ <;>
      first
        | exact hh
        | exact Calls.mono hh (fun e w'' he => by cases e <;> first | exact he | exact h _ _ _ (by simp) he | exact hl he)
  | halt x w' => cases x <;> simp only [Oper.upon] at hh ⊢ <;> first | exact hh | exact h _ _ _ (by simp) hh | exact hl hh
/-- What is asked of such a region. -/
def lastB (md : Region.Mode) (ops : Array Oper) (n : Nat) : Bool :=
  decide (ops.size = n + 1) && Region.sinkB md ops n && (List.range ops.size).all (fun j => match ops[j]? with
    | some oj => oj.guard.isNone && oj.after.all (fun e => !Region.binds md e || decide (e.on < j))
    | none => false)
structure LB (md : Region.Mode) (ops : Array Oper) (n : Nat) : Prop where
  size : ops.size = n + 1
  sink : Region.sinkB md ops n = true
  gd : ∀ (j : Nat) (oj : Oper), ops[j]? = some oj → oj.guard = none
  ord : ∀ (j : Nat) (oj : Oper), ops[j]? = some oj → ∀ e ∈ oj.after, Region.binds md e = true → e.on < j
theorem lb_of {md : Region.Mode} {ops : Array Oper} {n : Nat} (h : lastB md ops n = true) : LB md ops n := by
  unfold lastB at h
  rw [Bool.and_eq_true, Bool.and_eq_true] at h
  obtain ⟨⟨h1, h2⟩, h3⟩ := h
  have sp : ∀ (j : Nat) (oj : Oper), ops[j]? = some oj → oj.guard.isNone = true ∧ oj.after.all (fun e => !Region.binds md e || decide (e.on < j)) = true := fun j oj hj => by
    have hlt := (Array.getElem?_eq_some_iff.1 hj).1
    have := List.all_eq_true.1 h3 j (List.mem_range.2 hlt)
    rw [hj] at this
    simpa using this
  refine ⟨of_decide_eq_true h1, h2, fun j oj hj => by simpa using (sp j oj hj).1, fun j oj hj e he hb => ?_⟩
  have := Array.all_eq_true'.1 (sp j oj hj).2 e he
  rw [hb] at this
  simpa using this
variable {P : Program} {md : Region.Mode} {ops opsP : Array Oper} {n : Nat} {Q : Exit → Act → World → Prop}
/-- What holds behind all others. -/
def thenQ (P : Program) (ops : Array Oper) (n : Nat) (Q : Exit → Act → World → Prop) : Exit → Act → World → Prop := fun e a w => match e with
  | .normal => wpOp P ops Q n (fun a' w' => Q .normal a' w') a w
  | e => Q e a w
theorem thenQ_normal {a : Act} {w : World} (h : wpOp P ops Q n (fun a' w' => Q .normal a' w') a w) : thenQ P ops n Q .normal a w := h
theorem ready_iff (hL : LB md ops n) (hP : ∀ i, i < n → opsP[i]? = ops[i]?) {ld ldP : Array Bool} (hl : ∀ i d, i < n → ldP.getD i d = ld.getD i d) {i : Nat} (hi : i < n) : i ∈ Region.ready md opsP ldP ↔ i ∈ Region.ready md ops ld := by
  rw [mem_ready, mem_ready, hP i hi, hl i true hi]
  refine and_congr_right fun _ => ⟨fun ⟨oi, ho, h⟩ => ⟨oi, ho, fun e he hb => ?_⟩, fun ⟨oi, ho, h⟩ => ⟨oi, ho, fun e he hb => ?_⟩⟩
  · have := hL.ord i oi ho e he hb
    rw [← hl e.on false (by omega)]
    exact h e he hb
  · have := hL.ord i oi ho e he hb
    rw [hl e.on false (by omega)]
    exact h e he hb
/-- Where nothing of the others is ready, all of them have come up. -/
theorem all_up (hL : LB md ops n) {ld : Array Bool} (hz : ld.size = n + 1) (h : ∀ i, i < n → i ∉ Region.ready md ops ld) : ∀ i, i < n → ld.getD i true = true := by
  intro i
  induction i using Nat.strongRecOn with
  | _ i ih =>
    intro hi
    cases hd : ld.getD i true with
    | true => rfl
    | false =>
      obtain ⟨oi, ho⟩ : ∃ oi, ops[i]? = some oi := ⟨_, Array.getElem?_eq_getElem (by rw [hL.size]; omega)⟩
      refine absurd (mem_ready.2 ⟨hd, oi, ho, fun e he hb => ?_⟩) (h i hi)
      have hlt := hL.ord i oi ho e he hb
      have h1 := ih e.on hlt (by omega)
      have hs : e.on < ld.size := by omega
      simp [hs] at h1 ⊢
      exact h1
theorem any_last (hL : LB md ops n) (hz : opsP.size = n) (hP : ∀ i, i < n → opsP[i]? = ops[i]?) : ∀ (f : Nat) (ld ldP : Array Bool) (a : Act) (w : World), HeadInv md ops n ld → ldP.size = n → (∀ i d, i < n → ldP.getD i d = ld.getD i d) → wpAny P md opsP (thenQ P ops n Q) f ldP a w → wpAny P md ops Q (f + 1) ld a w := by
  have hc : Region.chainB md ops n = true := by
    unfold Region.chainB
    rw [List.all_eq_true]
    intro t ht
    have := List.mem_range.1 ht
    rw [hL.size] at this
    simp
    exact .inl (by omega)
  have hsz : n < ops.size := by rw [hL.size]; omega
  obtain ⟨on, hon⟩ : ∃ on, ops[n]? = some on := ⟨_, Array.getElem?_eq_getElem hsz⟩
  -- nothing of the others is left
  have done : ∀ (f : Nat) (ld ldP : Array Bool) (a : Act) (w : World), HeadInv md ops n ld → (∀ i d, i < n → ldP.getD i d = ld.getD i d) → Region.ready md opsP ldP = [] → thenQ P ops n Q .normal a w → wpAny P md ops Q (f + 1) ld a w := by
    intro f ld ldP a w inv hl hr hq
    have hz2 : ld.size = n + 1 := by rw [inv.size, hL.size]
    have hall := all_up hL hz2 (fun i hi hm => by
      have := (ready_iff hL hP hl hi).2 hm
      rw [hr] at this
      cases this)
    have hn : n ∈ Region.ready md ops ld := mem_ready.2 ⟨inv.tail n (Nat.le_refl _) hsz, on, hon, fun e he hb => by
      have hlt := hL.ord n on hon e he hb
      have h1 := hall e.on hlt
      have hs : e.on < ld.size := by omega
      simp [hs] at h1 ⊢
      exact h1⟩
    have hr0 : Region.ready md ops (ld.setIfInBounds n true) = [] := by
      refine List.eq_nil_iff_forall_not_mem.2 fun i hi => ?_
      obtain ⟨h1, oi, ho, _⟩ := mem_ready.1 hi
      have hlt := (Array.getElem?_eq_some_iff.1 ho).1
      rw [hL.size] at hlt
      by_cases e : n = i
      · subst e
        simp [hz2] at h1
      · rw [getD_set_ne true e, hall i (by omega)] at h1
        cases h1
    refine ⟨fun h0 => (by rw [h0] at hn; cases hn), fun i hi => ?_⟩
    obtain ⟨h1, oi, ho, _⟩ := mem_ready.1 hi
    have hlt := (Array.getElem?_eq_some_iff.1 ho).1
    rw [hL.size] at hlt
    have e : i = n := by
      by_cases e : i = n
      · exact e
      · rw [hall i (by omega)] at h1
        cases h1
    subst e
    refine wpOp_mono (fun a' w' hq' => ?_) hq
    cases f with
    | zero => exact ⟨hr0, hq'⟩
    | succ f => exact ⟨fun _ => hq', fun j hj => by rw [hr0] at hj; cases hj⟩
  intro f
  induction f with
  | zero =>
    intro ld ldP a w inv hzp hl h
    exact done 0 ld ldP a w inv hl h.1 h.2
  | succ f ih =>
    intro ld ldP a w inv hzp hl h
    by_cases hr : Region.ready md opsP ldP = []
    · exact done (f + 1) ld ldP a w inv hl hr (h.1 hr)
    · obtain ⟨j, hj⟩ := List.exists_mem_of_ne_nil _ hr
      obtain ⟨j1, oj, jo, _⟩ := mem_ready.1 hj
      have jlt : j < n := by
        have := (Array.getElem?_eq_some_iff.1 jo).1
        omega
      have jr := (ready_iff hL hP hl jlt).1 hj
      have jun := (mem_ready.1 jr).1
      have nn : n ∉ Region.ready md ops ld := tail_waits hL.sink hc hsz inv (n - j) j rfl jlt jun n (Nat.le_refl _)
      refine ⟨fun h0 => (by rw [h0] at jr; cases jr), fun i hi => ?_⟩
      obtain ⟨_, oi, ho, _⟩ := mem_ready.1 hi
      have ilt := (Array.getElem?_eq_some_iff.1 ho).1
      rw [hL.size] at ilt
      have hin : i < n := by
        have : i ≠ n := fun e => nn (by rw [← e]; exact hi)
        omega
      have hw := h.2 i ((ready_iff hL hP hl hin).2 hi)
      have hwt : ∀ y, Region.wanted oi y = true := fun y => by simp [Region.wanted, hL.gd i oi ho]
      unfold wpOp at hw ⊢
      rw [hP i hin, ho] at hw
      rw [ho]
      dsimp only at hw ⊢
      rw [if_pos (hwt _)] at hw ⊢
      have mq : ∀ e a w, e ≠ .normal → thenQ P ops n Q e a w → Q e a w := fun e a w hne hq => by
        cases e <;> first | exact absurd rfl hne | exact hq
      refine hw.imp (fun hh => Oper.wp_mono (fun a' w' h' => ih _ _ a' w' (inv.set hi hin) (by simp [hzp]) (fun k d hk => ?_) h') (wp_monoQ mq hh)) (fun ⟨h1, a2, w2, h2⟩ => ⟨h1, a2, w2, mq _ _ _ (by simp) h2⟩)
      by_cases e : i = k
      · subst e
        have s1 : i < ldP.size := by omega
        have s2 : i < ld.size := by rw [inv.size, hL.size]; omega
        simp [s1, s2]
      · rw [getD_set_ne d e, getD_set_ne d e]
        exact hl k d hk
/-- A region whose last operation waits for all others. -/
theorem region_last {id : Nat} {a : Act} {w : World} {l : List Oper} (n : Nat) (hm : P.follows .mixedOrders = true) (hB : lastB .any l.toArray n = true) (h : wpAny P .any (l.take n).toArray (thenQ P l.toArray n Q) n (Array.replicate n false) a w.drew) : (Code.region id l.toArray true).wp P Q a w := by
  have hL := lb_of hB
  have hz : l.length = n + 1 := by simpa using hL.size
  refine wp_region_any hm ?_
  have := any_last (P := P) (Q := Q) (opsP := (l.take n).toArray) hL (by simp; omega) (fun i hi => by simp [hi]) n (Array.replicate (n + 1) false) (Array.replicate n false) a w.drew ⟨by simp [hz], fun j oj _ hl => (by rw [getD_replicate_false] at hl; cases hl), fun t _ ht => getD_in (by rw [hL.size] at ht; simpa using ht) (getD_replicate_false _ _)⟩ (by simp) (fun i d hi => by simp [hi, Nat.lt_succ_of_lt hi]) h
  rw [show l.toArray.size = n + 1 from hL.size]
  exact this
/-- So that what stands ahead of it may be taken by a set of worlds. -/
theorem region_last_held {id : Nat} {a : Act} {w : World} {l : List Oper} {S : World → Prop} (n : Nat) (hm : P.follows .mixedOrders = true) (hB : lastB .any l.toArray n = true) (h : wpAnyH P .any (l.take n).toArray (thenQ P l.toArray n Q) S n (Array.replicate n false) a w.drew) : (Code.region id l.toArray true).wp P Q a w :=
  region_last n hm hB (wpAny_of_held _ _ _ _ h)
end Go.Proofs.YtomdbcddokaagaaDoor
