/- The document's order of words is the program's walk. -/
import Derived.Test.YtdcmkifljcdmmaaGreatDoorHHReach
namespace Go.Proofs.YtdcmkifljcdmmaaGreatDoor

/-- The words that a met cell adds. -/
def wsM (h : List Cl) (c : Nat) : List Int := match h[c]? with
  | some x => if x.k = 0 then [] else [x.a, x.b]
  | none => []
def cs1 (r : St) : List Nat := r.map (·.1)
/-- All words that are to be looked at, when r have been met. -/
def quM (h : List Cl) (roots : List Int) (r : St) : List Int := roots ++ (cs1 r).flatMap (wsM h)
theorem met_cs (r : St) (c : Nat) : metB r c = (cs1 r).contains c := by
  unfold metB cs1
  induction r with
  | nil => rfl
  | cons p r ih =>
    rw [List.any_cons, List.map_cons, List.contains_cons, ih]
    congr 1
    exact Bool.beq_comm
theorem ord_look {h : List Cl} {roots : List Int} {r : St} {x q : Int} (hx : fitsW h.length x = true) : ordS h (cs1 r) (quM h roots r) x = (cs1 (lookM r x q), quM h roots (lookM r x q)) := by
  unfold lookM
  cases hr : refN x with
  | none => rw [ordS_none hr]
  | some c =>
    dsimp only
    have hc := ref_fits hx hr
    have hg := List.getElem?_eq_getElem hc
    rw [met_cs]
    cases hm : (cs1 r).contains c
    · rw [ordS_new hr hm hg, if_neg (show ¬ (false = true) by decide)]
      have e1 : cs1 (r ++ [(c, q)]) = cs1 r ++ [c] := by simp [cs1]
      have e2 : wsM h c = if h[c].k = 0 then [] else [h[c].a, h[c].b] := by unfold wsM; rw [hg]
      unfold quM
      rw [e1, List.flatMap_append, List.flatMap_singleton, e2]
      split
      · simp
      · simp
    · rw [ordS_met hr hm, if_pos rfl]
theorem qu_look (h : List Cl) (roots : List Int) (r : St) (x q : Int) : ∃ t, quM h roots (lookM r x q) = quM h roots r ++ t := by
  unfold lookM
  split
  · exact ⟨[], by simp⟩
  · split
    · exact ⟨[], by simp⟩
    · rename_i c _ _
      refine ⟨wsM h c, ?_⟩
      unfold quM cs1
      rw [List.map_append, List.flatMap_append]
      simp
theorem ws_le (h : List Cl) (c : Nat) : (wsM h c).length ≤ 2 := by
  unfold wsM
  split
  · split <;> simp
  · simp
theorem flat_le (h : List Cl) : ∀ l : List Nat, (l.flatMap (wsM h)).length ≤ 2 * l.length
  | [] => by simp
  | c :: l => by
    rw [List.flatMap_cons, List.length_append, List.length_cons]
    have := ws_le h c
    have := flat_le h l
    omega
/-- The roots. -/
theorem ord_roots {h : List Cl} {roots : List Int} (hf : ∀ x ∈ roots, fitsW h.length x = true) : ∀ (m : List Int) (i f : Nat) (r : St), roots.drop i = m → ordM h (f + m.length) i (cs1 r) (quM h roots r) = ordM h f (i + m.length) (cs1 (rootsM m r)) (quM h roots (rootsM m r))
  | [], i, f, r, _ => rfl
  | x :: m, i, f, r, hm => by
    have hi : roots[i]? = some x := by
      have := congrArg (fun l : List Int => l[0]?) hm
      simpa using this
    have hil := (List.getElem?_eq_some_iff.1 hi).1
    have hq : (quM h roots r)[i]? = some x := by unfold quM; rw [List.getElem?_append_left hil]; exact hi
    have hm' : roots.drop (i + 1) = m := by rw [← List.drop_drop, hm]; rfl
    rw [List.length_cons, ← Nat.add_assoc, ordM_step hq, ord_look (q := -1) (hf x (List.mem_of_getElem? hi))]
    have := ord_roots hf m (i + 1) f (lookM r x (-1)) hm'
    rw [this, show i + 1 + m.length = i + (m.length + 1) by omega]
    rfl
/-- All that is met. -/
theorem ord_go {h : List Cl} {roots : List Int} (hh : ∀ x ∈ h, okCl h.length x = true) : ∀ (g f a : Nat) (r : St), OkS h.length r → a ≤ r.length → h.length ≤ g + a → roots.length + 2 * h.length ≤ f + (roots.length + (((cs1 r).take a).flatMap (wsM h)).length) →
    ordM h f (roots.length + (((cs1 r).take a).flatMap (wsM h)).length) (cs1 r) (quM h roots r) = cs1 (goM h false g a r) := by
  intro g
  induction g with
  | zero =>
    intro f a r hr ha hg hf
    have hl := hr.len
    have e : a = r.length := by omega
    subst e
    rw [goM_end (Nat.le_refl _), ordM_end]
    have : (cs1 r).take r.length = cs1 r := List.take_of_length_le (by simp [cs1])
    rw [this]
    simp [quM]
  | succ g ih =>
    intro f a r hr ha hg hf
    by_cases hal : a < r.length
    · rw [goM_step hr hal]
      have hl := hr.len
      obtain ⟨p, hp⟩ : ∃ p, r[a]? = some p := ⟨_, List.getElem?_eq_getElem hal⟩
      have hc : (cs1 r)[a]? = some p.1 := by unfold cs1; rw [List.getElem?_map, hp]; rfl
      have hpl : p.1 < h.length := hr.lt p (List.mem_of_getElem? hp)
      obtain ⟨x, hx⟩ : ∃ x, h[p.1]? = some x := ⟨_, List.getElem?_eq_getElem hpl⟩
      have hw : wsM h p.1 = if x.k = 0 then [] else [x.a, x.b] := by unfold wsM; rw [hx]
      have hro : roundM h false a r = if x.k = 0 then r else lookM (lookM r x.a p.1) x.b p.1 := by unfold roundM; rw [hp]; dsimp only; rw [hx]; rfl
      have htk : ∀ r' : St, (cs1 r)[a]? = (cs1 r')[a]? → (cs1 r').take a = (cs1 r).take a → (((cs1 r').take (a + 1)).flatMap (wsM h)).length = (((cs1 r).take a).flatMap (wsM h)).length + (wsM h p.1).length := fun r' e1 e2 => by
        rw [List.take_add_one, ← e1, hc, e2, List.flatMap_append, List.length_append]
        simp
      have hfl := flat_le h ((cs1 r).take a)
      rw [List.length_take] at hfl
      have hfl2 : (((cs1 r).take a).flatMap (wsM h)).length ≤ 2 * a := by omega
      rw [hro]
      by_cases hk : x.k = 0
      · rw [if_pos hk]
        rw [if_pos hk] at hw
        have e := htk r rfl rfl
        rw [hw, List.length_nil, Nat.add_zero] at e
        have := ih f (a + 1) r hr (by omega) (by omega) (by rw [e]; exact hf)
        rw [e] at this
        exact this
      · rw [if_neg hk]
        rw [if_neg hk] at hw
        have hfit : fitsW h.length x.a = true ∧ fitsW h.length x.b = true := own_fits false (hh x (List.mem_of_getElem? hx)) hk
        obtain ⟨f2, rfl⟩ : ∃ f2, f = f2 + 1 + 1 := ⟨f - 2, by omega⟩
        have hqu : quM h roots r = (roots ++ ((cs1 r).take a).flatMap (wsM h)) ++ ([x.a, x.b] ++ ((cs1 r).drop (a + 1)).flatMap (wsM h)) := by
          unfold quM
          have e3 : cs1 r = (cs1 r).take a ++ (p.1 :: (cs1 r).drop (a + 1)) := by
            have hal2 : a < (cs1 r).length := by simp [cs1]; exact hal
            conv => lhs; rw [← List.take_append_drop a (cs1 r)]
            rw [List.drop_eq_getElem_cons hal2, (List.getElem?_eq_some_iff.1 hc).2]
          conv => lhs; rw [e3]
          rw [List.flatMap_append, List.flatMap_cons, hw]
          simp
        have hn : (roots ++ ((cs1 r).take a).flatMap (wsM h)).length = roots.length + (((cs1 r).take a).flatMap (wsM h)).length := by rw [List.length_append]
        have q1 : (quM h roots r)[roots.length + (((cs1 r).take a).flatMap (wsM h)).length]? = some x.a := by
          rw [hqu, ← hn, List.getElem?_append_right (Nat.le_refl _), Nat.sub_self]; rfl
        have q2 : (quM h roots r)[roots.length + (((cs1 r).take a).flatMap (wsM h)).length + 1]? = some x.b := by
          rw [hqu, ← hn, List.getElem?_append_right (by omega), Nat.add_sub_cancel_left]; rfl
        rw [ordM_step q1, ord_look (q := p.1) hfit.1]
        obtain ⟨t, ht⟩ := qu_look h roots r x.a p.1
        have q3 : (quM h roots (lookM r x.a p.1))[roots.length + (((cs1 r).take a).flatMap (wsM h)).length + 1]? = some x.b := by
          rw [ht, List.getElem?_append_left (List.getElem?_eq_some_iff.1 q2).1]; exact q2
        rw [ordM_step q3, ord_look (q := p.1) hfit.2]
        have hr2 : OkS h.length (lookM (lookM r x.a p.1) x.b p.1) := (hr.look hfit.1).look hfit.2
        have hpre : ∀ (r : St) (y q : Int), ∃ t, cs1 (lookM r y q) = cs1 r ++ t := fun r y q => by
          unfold lookM
          split
          · exact ⟨[], by simp⟩
          · split
            · exact ⟨[], by simp⟩
            · rename_i c _ _; exact ⟨[c], by simp [cs1]⟩
        obtain ⟨t1, h1⟩ := hpre r x.a p.1
        obtain ⟨t2, h2⟩ := hpre (lookM r x.a p.1) x.b p.1
        have hlen : (cs1 r).length = r.length := by simp [cs1]
        have e4 : cs1 (lookM (lookM r x.a p.1) x.b p.1) = cs1 r ++ (t1 ++ t2) := by rw [h2, h1, List.append_assoc]
        have e := htk (lookM (lookM r x.a p.1) x.b p.1) (by rw [e4, List.getElem?_append_left (by omega)]) (by rw [e4, List.take_append_of_le_length (by omega)])
        rw [hw] at e
        have hl2 : r.length ≤ (lookM (lookM r x.a p.1) x.b p.1).length := by
          have := congrArg List.length e4
          simp only [cs1, List.length_map, List.length_append] at this
          omega
        have := ih f2 (a + 1) _ hr2 (by omega) (by omega) (by rw [e, List.length_cons, List.length_cons, List.length_nil]; omega)
        rw [e] at this
        exact this
    · have e : a = r.length := by omega
      subst e
      rw [goM_end (Nat.le_refl _), ordM_end]
      have : (cs1 r).take r.length = cs1 r := List.take_of_length_le (by simp [cs1])
      rw [this]
      simp [quM]
/-- One order. -/
theorem order_walk {h : List Cl} {roots : List Int} (hok : heapB h roots = true) : orderM h roots = (walkM h false roots).map (·.1) := by
  obtain ⟨hh, hf⟩ := heap_ok hok
  have h1 := ord_roots (h := h) hf roots 0 (2 * h.length) [] rfl
  have h0 : OkS h.length (rootsM roots []) := (OkS.nil _).roots roots hf
  have h2 := ord_go (roots := roots) hh h.length (2 * h.length) 0 (rootsM roots []) h0 (Nat.zero_le _) (by omega) (by simp; omega)
  have e0 : quM h roots [] = roots := by simp [quM, cs1]
  have e1 : cs1 [] = [] := rfl
  rw [e0, e1] at h1
  unfold orderM
  rw [Nat.add_comm roots.length, h1, Nat.zero_add]
  rw [List.take_zero, List.flatMap_nil, List.length_nil, Nat.add_zero] at h2
  exact h2
end Go.Proofs.YtdcmkifljcdmmaaGreatDoor
