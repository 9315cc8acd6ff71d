/- One Form, whatever the cells' numbers; Form of Form; another word, another Form. -/
import Derived.Test.YtinijcmnojlphaaDoorHSIso
namespace Go.Proofs.YtinijcmnojlphaaDoor

theorem plc_map {σ : Nat → Nat} {D : Nat → Prop} (inj : ∀ c d, D c → D d → σ c = σ d → c = d) {c : Nat} (hc : D c) : ∀ row : List Nat, (∀ d ∈ row, D d) → plcM (row.map σ) (σ c) = plcM row c := by
  refine snoc_ind (fun _ => rfl) (fun l x ih h => ?_)
  rw [List.map_append]
  show plcM (l.map σ ++ [σ x]) (σ c) = _
  rw [plc_snoc, plc_snoc, List.length_map, ih (fun d hd => h d (List.mem_append_left _ hd))]
  by_cases he : x = c
  · rw [if_pos he, if_pos (by rw [he])]
  · rw [if_neg he, if_neg (fun e => he (inj _ _ (h x (by simp)) hc e))]
theorem moved_iso {σ : Nat → Nat} {D : Nat → Prop} (inj : ∀ c d, D c → D d → σ c = σ d → c = d) {row : List Nat} (hrow : ∀ d ∈ row, D d) {x x' : Int} (hx : Mv σ x x') (hd : ∀ d, refN x = some d → D d) : movedM (row.map σ) x' = movedM row x := by
  unfold movedM
  rw [hx.1]
  cases hc : refN x with
  | none => exact hx.2 hc
  | some c =>
    show mkW 8 (plcM (row.map σ) (σ c) : Nat) = mkW 8 (plcM row c : Nat)
    rw [plc_map inj (hd c hc) row hrow]
theorem getD_some {h : List Cl} {c : Nat} {x z : Cl} (hx : h[c]? = some x) : h.getD c z = x := by rw [List.getD_eq_getElem?_getD, hx]; rfl
theorem Iso.form {h g : List Cl} {l l' : List Int} {σ : Nat → Nat} {D : Nat → Prop} (hi : Iso h g l l' σ D) {r r' : St} (hr : RelS σ D r r') : formH g r' = formH h r := by
  have hrow : ∀ d ∈ r.map (·.1), D d := fun d hd => by
    obtain ⟨p, hp, rfl⟩ := List.mem_map.1 hd
    exact hr.2 p hp
  refine List.ext_getElem? (fun i => ?_)
  unfold formH
  rw [List.getElem?_map, List.getElem?_map]
  cases ha : r[i]? with
  | none => rw [hr.none ha]; rfl
  | some p =>
    obtain ⟨q, hq⟩ := hr.get ha
    obtain ⟨x, x', h1, h2, h3, h4⟩ := hi.cell p.1 (hr.2 p (List.mem_of_getElem? ha))
    rw [hq]
    show some (formedM (r'.map (·.1)) (g.getD (σ p.1) _)) = some (formedM (r.map (·.1)) (h.getD p.1 _))
    rw [getD_some h1, getD_some h2, hr.1]
    unfold formedM
    rw [h3]
    split
    · rfl
    · rename_i hk
      obtain ⟨⟨ma, mb⟩, da, db⟩ := h4 hk
      rw [moved_iso hi.inj hrow ma da, moved_iso hi.inj hrow mb db]
theorem Iso.rootsF {h g : List Cl} {l l' : List Int} {σ : Nat → Nat} {D : Nat → Prop} (hi : Iso h g l l' σ D) {r r' : St} (hr : RelS σ D r r') : l'.map (movedM (r'.map (·.1))) = l.map (movedM (r.map (·.1))) := by
  have hrow : ∀ d ∈ r.map (·.1), D d := fun d hd => by
    obtain ⟨p, hp, rfl⟩ := List.mem_map.1 hd
    exact hr.2 p hp
  refine List.ext_getElem? (fun i => ?_)
  rw [List.getElem?_map, List.getElem?_map, hr.1]
  cases ha : l[i]? with
  | none =>
    have : l'[i]? = none := by rw [List.getElem?_eq_none_iff] at ha ⊢; have := hi.len; omega
    rw [this]; rfl
  | some x =>
    obtain ⟨x', h1, h2, h3⟩ := hi.root i x ha
    rw [h1]
    show some _ = some _
    rw [moved_iso hi.inj hrow h2 h3]
/-- What is met stays met. -/
theorem met_look {r : St} {x q : Int} {d : Nat} (h : metB r d = true) : metB (lookM r x q) d = true := by
  unfold lookM
  split
  · exact h
  · split
    · exact h
    · obtain ⟨q', hq⟩ := metB_iff.1 h
      exact metB_iff.2 ⟨q', List.mem_append_left _ hq⟩
theorem met_new {r : St} {x q : Int} {d : Nat} (h : refN x = some d) : metB (lookM r x q) d = true := by
  unfold lookM
  rw [h]
  show metB (if metB r d then r else r ++ [(d, q)]) d = true
  split
  · rename_i h1; exact h1
  · exact metB_iff.2 ⟨q, by simp⟩
def Cls (h : List Cl) (r : St) (a : Nat) : Prop := ∀ (j : Nat) (p : Nat × Int) (x : Cl), j < a → r[j]? = some p → h[p.1]? = some x → x.k ≠ 0 → ∀ d, (refN x.a = some d ∨ refN x.b = some d) → metB r d = true
theorem met_round {h : List Cl} {a d : Nat} {r : St} (hm : metB r d = true) : metB (roundM h false a r) d = true := by
  unfold roundM
  split
  · exact hm
  · split
    · exact hm
    · split
      · exact hm
      · exact met_look (met_look hm)
theorem round_at {h : List Cl} {a j : Nat} {r : St} {p : Nat × Int} (hp : r[j]? = some p) : (roundM h false a r)[j]? = some p := by
  unfold roundM
  split
  · exact hp
  · split
    · exact hp
    · split
      · exact hp
      · exact look_at (look_at hp)
theorem round_len {h : List Cl} {a : Nat} {r : St} : r.length ≤ (roundM h false a r).length := by
  rcases Nat.eq_zero_or_pos r.length with h0 | h0
  · omega
  · have : r[r.length - 1]? = some r[r.length - 1] := List.getElem?_eq_getElem (by omega)
    have := (List.getElem?_eq_some_iff.1 (round_at (h := h) (a := a) this)).1
    omega
theorem go_closed {h : List Cl} (hh : ∀ x ∈ h, okCl h.length x = true) : ∀ (f a : Nat) {r : St}, OkS h.length r → h.length ≤ a + f → Cls h r a → Cls h (goM h false f a r) (goM h false f a r).length
  | 0, a, r, hr, hf, hc => fun j p x hj hp => hc j p x (by have := hr.len; have : goM h false 0 a r = r := rfl; rw [this] at hj; omega) hp
  | f + 1, a, r, hr, hf, hc => by
    by_cases ha : a < r.length
    · rw [goM_step hr ha]
      refine go_closed hh f (a + 1) (hr.round hh) (by omega) ?_
      intro j p x hj hp hx hk d hd
      have hjl : j < r.length := by omega
      obtain ⟨p', hp'⟩ : ∃ p', r[j]? = some p' := ⟨_, List.getElem?_eq_getElem hjl⟩
      have e : p' = p := Option.some.inj ((round_at (h := h) (a := a) hp').symm.trans hp)
      subst e
      by_cases hja : j < a
      · exact met_round (hc j p' x hja hp' hx hk d hd)
      · have e : j = a := by omega
        subst e
        unfold roundM
        rw [hp']; dsimp only; rw [hx]; dsimp only
        rw [if_neg hk]
        rcases hd with hd | hd
        · exact met_look (met_new hd)
        · exact met_new hd
    · rw [goM_end (by omega)]
      exact fun j p x hj hp => hc j p x (by omega) hp
theorem met_roots : ∀ (l : List Int) {r : St} {d : Nat}, (metB r d = true ∨ ∃ x ∈ l, refN x = some d) → metB (rootsM l r) d = true
  | [], _, _, h => by
    rcases h with h | ⟨x, hx, _⟩
    · exact h
    · cases hx
  | y :: l, r, d, h => by
    show metB (rootsM l (lookM r y (-1))) d = true
    refine met_roots l ?_
    rcases h with h | ⟨x, hx, hd⟩
    · exact .inl (met_look h)
    · rcases List.mem_cons.1 hx with rfl | hx
      · exact .inl (met_new hd)
      · exact .inr ⟨x, hx, hd⟩
theorem met_go {h : List Cl} (hh : ∀ x ∈ h, okCl h.length x = true) {d : Nat} : ∀ (f a : Nat) {r : St}, OkS h.length r → metB r d = true → metB (goM h false f a r) d = true
  | 0, _, _, _, hm => hm
  | f + 1, a, r, hr, hm => by
    by_cases ha : a < r.length
    · rw [goM_step hr ha]; exact met_go hh f (a + 1) (hr.round hh) (met_round hm)
    · rw [goM_end (by omega)]; exact hm
/-- What is reached is closed. -/
theorem walk_closed {h : List Cl} {l : List Int} (hh : heapB h l = true) : (∀ x ∈ l, ∀ d, refN x = some d → d ∈ (walkM h false l).map (·.1)) ∧ ∀ c ∈ (walkM h false l).map (·.1), ∀ x, h[c]? = some x → x.k ≠ 0 → ∀ d, (refN x.a = some d ∨ refN x.b = some d) → d ∈ (walkM h false l).map (·.1) := by
  obtain ⟨h1, h2⟩ := heap_ok hh
  have o1 : OkS h.length (rootsM l []) := OkS.roots l (OkS.nil _) h2
  constructor
  · intro x hx d hd
    exact metB_map.1 (met_go h1 _ _ o1 (met_roots l (.inr ⟨x, hx, hd⟩)))
  · intro c hc x hx hk d hd
    obtain ⟨p, hp, rfl⟩ := List.mem_map.1 hc
    obtain ⟨j, hj⟩ := List.getElem?_of_mem hp
    exact metB_map.1 (go_closed h1 h.length 0 o1 (by omega) (fun j p x hj => by omega) j p x (List.getElem?_eq_some_iff.1 hj).1 hj hx hk d hd)
end Go.Proofs.YtinijcmnojlphaaDoor
