/- One Form, whatever the cells' numbers; Form of Form; another word, another Form.; Form of Form; cells numbered otherwise; another word. -/
import Derived.Test.YtejmoopgfnjaaaaDoorK04
/- One Form, whatever the cells' numbers; Form of Form; another word, another Form. -/
namespace Go.Proofs.YtejmoopgfnjaaaaDoor

theorem plc_map {σ : Nat → Nat} {D : Nat → Prop} (inj : ∀ c d, D c → D d → σ c = σ d → c = d) {c : Nat} (hc : D c) : ∀ row : List Nat, (∀ d ∈ row, D d) → plcM (row.map σ) (σ c) = plcM row c := by
  refine snoc_ind (fun _ => rfl) (fun l x ih h => ?_)
  rw [List.map_append]
  show plcM (l.map σ ++ [σ x]) (σ c) = _
  rw [plc_snoc, plc_snoc, List.length_map, ih (fun d hd => h d (List.mem_append_left _ hd))]
  by_cases he : x = c
  · rw [if_pos he, if_pos (by rw [he])]
  · rw [if_neg he, if_neg (fun e => he (inj _ _ (h x (by simp)) hc e))]
theorem moved_iso {σ : Nat → Nat} {D : Nat → Prop} (inj : ∀ c d, D c → D d → σ c = σ d → c = d) {row : List Nat} (hrow : ∀ d ∈ row, D d) {x x' : Int} (hx : Mv σ x x') (hd : ∀ d, refN x = some d → D d) : movedM (row.map σ) x' = movedM row x := by
  unfold movedM
  rw [hx.1]
  cases hc : refN x with
  | none => exact hx.2 hc
  | some c =>
    show mkW 8 (plcM (row.map σ) (σ c) : Nat) = mkW 8 (plcM row c : Nat)
    rw [plc_map inj (hd c hc) row hrow]
theorem getD_some {h : List Cl} {c : Nat} {x z : Cl} (hx : h[c]? = some x) : h.getD c z = x := by rw [List.getD_eq_getElem?_getD, hx]; rfl
theorem Iso.form {h g : List Cl} {l l' : List Int} {σ : Nat → Nat} {D : Nat → Prop} (hi : Iso h g l l' σ D) {r r' : St} (hr : RelS σ D r r') : formH g r' = formH h r := by
  have hrow : ∀ d ∈ r.map (·.1), D d := fun d hd => by
    obtain ⟨p, hp, rfl⟩ := List.mem_map.1 hd
    exact hr.2 p hp
  refine List.ext_getElem? (fun i => ?_)
  unfold formH
  rw [List.getElem?_map, List.getElem?_map]
  cases ha : r[i]? with
  | none => rw [hr.none ha]; rfl
  | some p =>
    obtain ⟨q, hq⟩ := hr.get ha
    obtain ⟨x, x', h1, h2, h3, h4⟩ := hi.cell p.1 (hr.2 p (List.mem_of_getElem? ha))
    rw [hq]
    show some (formedM (r'.map (·.1)) (g.getD (σ p.1) _)) = some (formedM (r.map (·.1)) (h.getD p.1 _))
    rw [getD_some h1, getD_some h2, hr.1]
    unfold formedM
    rw [h3]
    split
    · rfl
    · rename_i hk
      obtain ⟨⟨ma, mb⟩, da, db⟩ := h4 hk
      rw [moved_iso hi.inj hrow ma da, moved_iso hi.inj hrow mb db]
theorem Iso.rootsF {h g : List Cl} {l l' : List Int} {σ : Nat → Nat} {D : Nat → Prop} (hi : Iso h g l l' σ D) {r r' : St} (hr : RelS σ D r r') : l'.map (movedM (r'.map (·.1))) = l.map (movedM (r.map (·.1))) := by
  have hrow : ∀ d ∈ r.map (·.1), D d := fun d hd => by
    obtain ⟨p, hp, rfl⟩ := List.mem_map.1 hd
    exact hr.2 p hp
  refine List.ext_getElem? (fun i => ?_)
  rw [List.getElem?_map, List.getElem?_map, hr.1]
  cases ha : l[i]? with
  | none =>
    have : l'[i]? = none := by rw [List.getElem?_eq_none_iff] at ha ⊢; have := hi.len; omega
    rw [this]; rfl
  | some x =>
    obtain ⟨x', h1, h2, h3⟩ := hi.root i x ha
    rw [h1]
    show some _ = some _
    rw [moved_iso hi.inj hrow h2 h3]
/-- What is met stays met. -/
theorem met_look {r : St} {x q : Int} {d : Nat} (h : metB r d = true) : metB (lookM r x q) d = true := by
  unfold lookM
  split
  · exact h
  · split
    · exact h
    · obtain ⟨q', hq⟩ := metB_iff.1 h
      exact metB_iff.2 ⟨q', List.mem_append_left _ hq⟩
theorem met_new {r : St} {x q : Int} {d : Nat} (h : refN x = some d) : metB (lookM r x q) d = true := by
  unfold lookM
  rw [h]
  show metB (if metB r d then r else r ++ [(d, q)]) d = true
  split
  · rename_i h1; exact h1
  · exact metB_iff.2 ⟨q, by simp⟩
def Cls (h : List Cl) (r : St) (a : Nat) : Prop := ∀ (j : Nat) (p : Nat × Int) (x : Cl), j < a → r[j]? = some p → h[p.1]? = some x → x.k ≠ 0 → ∀ d, (refN x.a = some d ∨ refN x.b = some d) → metB r d = true
theorem met_round {h : List Cl} {a d : Nat} {r : St} (hm : metB r d = true) : metB (roundM h false a r) d = true := by
  unfold roundM
  split
  · exact hm
  · split
    · exact hm
    · split
      · exact hm
      · exact met_look (met_look hm)
theorem round_at {h : List Cl} {a j : Nat} {r : St} {p : Nat × Int} (hp : r[j]? = some p) : (roundM h false a r)[j]? = some p := by
  unfold roundM
  split
  · exact hp
  · split
    · exact hp
    · split
      · exact hp
      · exact look_at (look_at hp)
theorem round_len {h : List Cl} {a : Nat} {r : St} : r.length ≤ (roundM h false a r).length := by
  rcases Nat.eq_zero_or_pos r.length with h0 | h0
  · omega
  · have : r[r.length - 1]? = some r[r.length - 1] := List.getElem?_eq_getElem (by omega)
    have := (List.getElem?_eq_some_iff.1 (round_at (h := h) (a := a) this)).1
    omega
theorem go_closed {h : List Cl} (hh : ∀ x ∈ h, okCl h.length x = true) : ∀ (f a : Nat) {r : St}, OkS h.length r → h.length ≤ a + f → Cls h r a → Cls h (goM h false f a r) (goM h false f a r).length
  | 0, a, r, hr, hf, hc => fun j p x hj hp => hc j p x (by have := hr.len; have : goM h false 0 a r = r := rfl; rw [this] at hj; omega) hp
  | f + 1, a, r, hr, hf, hc => by
    by_cases ha : a < r.length
    · rw [goM_step hr ha]
      refine go_closed hh f (a + 1) (hr.round hh) (by omega) ?_
      intro j p x hj hp hx hk d hd
      have hjl : j < r.length := by omega
      obtain ⟨p', hp'⟩ : ∃ p', r[j]? = some p' := ⟨_, List.getElem?_eq_getElem hjl⟩
      have e : p' = p := Option.some.inj ((round_at (h := h) (a := a) hp').symm.trans hp)
      subst e
      by_cases hja : j < a
      · exact met_round (hc j p' x hja hp' hx hk d hd)
      · have e : j = a := by omega
        subst e
        unfold roundM
        rw [hp']; dsimp only; rw [hx]; dsimp only
        rw [if_neg hk]
        rcases hd with hd | hd
        · exact met_look (met_new hd)
        · exact met_new hd
    · rw [goM_end (by omega)]
      exact fun j p x hj hp => hc j p x (by omega) hp
theorem met_roots : ∀ (l : List Int) {r : St} {d : Nat}, (metB r d = true ∨ ∃ x ∈ l, refN x = some d) → metB (rootsM l r) d = true
  | [], _, _, h => by
    rcases h with h | ⟨x, hx, _⟩
    · exact h
    · cases hx
  | y :: l, r, d, h => by
    show metB (rootsM l (lookM r y (-1))) d = true
    refine met_roots l ?_
    rcases h with h | ⟨x, hx, hd⟩
    · exact .inl (met_look h)
    · rcases List.mem_cons.1 hx with rfl | hx
      · exact .inl (met_new hd)
      · exact .inr ⟨x, hx, hd⟩
theorem met_go {h : List Cl} (hh : ∀ x ∈ h, okCl h.length x = true) {d : Nat} : ∀ (f a : Nat) {r : St}, OkS h.length r → metB r d = true → metB (goM h false f a r) d = true
  | 0, _, _, _, hm => hm
  | f + 1, a, r, hr, hm => by
    by_cases ha : a < r.length
    · rw [goM_step hr ha]; exact met_go hh f (a + 1) (hr.round hh) (met_round hm)
    · rw [goM_end (by omega)]; exact hm
/-- What is reached is closed. -/
theorem walk_closed {h : List Cl} {l : List Int} (hh : heapB h l = true) : (∀ x ∈ l, ∀ d, refN x = some d → d ∈ (walkM h false l).map (·.1)) ∧ ∀ c ∈ (walkM h false l).map (·.1), ∀ x, h[c]? = some x → x.k ≠ 0 → ∀ d, (refN x.a = some d ∨ refN x.b = some d) → d ∈ (walkM h false l).map (·.1) := by
  obtain ⟨h1, h2⟩ := heap_ok hh
  have o1 : OkS h.length (rootsM l []) := OkS.roots l (OkS.nil _) h2
  constructor
  · intro x hx d hd
    exact metB_map.1 (met_go h1 _ _ o1 (met_roots l (.inr ⟨x, hx, hd⟩)))
  · intro c hc x hx hk d hd
    obtain ⟨p, hp, rfl⟩ := List.mem_map.1 hc
    obtain ⟨j, hj⟩ := List.getElem?_of_mem hp
    exact metB_map.1 (go_closed h1 h.length 0 o1 (by omega) (fun j p x hj => by omega) j p x (List.getElem?_eq_some_iff.1 hj).1 hj hx hk d hd)
end Go.Proofs.YtejmoopgfnjaaaaDoor

/- Form of Form; cells numbered otherwise; another word. -/
namespace Go.Proofs.YtejmoopgfnjaaaaDoor

theorem mk8 {n : Nat} (h : n ≤ 2147483647) : mkW 8 (n : Int) = 16 * n + 8 := by
  have ht : isTagB 8 = true := by decide
  have hm : mayB 8 (n : Int) = true := by
    rw [may_iff]; simp [lo, hi]; omega
  unfold mkW
  rw [if_pos ht, if_pos hm]
  unfold mk; omega
theorem refN_mk {n : Nat} (h : n ≤ 2147483647) : refN (mkW 8 (n : Int)) = some n := by
  have ht : isTagB 8 = true := by decide
  have hm : mayB 8 (n : Int) = true := by
    rw [may_iff]; simp [lo, hi]; omega
  have e : mkW 8 (n : Int) = mk 8 n := by unfold mkW; rw [if_pos ht, if_pos hm]
  have hw := wd_mk ht hm
  have h1 : ofT (mk 8 n) = 8 := by unfold ofT; rw [if_pos hw, tg_mk _ (by omega) (by omega)]
  have h2 : ofN (mk 8 n) = n := by unfold ofN; rw [if_pos hw, nm_mk (by omega) (by omega) (by omega)]
  rw [e]; unfold refN; rw [if_pos h1, h2]; simp
theorem wd_mk8 {n : Nat} (h : n ≤ 2147483647) : wd (mkW 8 (n : Int)) = true := by
  have ht : isTagB 8 = true := by decide
  have hm : mayB 8 (n : Int) = true := by
    rw [may_iff]; simp [lo, hi]; omega
  have e : mkW 8 (n : Int) = mk 8 n := by unfold mkW; rw [if_pos ht, if_pos hm]
  rw [e]; exact wd_mk ht hm
theorem fits_mk8 {n m : Nat} (h : n ≤ 2147483647) (hm : n < m) : fitsW m (mkW 8 (n : Int)) = true := by
  unfold fitsW
  rw [wd_mk8 h, refN_mk h]
  simpa using hm
theorem row_of {r : List Nat} (hnd : r.Nodup) {c : Nat} (hc : c ∈ r) : r[plcM r c]? = some c ∧ plcM r c < r.length := by
  obtain ⟨i, hi⟩ := List.getElem?_of_mem hc
  rw [plc_at r hnd i hi]
  exact ⟨hi, (List.getElem?_eq_some_iff.1 hi).1⟩
theorem fits_moved {row : List Nat} (hnd : row.Nodup) (hl : row.length ≤ 1000000) {n : Nat} {x : Int} (hx : fitsW n x = true) (hd : ∀ d, refN x = some d → d ∈ row) : fitsW row.length (movedM row x) = true := by
  unfold movedM
  cases hc : refN x with
  | none =>
    unfold fitsW at hx ⊢
    show (wd x && _) = true
    rw [hc] at hx ⊢; exact hx
  | some c =>
    have := (row_of hnd (hd c hc)).2
    exact fits_mk8 (by omega) this
theorem badC_of {n : Nat} : ∀ (l : List Cl) (j : Nat), (∀ x ∈ l, okCl n x = true) → badC n l j = none
  | [], _, _ => rfl
  | y :: r, j, h => by
    unfold badC
    rw [if_pos (h y (List.mem_cons_self ..))]
    exact badC_of r (j + 1) (fun x hx => h x (List.mem_cons_of_mem _ hx))
theorem heapB_of {h : List Cl} {l : List Int} (h1 : ∀ x ∈ h, okCl h.length x = true) (h2 : ∀ x ∈ l, fitsW h.length x = true) : heapB h l = true := by
  unfold heapB
  rw [badC_of h 0 h1, List.all_eq_true.2 h2]; rfl
theorem mv_moved {row : List Nat} (hnd : row.Nodup) (hl : row.length ≤ 1000000) {x : Int} (hd : ∀ d, refN x = some d → d ∈ row) : Mv (plcM row) x (movedM row x) := by
  unfold Mv movedM
  cases hc : refN x with
  | none => exact ⟨hc, fun _ => rfl⟩
  | some c =>
    have := (row_of hnd (hd c hc)).2
    exact ⟨refN_mk (by omega), fun h => by cases h⟩
theorem plc_inj {row : List Nat} (hnd : row.Nodup) : ∀ c d, c ∈ row → d ∈ row → plcM row c = plcM row d → c = d := fun c d hc hd e => by
  have h1 := (row_of hnd hc).1
  have h2 := (row_of hnd hd).1
  rw [e, h2] at h1
  exact (Option.some.inj h1).symm
theorem okCl_parts {n : Nat} {x : Cl} (h : okCl n x = true) : (x.k ≤ 3 ∧ x.c ≤ 2) ∧ (x.k = 0 ∨ (fitsW n x.a = true ∧ fitsW n x.b = true)) := by
  unfold okCl at h
  simp only [Bool.and_eq_true, Bool.or_eq_true, decide_eq_true_eq] at h
  exact h
theorem okCl_of {n : Nat} {x : Cl} (h : (x.k ≤ 3 ∧ x.c ≤ 2) ∧ (x.k = 0 ∨ (fitsW n x.a = true ∧ fitsW n x.b = true))) : okCl n x = true := by
  unfold okCl
  simp only [Bool.and_eq_true, Bool.or_eq_true, decide_eq_true_eq]
  exact h
/-- Form's own heap and roots are such, and their Form is they. -/
theorem form_form {h : List Cl} {l : List Int} (hh : heapB h l = true) (hn : h.length ≤ 1000000) {r : St} (hr : r = walkM h false l) {y : List Int} (hy : y = l.map (movedM (r.map (·.1)))) :
    heapB (formH h r) y = true ∧ formH (formH h r) (walkM (formH h r) false y) = formH h r ∧ y.map (movedM ((walkM (formH h r) false y).map (·.1))) = y := by
  subst hr
  obtain ⟨h1, h2⟩ := heap_ok hh
  have hok : OkS h.length (walkM h false l) := walk_ok false hh
  obtain ⟨c1, c2⟩ := walk_closed hh
  have hnd := hok.nd
  have hl : ((walkM h false l).map (·.1)).length ≤ 1000000 := by have := hok.len; simp; omega
  have hlt : ∀ c ∈ (walkM h false l).map (·.1), c < h.length := fun c hc => by
    obtain ⟨p, hp, rfl⟩ := List.mem_map.1 hc
    exact hok.lt p hp
  have hlen : (formH h (walkM h false l)).length = ((walkM h false l).map (·.1)).length := by unfold formH; simp
  have cellAt : ∀ c ∈ (walkM h false l).map (·.1), ∃ x, h[c]? = some x ∧ (formH h (walkM h false l))[plcM ((walkM h false l).map (·.1)) c]? = some (formedM ((walkM h false l).map (·.1)) x) := fun c hc => by
    have hx := List.getElem?_eq_getElem (hlt c hc)
    refine ⟨_, hx, ?_⟩
    have h3 := (row_of hnd hc).1
    rw [List.getElem?_map] at h3
    obtain ⟨p, hp, he⟩ := Option.map_eq_some_iff.1 h3
    unfold formH
    rw [List.getElem?_map, hp]
    show some (formedM _ (h.getD p.1 _)) = _
    have he2 : p.1 = c := he
    rw [he2, getD_some hx]
  generalize hR : (walkM h false l).map (·.1) = row at *
  have hB : heapB (formH h (walkM h false l)) y = true := by
    refine heapB_of (fun x hx => ?_) (fun x hx => ?_)
    · rw [hlen]
      unfold formH at hx
      obtain ⟨p, hp, rfl⟩ := List.mem_map.1 hx
      rw [hR]
      have hpr : p.1 ∈ row := by rw [← hR]; exact List.mem_map_of_mem (f := (·.1)) hp
      have hx := List.getElem?_eq_getElem (hlt p.1 hpr)
      rw [getD_some hx]
      have hk := okCl_parts (h1 _ (List.mem_of_getElem? hx))
      refine okCl_of ?_
      unfold formedM
      split
      · exact ⟨⟨by show (0 : Int) ≤ 3; omega, by show (0 : Int) ≤ 2; omega⟩, .inl rfl⟩
      · rename_i hk0
        obtain ⟨f1, f2⟩ := hk.2.resolve_left hk0
        exact ⟨⟨hk.1.1, by show (0 : Int) ≤ 2; omega⟩, .inr ⟨fits_moved hnd hl f1 (fun d hd => c2 p.1 hpr _ hx hk0 d (.inl hd)), fits_moved hnd hl f2 (fun d hd => c2 p.1 hpr _ hx hk0 d (.inr hd))⟩⟩
    · rw [hlen]
      rw [hy] at hx
      obtain ⟨z, hz, rfl⟩ := List.mem_map.1 hx
      exact fits_moved hnd hl (h2 z hz) (fun d hd => c1 z hz d hd)
  have hi : Iso h (formH h (walkM h false l)) l y (plcM row) (fun c => c ∈ row) := by
    refine ⟨plc_inj hnd, fun c hc => ?_, by rw [hy]; simp, fun j x hx => ?_⟩
    · obtain ⟨x, hx, hf⟩ := cellAt c hc
      refine ⟨x, _, hx, hf, ?_, fun hk => ?_⟩
      · unfold formedM
        split
        · rename_i hk; exact hk.symm
        · rfl
      · have e : formedM row x = ⟨x.k, 0, movedM row x.a, movedM row x.b⟩ := by unfold formedM; rw [if_neg hk]
        rw [e]
        exact ⟨⟨mv_moved hnd hl (fun d hd => c2 c hc x hx hk d (.inl hd)), mv_moved hnd hl (fun d hd => c2 c hc x hx hk d (.inr hd))⟩, fun d hd => c2 c hc x hx hk d (.inl hd), fun d hd => c2 c hc x hx hk d (.inr hd)⟩
    · have hm := List.mem_of_getElem? hx
      exact ⟨_, by rw [hy, List.getElem?_map, hx]; rfl, mv_moved hnd hl (fun d hd => c1 x hm d hd), fun d hd => c1 x hm d hd⟩
  have hw := hi.walk hh hB
  refine ⟨hB, hi.form hw, ?_⟩
  have := hi.rootsF hw
  rw [hR] at this
  rw [this, ← hy]
theorem go_pre {h : List Cl} : ∀ (f a j : Nat) (r : St) (p : Nat × Int), r[j]? = some p → (goM h false f a r)[j]? = some p
  | 0, _, _, _, _, hp => hp
  | f + 1, a, j, r, p, hp => by
    unfold goM
    split
    · exact hp
    · split
      · exact hp
      · refine go_pre f (a + 1) j _ p ?_
        split
        · exact hp
        · exact look_at (look_at hp)
/-- Where one cell is another one, it is met all the same. -/
theorem go_at {h h' : List Cl} {c : Nat} (hc : ∀ d, d ≠ c → h'[d]? = h[d]?) : ∀ (f a i : Nat) (r : St) (p : Nat × Int), (goM h false f a r)[i]? = some p → p.1 = c → a ≤ i → ((goM h false f a r).map (·.1)).Nodup → (goM h' false f a r)[i]? = some p
  | 0, _, _, _, _, hi, _, _, _ => hi
  | f + 1, a, i, r, p, hi, hp, ha, hnd => by
    cases hra : r[a]? with
    | none =>
      have e1 : goM h false (f + 1) a r = r := by unfold goM; rw [hra]
      have e2 : goM h' false (f + 1) a r = r := by unfold goM; rw [hra]
      rw [e1] at hi; rw [e2]; exact hi
    | some q =>
      have hq := go_pre (h := h) (f + 1) a a r q hra
      by_cases hai : a = i
      · subst hai
        rw [hq] at hi
        rw [← Option.some.inj hi]
        exact go_pre (h := h') (f + 1) a a r q hra
      · have hqc : q.1 ≠ c := fun e => by
          have h1 : ((goM h false (f + 1) a r).map (·.1))[a]? = some c := by rw [List.getElem?_map, hq, ← e]; rfl
          have h2 : ((goM h false (f + 1) a r).map (·.1))[i]? = some c := by rw [List.getElem?_map, hi, ← hp]; rfl
          exact hai ((plc_at _ hnd a h1).symm.trans (plc_at _ hnd i h2))
        cases hx : h[q.1]? with
        | none =>
          have e1 : goM h false (f + 1) a r = r := by rw [goM, hra]; dsimp only; rw [hx]
          have e2 : goM h' false (f + 1) a r = r := by rw [goM, hra]; dsimp only; rw [hc _ hqc, hx]
          rw [e1] at hi; rw [e2]; exact hi
        | some x =>
          have e1 : goM h false (f + 1) a r = goM h false f (a + 1) (if x.k = 0 then r else lookM (lookM r x.a q.1) x.b q.1) := by rw [goM, hra]; dsimp only; rw [hx]; rfl
          have e2 : goM h' false (f + 1) a r = goM h' false f (a + 1) (if x.k = 0 then r else lookM (lookM r x.a q.1) x.b q.1) := by rw [goM, hra]; dsimp only; rw [hc _ hqc, hx]; rfl
          rw [e1] at hi hnd
          rw [e2]
          exact go_at hc f (a + 1) i _ p hi hp (by omega) hnd
/-- Where a cell that is reached has another word, Form's heap is another one. -/
theorem form_ne {h h' : List Cl} {l : List Int} {c i : Nat} {x x' : Cl} {q : Int} (hh : heapB h l = true) (hlen : h'.length = h.length) (hc : ∀ d, d ≠ c → h'[d]? = h[d]?) (hx : h[c]? = some x) (hx' : h'[c]? = some x') (hk : x.k ≠ 0) (hk' : x'.k ≠ 0)
    (hi : (walkM h false l)[i]? = some (c, q)) (hw : refN x'.a = none) (hne : x.a ≠ x'.a) (hw5 : x'.a % 16 = 5) : formH h' (walkM h' false l) ≠ formH h (walkM h false l) := by
  have hok : OkS h.length (walkM h false l) := walk_ok false hh
  have hi' : (walkM h' false l)[i]? = some (c, q) := by
    unfold walkM at hi ⊢
    rw [hlen]
    exact go_at hc _ _ i _ _ hi rfl (Nat.zero_le _) hok.nd
  intro e
  have e1 := congrArg (fun z : List Cl => z[i]?) e
  unfold formH at e1
  simp only [List.getElem?_map, hi, hi', Option.map_some] at e1
  have e2 := Option.some.inj e1
  rw [getD_some hx, getD_some hx'] at e2
  unfold formedM at e2
  rw [if_neg hk, if_neg hk', Cl.mk.injEq] at e2
  have e3 := e2.2.2.1
  have m1 : movedM ((walkM h' false l).map (·.1)) x'.a = x'.a := by unfold movedM; rw [hw]
  rw [m1] at e3
  unfold movedM at e3
  cases hr : refN x.a with
  | none => rw [hr] at e3; exact hne e3.symm
  | some d =>
    rw [hr] at e3
    have e4 : x'.a = mkW 8 (plcM ((walkM h false l).map (·.1)) d : Nat) := e3
    unfold mkW at e4
    rw [if_pos (by decide)] at e4
    split at e4
    · unfold mk at e4; omega
    · rw [e4] at hw5; omega
end Go.Proofs.YtejmoopgfnjaaaaDoor
