/- The labels of a text, counted over the cells. Plain mathematics.; The cells that are met, counted over the heap itself. Plain mathematics. -/
import Derived.Test.YtejmoopgfnjaaaaDoorK26
/- The labels of a text, counted over the cells. Plain mathematics. -/
namespace Go.Proofs.YtejmoopgfnjaaaaDoor
open Go.RowKit Go.Maps Go.ChangeMaps

theorem Td.sub {X : List Cl} {N : List (List UInt8)} {m : Bool} {f : Nat → Lab} {k : Nat} {x : Int} {V : List Nat} {r : Res} {V' : List Nat} (h : Td X N m f k x V r V') : ∀ c ∈ V, c ∈ V' := by
  induction h with
  | plain _ => exact fun _ h => h
  | back _ _ _ _ => exact fun _ h => h
  | pair _ _ _ _ _ _ ih1 ih2 => exact fun c hc => ih2 c (ih1 c (List.mem_cons_of_mem _ hc))
  | box _ _ _ _ _ ih1 => exact fun c hc => ih1 c (List.mem_cons_of_mem _ hc)
  | proc _ _ _ _ _ ih1 => exact fun c hc => ih1 c (List.mem_cons_of_mem _ hc)
  | goes _ _ _ _ _ _ _ ih1 ih2 => exact fun c hc => ih2 c (ih1 c (List.mem_cons_of_mem _ hc))
  | nil _ => exact fun _ h => h
  | dot _ _ _ ih => exact ih
/-- What is told is closed: all that is named was entered. -/
def ClV (X : List Cl) (V V' : List Nat) : Prop := ∀ c ∈ V', c ∈ V ∨ ∃ y, X[c]? = some y ∧ ∀ z ∈ fieldsM y, ∀ d, refN z = some d → d ∈ V'
theorem ClV.grow {X : List Cl} {V V1 V2 : List Nat} (h1 : ClV X V V1) (h2 : ClV X V1 V2) (hs : ∀ c ∈ V1, c ∈ V2) : ClV X V V2 := fun c hc => by
  rcases h2 c hc with h | h
  · rcases h1 c h with h | ⟨y, hy, hz⟩
    · exact .inl h
    · exact .inr ⟨y, hy, fun z hz' d hd => hs d (hz z hz' d hd)⟩
  · exact .inr h
theorem ClV.one {X : List Cl} {V V' : List Nat} {c : Nat} {y : Cl} (h : ClV X (c :: V) V') (hy : X[c]? = some y) (hz : ∀ z ∈ fieldsM y, ∀ d, refN z = some d → d ∈ V') : ClV X V V' := fun e he => by
  rcases h e he with h | h
  · rcases List.mem_cons.1 h with rfl | h
    · exact .inr ⟨y, hy, hz⟩
    · exact .inl h
  · exact .inr h
theorem Td.cl {X : List Cl} {N : List (List UInt8)} {m : Bool} {f : Nat → Lab} {k : Nat} {x : Int} {V : List Nat} {r : Res} {V' : List Nat} (h : Td X N m f k x V r V') : (∀ c, refN x = some c → c ∈ V') ∧ ClV X V V' := by
  induction h with
  | plain hr => exact ⟨fun c hc => (by rw [hr] at hc; cases hc), fun c hc => .inl hc⟩
  | back hr hc _ _ => exact ⟨fun d hd => (by rw [hr] at hd; cases hd; exact hc), fun c hc => .inl hc⟩
  | @pair f k x V c y r V1 q V2 hr hc hy hk t1 t2 ih1 ih2 =>
    have hcV : c ∈ V2 := t2.sub c (t1.sub c (List.mem_cons_self ..))
    refine ⟨fun d hd => (by rw [hr] at hd; cases hd; exact hcV), (ih1.2.grow ih2.2 t2.sub).one hy (fun z hz d hd => ?_)⟩
    unfold fieldsM at hz
    rw [if_pos hk] at hz
    simp at hz
    rcases hz with rfl | rfl
    · exact t2.sub d (ih1.1 d hd)
    · exact ih2.1 d hd
  | @box f k x V c y r V1 hr hc hy hk t1 ih1 =>
    refine ⟨fun d hd => (by rw [hr] at hd; cases hd; exact t1.sub c (List.mem_cons_self ..)), ih1.2.one hy (fun z hz d hd => ?_)⟩
    unfold fieldsM at hz
    rw [if_neg (by omega), if_pos hk] at hz
    simp at hz
    subst hz
    exact ih1.1 d hd
  | @proc f k x V c y r V1 hr hc hy hk t1 ih1 =>
    refine ⟨fun d hd => (by rw [hr] at hd; cases hd; exact t1.sub c (List.mem_cons_self ..)), ih1.2.one hy (fun z hz d hd => ?_)⟩
    unfold fieldsM at hz
    rw [if_neg (by omega), if_neg (by omega)] at hz
    simp at hz
    subst hz
    exact ih1.1 d hd
  | @goes f k x V c y r V1 q V2 hr hc hy hk hm t1 t2 ih1 ih2 =>
    have hcV : c ∈ V2 := t2.sub c (t1.sub c (List.mem_cons_self ..))
    refine ⟨fun d hd => (by rw [hr] at hd; cases hd; exact hcV), (ih1.2.grow ih2.2 t2.sub).one hy (fun z hz d hd => ?_)⟩
    unfold fieldsM at hz
    rw [if_pos hk] at hz
    simp at hz
    rcases hz with rfl | rfl
    · exact t2.sub d (ih1.1 d hd)
    · exact ih2.1 d hd
  | nil h1 => exact ⟨fun c hc => (by unfold refN at hc; rw [if_neg (by omega)] at hc; cases hc), fun c hc => .inl hc⟩
  | dot _ _ _ ih => exact ih
/-- So many different numbers below n are all of them. -/
theorem full {l : List Nat} {n : Nat} (hn : l.Nodup) (hl : ∀ c ∈ l, c < n) (hlen : l.length = n) {i : Nat} (hi : i < n) : i ∈ l := by
  by_cases h : i ∈ l
  · exact h
  · have h1 : (i :: l).length ≤ (List.range n).length := by
      refine List.Nodup.length_le_of_subset (List.nodup_cons.2 ⟨h, hn⟩) (fun c hc => ?_)
      rcases List.mem_cons.1 hc with rfl | hc
      · exact List.mem_range.2 hi
      · exact List.mem_range.2 (hl c hc)
    simp at h1
    omega
theorem mv_id (x : Int) : Mv (fun c => c) x x := ⟨by simp, fun _ => rfl⟩
/-- A closed set that has the root has all that is seen. -/
theorem Seen.all {X : List Cl} {F : Int} (hs : Seen X F) {D : Nat → Prop} (hF : ∀ c, refN F = some c → D c) (hD : ∀ c, D c → ∃ y, X[c]? = some y ∧ ∀ z ∈ fieldsM y, ∀ d, refN z = some d → D d) : ∀ i, i < X.length → D i := by
  have hi : Iso X X [F] [F] (fun c => c) D := by
    refine ⟨fun c d _ _ e => e, fun c hc => ?_, rfl, fun j x hx => ?_⟩
    · obtain ⟨y, hy, hz⟩ := hD c hc
      have my := List.mem_of_getElem? hy
      refine ⟨y, y, hy, hy, rfl, fun _ => ⟨⟨mv_id _, mv_id _⟩, fun d hd => ?_, fun d hd => ?_⟩⟩
      · rcases hs.kd y my with hk | hk | hk
        · exact hz _ (field_1 hk).1 d hd
        · exact hz _ (field_2 hk) d hd
        · have := hs.proc y my hk
          rw [ref_none (by omega)] at hd; cases hd
      · rcases hs.kd y my with hk | hk | hk
        · exact hz _ (field_1 hk).2 d hd
        · have e1 : refN 1 = none := by kernel_rfl
          rw [hs.box y my hk, e1] at hd; cases hd
        · exact hz _ (field_3 hk) d hd
    · match j, hx with
      | 0, hx => cases hx; exact ⟨F, rfl, mv_id _, hF⟩
      | j + 1, hx => simp at hx
  have hw := (hi.walk hs.heap hs.heap).2
  have ok := walk_ok false hs.heap
  have hl : (walkM X false [F]).length = X.length := by
    have := congrArg List.length hs.form
    rwa [fH_len] at this
  intro i hlt
  have hsub : i ∈ (walkM X false [F]).map (·.1) := by
    refine full ok.nd (fun c hc => ?_) (by simp [hl]) hlt
    obtain ⟨p, hp, rfl⟩ := List.mem_map.1 hc
    exact ok.lt p hp
  obtain ⟨p, hp, rfl⟩ := List.mem_map.1 hsub
  exact hw p hp
theorem rsum_zero {g : Nat → Nat} {V : List Nat} : ∀ n, (∀ i, i < n → i ∈ V ∨ g i = 0) → rsum g V n = 0
  | 0, _ => rfl
  | n + 1, h => by
    unfold rsum
    rw [rsum_zero n (fun i hi => h i (by omega))]
    rcases h n (by omega) with h | h
    · rw [if_pos h]
    · rw [h]; simp
theorem rsum_mem {g : Nat → Nat} {V V' : List Nat} (h : ∀ c, c ∈ V ↔ c ∈ V') : ∀ n, rsum g V n = rsum g V' n
  | 0 => rfl
  | n + 1 => by
    unfold rsum
    rw [rsum_mem h n]
    by_cases hn : n ∈ V
    · rw [if_pos hn, if_pos ((h n).1 hn)]
    · rw [if_neg hn, if_neg (fun e => hn ((h n).2 e))]
theorem rsum_list {g : Nat → Nat} {n : Nat} : ∀ (O V : List Nat), O.Nodup → (∀ c ∈ O, c ∉ V ∧ c < n) → rsum g V n = rsum g (O ++ V) n + (O.map g).sum
  | [], V, _, _ => by simp
  | c :: O, V, hn, hc => by
    rw [List.nodup_cons] at hn
    have h1 := hc c (List.mem_cons_self ..)
    rw [rsum_cons h1.1, if_pos h1.2, rsum_list O (c :: V) hn.2 (fun d hd => ⟨fun h => ?_, (hc d (List.mem_cons_of_mem _ hd)).2⟩)]
    · rw [rsum_mem (V := O ++ c :: V) (V' := c :: O ++ V) (fun d => by simp [or_left_comm]), List.map_cons, List.sum_cons]
      omega
    · rcases List.mem_cons.1 h with rfl | h
      · exact hn.1 hd
      · exact (hc d (List.mem_cons_of_mem _ hd)).1 h
/-- A sum over all cells is one over a list that has all that count. -/
theorem rsum_over {g : Nat → Nat} {n : Nat} {O : List Nat} (hn : O.Nodup) (hc : ∀ c ∈ O, c < n) (h0 : ∀ c, c ∉ O → g c = 0) : rsum g [] n = (O.map g).sum := by
  rw [rsum_list O [] hn (fun c hcO => ⟨by simp, hc c hcO⟩), rsum_zero n (fun i _ => ?_)]
  · omega
  · by_cases h : i ∈ O
    · exact .inl (List.mem_append_left _ h)
    · exact .inr (h0 i h)
theorem rsum_add {g g' : Nat → Nat} {V : List Nat} : ∀ n, rsum (fun c => g c + g' c) V n = rsum g V n + rsum g' V n
  | 0 => rfl
  | n + 1 => by
    unfold rsum
    rw [rsum_add n]
    split <;> omega
theorem rsum_one {c : Nat} : ∀ n, rsum (fun d => if c = d then 1 else 0) [] n = if c < n then 1 else 0
  | 0 => by simp [rsum]
  | n + 1 => by
    unfold rsum
    rw [rsum_one n]
    by_cases h : c = n
    · subst h; simp
    · simp only [List.not_mem_nil, if_false, if_neg h]
      have : (c < n + 1) = (c < n) := by rw [eq_iff_iff]; omega
      simp [this]
theorem rsum_cnt {n : Nat} : ∀ (L : List Int), (∀ z ∈ L, ∀ d, refN z = some d → d < n) → rsum (cntM L) [] n = (L.map rf).sum
  | [], _ => by
    exact rsum_zero (g := cntM []) n (fun i _ => .inr rfl)
  | x :: L, h => by
    have e : cntM (x :: L) = fun d => (if refN x = some d then 1 else 0) + cntM L d := by funext d; exact cnt_cons x L d
    rw [e, rsum_add, rsum_cnt L (fun z hz => h z (List.mem_cons_of_mem _ hz)), List.map_cons, List.sum_cons]
    congr 1
    cases hr : refN x with
    | none =>
      rw [rf_none hr, rsum_zero n (fun i _ => .inr (by simp))]
    | some c =>
      rw [rf_some hr]
      have hl := h x (List.mem_cons_self ..) c hr
      have e2 : (fun d => if some c = some d then 1 else 0) = fun d => if c = d then (1 : Nat) else 0 := by funext d; simp
      rw [e2, rsum_one, if_pos hl]
theorem restR_all (X : List Cl) : ∀ n, n ≤ X.length → rsum (rfs X) [] n = (((X.take n).flatMap fieldsM).map rf).sum
  | 0, _ => rfl
  | n + 1, h => by
    have hy := List.getElem?_eq_getElem (show n < X.length by omega)
    unfold rsum
    rw [restR_all X n (by omega), List.take_add_one, hy, List.flatMap_append, List.map_append, List.sum_append, if_neg (by simp)]
    unfold rfs
    rw [List.getD_eq_getElem?_getD, hy]
    simp
/-- The labels of a word's text: one for each cell that is met more than once, and one coming back for each time besides. -/
theorem Seen.labels {X : List Cl} {F : Int} (hs : Seen X F) (hnm : (metW X F).any (nameless 0) = false) : ∃ e b, lrun 0 (textM X [] F) = (e, rsum (fun c => if cntM (metW X F) c = 1 then 0 else 1) [] X.length, b) ∧ b + X.length = ((metW X F).map rf).sum := by
  have hN : areNamesB [] = true := by decide
  obtain ⟨r, V, e1, t1, _⟩ := hs.tells (N := []) hN hnm
  have hg : ∀ (c : Nat) (y : Cl), X[c]? = some y → ∀ z ∈ fieldsM y, Gd X [] z := fun c y hy z hz => hs.gd (N := []) hnm (mem_met (List.mem_of_getElem? hy) hz)
  obtain ⟨⟨e, b, h1, h2⟩, h3, _⟩ := t1.labels hg (fl_start X F) (hs.gd (N := []) hnm (List.mem_cons_self ..)) 0 rfl
  have hcl := t1.cl
  have hall : ∀ i, i < X.length → i ∈ V := hs.all hcl.1 (fun c hc => by
    rcases hcl.2 c hc with h | h
    · cases h
    · exact h)
  have z1 : un X V = 0 := rsum_zero _ (fun i hi => .inl (hall i hi))
  have z2 : restR X V = 0 := rsum_zero _ (fun i hi => .inl (hall i hi))
  have z3 : lc X (cntM (metW X F)) V = 0 := rsum_zero _ (fun i hi => .inl (hall i hi))
  have ht : textM X [] F = r.1 := by unfold textM; rw [e1]
  rw [ht]
  refine ⟨e, b, ?_, ?_⟩
  · rw [h1]
    have : r.2.2 - 0 = rsum (fun c => if cntM (metW X F) c = 1 then 0 else 1) [] X.length := by
      unfold lc at h3 z3
      omega
    rw [this]
  · have hR : restR X [] = ((X.flatMap fieldsM).map rf).sum := by
      unfold restR
      rw [restR_all X X.length (Nat.le_refl _), List.take_of_length_le (Nat.le_refl _)]
    rw [z1, z2, un_all, hR] at h2
    unfold metW
    rw [List.map_cons, List.sum_cons]
    omega
end Go.Proofs.YtejmoopgfnjaaaaDoor

/- The cells that are met, counted over the heap itself. Plain mathematics. -/
namespace Go.Proofs.YtejmoopgfnjaaaaDoor
open Go.RowKit Go.Maps Go.ChangeMaps

/-- The words that are met with a cell of a heap. -/
def fl (h : List Cl) (c : Nat) : List Int := fieldsM (h.getD c zCl)
theorem cnt_flat (h : List Cl) (d : Nat) : ∀ O : List Nat, cntM (O.flatMap (fl h)) d = (O.map (fun c => cntM (fl h c) d)).sum
  | [] => rfl
  | c :: O => by rw [List.flatMap_cons, cnt_app, cnt_flat h d O, List.map_cons, List.sum_cons]
theorem rf_flat (h : List Cl) : ∀ O : List Nat, ((O.flatMap (fl h)).map rf).sum = (O.map (fun c => ((fl h c).map rf).sum)).sum
  | [] => rfl
  | c :: O => by rw [List.flatMap_cons, List.map_append, List.sum_append, rf_flat h O, List.map_cons, List.sum_cons]
theorem sum_map_congr {g g' : Nat → Nat} : ∀ {O : List Nat}, (∀ c ∈ O, g c = g' c) → (O.map g).sum = (O.map g').sum
  | [], _ => rfl
  | c :: O, h => by
    rw [List.map_cons, List.map_cons, List.sum_cons, List.sum_cons, h c (List.mem_cons_self ..), sum_map_congr (fun d hd => h d (List.mem_cons_of_mem _ hd))]
/-- Two lists of the same numbers, none twice, have the same sums. -/
theorem sum_same {O P : List Nat} (hO : O.Nodup) (hP : P.Nodup) (hm : ∀ c, c ∈ O ↔ c ∈ P) {n : Nat} (hn : ∀ c ∈ P, c < n) (g : Nat → Nat) : (O.map g).sum = (P.map g).sum := by
  have h1 := rsum_over (g := fun c => if c ∈ P then g c else 0) (n := n) hO (fun c hc => hn c ((hm c).1 hc)) (fun c hc => if_neg (fun e => hc ((hm c).2 e)))
  have h2 := rsum_over (g := fun c => if c ∈ P then g c else 0) (n := n) hP hn (fun c hc => if_neg hc)
  rw [sum_map_congr (g' := g) (fun c hc => if_pos ((hm c).1 hc))] at h1
  rw [sum_map_congr (g' := g) (fun c hc => if_pos hc)] at h2
  omega
theorem sum_ones : ∀ O : List Nat, (O.map (fun _ => 1)).sum = O.length
  | [] => rfl
  | c :: O => by rw [List.map_cons, List.sum_cons, sum_ones O, List.length_cons]; omega
theorem len_same {O P : List Nat} (hO : O.Nodup) (hP : P.Nodup) (hm : ∀ c, c ∈ O ↔ c ∈ P) {n : Nat} (hn : ∀ c ∈ P, c < n) : O.length = P.length := by
  have := sum_same hO hP hm hn (fun _ => 1)
  rwa [sum_ones, sum_ones] at this
theorem sum_pred {g : Nat → Nat} : ∀ {O : List Nat}, (∀ c ∈ O, 1 ≤ g c) → (O.map (fun c => g c - 1)).sum + O.length = (O.map g).sum
  | [], _ => rfl
  | c :: O, h => by
    have h1 := h c (List.mem_cons_self ..)
    have ih := sum_pred (fun d hd => h d (List.mem_cons_of_mem _ hd))
    simp only [List.map_cons, List.sum_cons, List.length_cons]
    omega
theorem rsum_row {g G : Nat → Nat} {row : List Nat} (hg : ∀ (i c : Nat), row[i]? = some c → g i = G c) : ∀ k, k ≤ row.length → rsum g [] k = ((row.take k).map G).sum
  | 0, _ => rfl
  | k + 1, hk => by
    have hc := List.getElem?_eq_getElem (show k < row.length by omega)
    unfold rsum
    rw [rsum_row hg k (by omega), List.take_add_one, hc, List.map_append, List.sum_append, if_neg (by simp), hg k _ hc]
    simp
theorem cnt_moved {row : List Nat} (hnd : row.Nodup) (hl : row.length ≤ 1000000) {i c : Nat} (hi : row[i]? = some c) : ∀ L : List Int, (∀ z ∈ L, ∀ d, refN z = some d → d ∈ row) → cntM (L.map (movedM row)) i = cntM L c
  | [], _ => rfl
  | z :: L, h => by
    rw [List.map_cons, cnt_cons, cnt_cons, cnt_moved hnd hl hi L (fun y hy => h y (List.mem_cons_of_mem _ hy))]
    congr 1
    have hz := h z (List.mem_cons_self ..)
    have mv := (mv_moved hnd hl hz).1
    rw [mv]
    cases hr : refN z with
    | none => simp
    | some d =>
      have hd := hz d hr
      simp only [Option.map_some, Option.some.injEq]
      by_cases he : d = c
      · subst he
        rw [if_pos rfl, if_pos (plc_at row hnd i hi)]
      · rw [if_neg he, if_neg]
        intro e
        have := (row_of hnd hd).1
        rw [e, hi] at this
        exact he (Option.some.inj this).symm
theorem rf_moved {row : List Nat} (hnd : row.Nodup) (hl : row.length ≤ 1000000) : ∀ L : List Int, (∀ z ∈ L, ∀ d, refN z = some d → d ∈ row) → ((L.map (movedM row)).map rf).sum = (L.map rf).sum
  | [], _ => rfl
  | z :: L, h => by
    simp only [List.map_cons, List.sum_cons]
    rw [rf_moved hnd hl L (fun y hy => h y (List.mem_cons_of_mem _ hy))]
    congr 1
    have mv := (mv_moved hnd hl (h z (List.mem_cons_self ..))).1
    unfold rf
    rw [mv]
    cases refN z <;> rfl
/-- Who is met by the walk. -/
def rowM (h : List Cl) (x : Int) : List Nat := (walkM (bareM h) false [x]).map (·.1)
structure RowOk (h : List Cl) (x : Int) : Prop where
  nd : (rowM h x).Nodup
  lt : ∀ c ∈ rowM h x, c < h.length
  len : (fH (bareM h) [x]).length = (rowM h x).length
  root : ∀ d, refN x = some d → d ∈ rowM h x
  cl : ∀ c ∈ rowM h x, ∀ z ∈ fl h c, ∀ d, refN z = some d → d ∈ rowM h x
  kd : ∀ c ∈ rowM h x, ∃ y, h[c]? = some y ∧ Kd y
  met : metW (fH (bareM h) [x]) (fromM h x) = (x :: (rowM h x).flatMap (fl h)).map (movedM (rowM h x))
  least : ∀ D : Nat → Prop, (∀ d, refN x = some d → D d) → (∀ c, D c → c ∈ rowM h x ∧ ∀ z ∈ fl h c, ∀ d, refN z = some d → D d) → ∀ c ∈ rowM h x, D c
theorem bareK (y : Cl) : (bareC y).k = y.k := by unfold bareC; split <;> rfl
theorem fields_formed {row : List Nat} {y : Cl} (hk : Kd y) : fieldsM (formedM row (bareC y)) = (fieldsM y).map (movedM row) := by
  unfold formedM
  rw [bareK, if_neg (by unfold Kd at hk; omega)]
  rcases hk with h | h | h
  · unfold fieldsM bareC
    simp [h]
  · unfold fieldsM bareC
    simp [h]
  · unfold fieldsM bareC
    simp [h]
theorem flat_congr {f g : Nat → List Int} : ∀ {l : List Nat}, (∀ a ∈ l, f a = g a) → l.flatMap f = l.flatMap g
  | [], _ => rfl
  | a :: l, hq => by rw [List.flatMap_cons, List.flatMap_cons, hq a (List.mem_cons_self ..), flat_congr (fun b hb => hq b (List.mem_cons_of_mem _ hb))]
theorem row_ok {h : List Cl} {x : Int} (hf : fitsB h x = true) (hl : h.length ≤ 1000000) (hk : ∀ y ∈ h, OkK y) (hx : Rng x) : RowOk h x := by
  have hs := seen_of hf hl hk hx
  obtain ⟨⟨_, hh⟩, _⟩ := fits_parts hf
  have ok := walk_ok false hh
  have hlen : (fH (bareM h) [x]).length = (rowM h x).length := by rw [fH_len]; unfold rowM; simp
  have hlt : ∀ c ∈ rowM h x, c < h.length := fun c hc => by
    obtain ⟨p, hp, rfl⟩ := List.mem_map.1 hc
    have := ok.lt p hp
    rwa [bare_len] at this
  have hcell : ∀ c ∈ rowM h x, ∃ y, h[c]? = some y ∧ Kd y := fun c hc => by
    obtain ⟨y, hy⟩ : ∃ y, h[c]? = some y := ⟨_, List.getElem?_eq_getElem (hlt c hc)⟩
    refine ⟨y, hy, ?_⟩
    obtain ⟨p, hp, rfl⟩ := List.mem_map.1 hc
    have hm : formedM (rowM h x) ((bareM h).getD p.1 ⟨0, 0, 0, 0⟩) ∈ fH (bareM h) [x] := List.mem_map.2 ⟨p, hp, rfl⟩
    have hkX := hs.kd _ hm
    rw [getD_some (bare_get hy)] at hkX
    unfold formedM at hkX
    split at hkX
    · unfold Kd at hkX; simp at hkX
    · have : (bareC y).k = y.k := by unfold bareC; split <;> rfl
      unfold Kd at hkX ⊢
      rwa [this] at hkX
  have hcl := walk_closed hh
  have hclos : ∀ c ∈ rowM h x, ∀ z ∈ fl h c, ∀ d, refN z = some d → d ∈ rowM h x := fun c hc z hz d hd => by
    obtain ⟨y, hy, hky⟩ := hcell c hc
    have hfl : fl h c = fieldsM y := by unfold fl; rw [getD_some hy]
    rw [hfl] at hz
    have hb : (bareC y).k = y.k := by unfold bareC; split <;> rfl
    refine hcl.2 c hc (bareC y) (bare_get hy) (by rw [hb]; unfold Kd at hky; omega) d ?_
    rcases hky with k | k | k
    · have e : bareC y = y := by unfold bareC; rw [if_neg (by omega)]
      rw [e]
      unfold fieldsM at hz
      rw [if_pos k] at hz
      simp at hz
      rcases hz with rfl | rfl
      · exact .inl hd
      · exact .inr hd
    · unfold fieldsM at hz
      rw [if_neg (by omega), if_pos k] at hz
      simp at hz
      subst hz
      left
      unfold bareC
      rw [if_pos k]; exact hd
    · have e : bareC y = y := by unfold bareC; rw [if_neg (by omega)]
      rw [e]
      unfold fieldsM at hz
      rw [if_neg (by omega), if_neg (by omega)] at hz
      simp at hz
      subst hz
      exact .inr hd
  refine ⟨ok.nd, hlt, hlen, fun d hd => hcl.1 x (by simp) d hd, hclos, hcell, ?_, fun D hF hD => ?_⟩
  · unfold metW
    rw [List.map_cons]
    congr 1
    have e1 : fH (bareM h) [x] = (rowM h x).map (fun c => formedM (rowM h x) ((bareM h).getD c ⟨0, 0, 0, 0⟩)) := by
      unfold fH formH rowM
      rw [List.map_map]; rfl
    rw [e1, List.flatMap_map, List.map_flatMap]
    refine flat_congr (fun c hc => ?_)
    obtain ⟨y, hy, hky⟩ := hcell c hc
    have hfl : fl h c = fieldsM y := by unfold fl; rw [getD_some hy]
    rw [getD_some (bare_get hy), fields_formed hky, hfl]
  · have hi : Iso (bareM h) (bareM h) [x] [x] (fun c => c) D := by
      refine ⟨fun c d _ _ e => e, fun c hc => ?_, rfl, fun j z hz => ?_⟩
      · obtain ⟨hcr, hz⟩ := hD c hc
        obtain ⟨y, hy, hky⟩ := hcell c hcr
        have hfl : fl h c = fieldsM y := by unfold fl; rw [getD_some hy]
        rw [hfl] at hz
        refine ⟨bareC y, bareC y, bare_get hy, bare_get hy, rfl, fun _ => ⟨⟨mv_id _, mv_id _⟩, ?_, ?_⟩⟩
        · intro d hd
          rcases hky with k | k | k
          · have e : bareC y = y := by unfold bareC; rw [if_neg (by omega)]
            rw [e] at hd
            exact hz _ (field_1 k).1 d hd
          · have e : (bareC y).a = y.a := by unfold bareC; rw [if_pos k]
            rw [e] at hd
            exact hz _ (field_2 k) d hd
          · have e : bareC y = y := by unfold bareC; rw [if_neg (by omega)]
            rw [e] at hd
            obtain ⟨p, hp, rfl⟩ := List.mem_map.1 hcr
            have hm : formedM (rowM h x) ((bareM h).getD p.1 ⟨0, 0, 0, 0⟩) ∈ fH (bareM h) [x] := List.mem_map.2 ⟨p, hp, rfl⟩
            have hw := (fits_parts hf).2 _ hm
            rw [getD_some (bare_get hy), e] at hw
            have hr : refN y.a = none := by
              unfold wrongC formedM at hw
              rw [if_neg (by omega)] at hw
              simp only [Bool.or_eq_false_iff, Bool.and_eq_false_iff, beq_eq_false_iff_ne, bne_eq_false_iff_eq, decide_eq_false_iff_not] at hw
              have h5 := (hw.2.resolve_left (fun q => q k)).1
              cases hq : refN y.a with
              | none => rfl
              | some d =>
                exfalso
                have hmm : movedM (rowM h x) y.a = mkW 8 (plcM (rowM h x) d) := by unfold movedM; rw [hq]
                rw [hmm] at h5
                have h8 : refN (mkW 8 (plcM (rowM h x) d : Nat)) = some (plcM (rowM h x) d) := refN_mk (by
                  have hdr : d ∈ rowM h x := hcl.2 p.1 hcr (bareC y) (bare_get hy) (by rw [e]; omega) d (.inl (by rw [e]; exact hq))
                  have := (row_of ok.nd hdr).2
                  have h9 : (rowM h x).length ≤ 1000000 := by rw [← hlen]; exact hs.len
                  have h10 : plcM (rowM h x) d < (rowM h x).length := this
                  omega)
                unfold refN at h8
                rw [if_neg (by omega)] at h8
                cases h8
            rw [hr] at hd; cases hd
        · intro d hd
          rcases hky with k | k | k
          · have e : bareC y = y := by unfold bareC; rw [if_neg (by omega)]
            rw [e] at hd
            exact hz _ (field_1 k).2 d hd
          · have e : (bareC y).b = 1 := by unfold bareC; rw [if_pos k]
            have e1 : refN 1 = none := by kernel_rfl
            rw [e, e1] at hd; cases hd
          · have e : bareC y = y := by unfold bareC; rw [if_neg (by omega)]
            rw [e] at hd
            exact hz _ (field_3 k) d hd
      · match j, hz with
        | 0, hz => cases hz; exact ⟨x, rfl, mv_id _, hF⟩
        | j + 1, hz => simp at hz
    intro c hc
    obtain ⟨p, hp, rfl⟩ := List.mem_map.1 hc
    exact (hi.walk hh hh).2 p hp
/-- The law's own count is the text's: O the cells in the order in which the law meets them. -/
theorem law_counts {h : List Cl} {x : Int} (hf : fitsB h x = true) (hl : h.length ≤ 1000000) (hk : ∀ y ∈ h, OkK y) (hx : Rng x) (hnm : (metW (fH (bareM h) [x]) (fromM h x)).any (nameless 0) = false) {O : List Nat} (hO : O.Nodup) (hOr : ∀ c ∈ O, c ∈ rowM h x)
    (hroot : ∀ d, refN x = some d → d ∈ O) (hcl : ∀ c ∈ O, ∀ z ∈ fl h c, ∀ d, refN z = some d → d ∈ O) (hpos : ∀ c ∈ O, 1 ≤ cntM (x :: O.flatMap (fl h)) c) :
    ∃ e, lrun 0 (showT h [] x) = (e, rsum (fun c => if 1 < cntM (x :: O.flatMap (fl h)) c then 1 else 0) [] h.length, rsum (fun c => cntM (x :: O.flatMap (fl h)) c - 1) [] h.length) := by
  have hs := seen_of hf hl hk hx
  have ro := row_ok hf hl hk hx
  obtain ⟨e, b, h1, h2⟩ := hs.labels hnm
  have hm : ∀ c, c ∈ O ↔ c ∈ rowM h x := fun c => ⟨hOr c, fun hc => ro.least (fun c => c ∈ O) hroot (fun c hc => ⟨hOr c hc, hcl c hc⟩) c hc⟩
  have hrl : (rowM h x).length ≤ 1000000 := by rw [← ro.len]; exact hs.len
  have hrefs : ∀ z ∈ x :: (rowM h x).flatMap (fl h), ∀ d, refN z = some d → d ∈ rowM h x := fun z hz d hd => by
    rcases List.mem_cons.1 hz with rfl | hz
    · exact ro.root d hd
    · obtain ⟨c, hc, hz⟩ := List.mem_flatMap.1 hz
      exact ro.cl c hc z hz d hd
  have hcnt : ∀ d, cntM (x :: O.flatMap (fl h)) d = cntM (x :: (rowM h x).flatMap (fl h)) d := fun d => by
    rw [cnt_cons, cnt_cons, cnt_flat, cnt_flat, sum_same hO ro.nd hm ro.lt]
  have hout : ∀ c, c ∉ rowM h x → cntM (x :: O.flatMap (fl h)) c = 0 := fun c hc => by
    rw [hcnt]
    unfold cntM
    rw [List.length_eq_zero_iff, List.filter_eq_nil_iff]
    intro z hz hq
    exact hc (hrefs z hz c (of_decide_eq_true hq))
  have hat : ∀ (i c : Nat), (rowM h x)[i]? = some c → cntM (metW (fH (bareM h) [x]) (fromM h x)) i = cntM (x :: O.flatMap (fl h)) c := fun i c hi => by
    rw [ro.met, cnt_moved ro.nd hrl hi _ hrefs, hcnt]
  have hT : showT h [] x = textM (fH (bareM h) [x]) [] (fromM h x) := rfl
  have g1 : rsum (fun c => if cntM (metW (fH (bareM h) [x]) (fromM h x)) c = 1 then 0 else 1) [] (fH (bareM h) [x]).length = rsum (fun c => if 1 < cntM (x :: O.flatMap (fl h)) c then 1 else 0) [] h.length := by
    rw [rsum_over ro.nd ro.lt (fun c hc => by rw [hout c hc]; simp), ro.len, rsum_row (row := rowM h x) (G := fun c => if 1 < cntM (x :: O.flatMap (fl h)) c then 1 else 0) (fun i c hi => ?_) _ (Nat.le_refl _), List.take_of_length_le (Nat.le_refl _)]
    have hp := hpos c ((hm c).2 (List.mem_of_getElem? hi))
    rw [hat i c hi]
    by_cases q : cntM (x :: O.flatMap (fl h)) c = 1
    · rw [if_pos q, if_neg (by omega)]
    · rw [if_neg q, if_pos (by omega)]
  have g2 : b = rsum (fun c => cntM (x :: O.flatMap (fl h)) c - 1) [] h.length := by
    rw [rsum_over ro.nd ro.lt (fun c hc => by rw [hout c hc])]
    have s1 := sum_pred (g := cntM (x :: O.flatMap (fl h))) (O := rowM h x) (fun c hc => hpos c ((hm c).2 hc))
    have s2 : ((rowM h x).map (cntM (x :: O.flatMap (fl h)))).sum = ((x :: O.flatMap (fl h)).map rf).sum := by
      rw [← rsum_over (g := cntM (x :: O.flatMap (fl h))) ro.nd ro.lt hout, rsum_cnt]
      intro z hz d hd
      rcases List.mem_cons.1 hz with rfl | hz
      · exact ro.lt d (ro.root d hd)
      · obtain ⟨c, hc, hz⟩ := List.mem_flatMap.1 hz
        exact ro.lt d (ro.cl c (hOr c hc) z hz d hd)
    have s3 : ((metW (fH (bareM h) [x]) (fromM h x)).map rf).sum = ((x :: O.flatMap (fl h)).map rf).sum := by
      rw [ro.met, rf_moved ro.nd hrl _ hrefs, List.map_cons, List.map_cons, List.sum_cons, List.sum_cons, rf_flat, rf_flat, sum_same hO ro.nd hm ro.lt]
    rw [s3, ← s2, ro.len] at h2
    omega
  rw [hT, h1, g1, g2]
  exact ⟨e, rfl⟩
end Go.Proofs.YtejmoopgfnjaaaaDoor
