/- What holds of a book: nobody waits twice; who waits goes on; no lock is free while somebody waits for it. -/
import Derived.Test.YtdlnkdcgipaoeaaDoorHLKnown
namespace Go.Proofs.YtdlnkdcgipaoeaaDoor
open Go.RowKit

theorem nodup_le : ∀ (k : Nat) (l : List Int), (∀ p ∈ l, 1 ≤ p ∧ p ≤ k) → l.Nodup → l.length ≤ k := by
  intro k
  induction k with
  | zero => intro l hl _; cases l with
    | nil => exact Nat.le_refl _
    | cons p l => have := hl p List.mem_cons_self; omega
  | succ k ih =>
    intro l hl hn
    have h1 : (l.filter (fun p => p != ((k + 1 : Nat) : Int))).length ≤ k := by
      refine ih _ (fun p hp => ?_) (List.Nodup.sublist List.filter_sublist hn)
      obtain ⟨hp1, hp2⟩ := List.mem_filter.1 hp
      have := hl p hp1
      have h2 : p ≠ ((k + 1 : Nat) : Int) := by simpa using hp2
      omega
    have h2 : ∀ l : List Int, l.Nodup → l.length ≤ (l.filter (fun p => p != ((k + 1 : Nat) : Int))).length + 1 := by
      intro l
      induction l with
      | nil => intro _; simp
      | cons x r ihr =>
        intro hn
        obtain ⟨hx, hr⟩ := List.nodup_cons.1 hn
        by_cases e : x = ((k + 1 : Nat) : Int)
        · have : r.filter (fun p => p != ((k + 1 : Nat) : Int)) = r := List.filter_eq_self.2 (fun y hy => by
            have : y ≠ x := fun e' => hx (by rw [← e']; exact hy)
            rw [e] at this
            simpa using this)
          rw [List.filter_cons, if_neg (by simp [e]), this]
          simp
        · rw [List.filter_cons, if_pos (by simpa using e)]
          have := ihr hr
          simp only [List.length_cons]
          omega
    have := h2 l hn
    omega
/-- Who waits stands once. -/
structure ND (R : List (List Int)) : Prop where
  nd : ∀ (i : Nat) (r : List Int), R[i]? = some r → r.Nodup
  inj : ∀ (i j : Nat) (r s : List Int) (x : Int), R[i]? = some r → R[j]? = some s → x ∈ r → x ∈ s → i = j
def SubR (R' R : List (List Int)) : Prop := ∀ (k : Nat) (r' : List Int), R'[k]? = some r' → ∃ r, R[k]? = some r ∧ r'.Sublist r
theorem ND.sub {R R' : List (List Int)} (h : ND R) (hs : SubR R' R) : ND R' :=
  ⟨fun i r' hr => by
    obtain ⟨r, h1, h2⟩ := hs i r' hr
    exact List.Nodup.sublist h2 (h.nd i r h1), fun i j r' s' x hr hs' hx hy => by
    obtain ⟨r, h1, h2⟩ := hs i r' hr
    obtain ⟨s, k1, k2⟩ := hs j s' hs'
    exact h.inj i j r s x h1 k1 (h2.subset hx) (k2.subset hy)⟩
theorem ND.snoc {R : List (List Int)} (h : ND R) {i : Nat} {r : List Int} {t : Int} (hi : R[i]? = some r) (ht : ∀ s ∈ R, t ∉ s) : ND (R.set i (r ++ [t])) := by
  have hlt := (List.getElem?_eq_some_iff.1 hi).1
  have key : ∀ j s, (R.set i (r ++ [t]))[j]? = some s → ∃ s0, R[j]? = some s0 ∧ ((j = i ∧ s = s0 ++ [t]) ∨ (j ≠ i ∧ s = s0)) := fun j s hs => by
    by_cases e : i = j
    · subst e
      rw [List.getElem?_set_self hlt] at hs
      exact ⟨r, hi, .inl ⟨rfl, (Option.some.inj hs).symm⟩⟩
    · rw [List.getElem?_set_ne e] at hs
      exact ⟨s, hs, .inr ⟨fun e' => e e'.symm, rfl⟩⟩
  have old : ∀ j s x, (R.set i (r ++ [t]))[j]? = some s → x ∈ s → x ≠ t → ∃ s0, R[j]? = some s0 ∧ x ∈ s0 := fun j s x hs hx hne => by
    obtain ⟨s0, h0, h1⟩ := key j s hs
    rcases h1 with ⟨_, rfl⟩ | ⟨_, rfl⟩
    · rcases List.mem_append.1 hx with hx | hx
      · exact ⟨s0, h0, hx⟩
      · exact absurd (List.mem_singleton.1 hx) hne
    · exact ⟨s, h0, hx⟩
  have new : ∀ j s, (R.set i (r ++ [t]))[j]? = some s → t ∈ s → j = i := fun j s hs hx => by
    obtain ⟨s0, h0, h1⟩ := key j s hs
    rcases h1 with ⟨e, _⟩ | ⟨_, rfl⟩
    · exact e
    · exact absurd hx (ht s (List.mem_of_getElem? h0))
  refine ⟨fun j s hs => ?_, fun j k s s' x hj hk hx hy => ?_⟩
  · obtain ⟨s0, h0, h1⟩ := key j s hs
    rcases h1 with ⟨_, rfl⟩ | ⟨_, rfl⟩
    · refine List.nodup_append.2 ⟨h.nd j s0 h0, by simp, fun a ha b hb => ?_⟩
      rw [List.mem_singleton.1 hb]
      exact fun e => ht s0 (List.mem_of_getElem? h0) (by rw [← e]; exact ha)
    · exact h.nd j s h0
  · by_cases e : x = t
    · subst e
      rw [new j s hj hx, new k s' hk hy]
    · obtain ⟨s0, h0, h1⟩ := old j s x hj hx e
      obtain ⟨s1, k0, k1⟩ := old k s' x hk hy e
      exact h.inj j k s0 s1 x h0 k0 h1 k1
def rowsM (B : Bk) : List (List Int) := B.t.map (·.row) ++ B.l.map (·.row)
/-- A thread that is there and has not ended. -/
def Lv (B : Bk) (x : Int) : Prop := ∃ (i : Nat) (t : Th), x = (i : Int) + 1 ∧ B.t[i]? = some t ∧ t.en = false
structure Iv (B : Bk) : Prop where
  nd : ND (rowsM B)
  rg : ∀ r ∈ rowsM B, ∀ x ∈ r, Lv B x
  fr : ∀ l ∈ B.l, l.ho = 0 → l.row = []
  ho : ∀ l ∈ B.l, l.ho ≠ 0 → Lv B l.ho
  er : ∀ t ∈ B.t, t.en = true → t.row = []
  nz : ∀ t ∈ B.t, t.en = false → t.wd = 0 ∧ t.er = 0
  tn : B.t.length ≤ 8
theorem Lv.rng {B : Bk} {x : Int} (h : Lv B x) : 1 ≤ x ∧ x ≤ B.t.length := by
  obtain ⟨i, t, rfl, hi, _⟩ := h
  have := (List.getElem?_eq_some_iff.1 hi).1
  omega
theorem rows_t {B : Bk} {i : Nat} {x : Th} (h : B.t[i]? = some x) : (rowsM B)[i]? = some x.row := by
  have hlt := (List.getElem?_eq_some_iff.1 h).1
  rw [rowsM, List.getElem?_append_left (by simpa using hlt), List.getElem?_map, h]
  rfl
theorem rows_l {B : Bk} {i : Nat} {x : Lk} (h : B.l[i]? = some x) : (rowsM B)[B.t.length + i]? = some x.row := by
  rw [rowsM, List.getElem?_append_right (by simp), List.getElem?_map]
  simp [h]
theorem Iv.short {B : Bk} (h : Iv B) {i : Nat} {r : List Int} (hr : (rowsM B)[i]? = some r) : r.length ≤ 8 := by
  have := nodup_le B.t.length r (fun x hx => (h.rg r (List.mem_of_getElem? hr) x hx).rng) (h.nd.nd i r hr)
  have := h.tn
  omega
theorem Iv.sh {B : Bk} (h : Iv B) : Sh B := by
  refine ⟨fun x hx => ?_, fun x hx => ?_⟩
  · obtain ⟨i, hi⟩ := List.getElem?_of_mem hx
    have := h.short (rows_t hi)
    refine ⟨by omega, fun y hy e => ?_⟩
    have := (h.rg _ (List.mem_of_getElem? (rows_t hi)) y hy).rng
    omega
  · obtain ⟨i, hi⟩ := List.getElem?_of_mem hx
    have := h.short (rows_l hi)
    refine ⟨by omega, fun y hy e => ?_⟩
    have := (h.rg _ (List.mem_of_getElem? (rows_l hi)) y hy).rng
    omega
theorem Iv.wt {B : Bk} (h : Iv B) (x : Int) : wtB B x = true ↔ ∃ r ∈ rowsM B, x ∈ r := by
  unfold wtB awB awM
  rw [decide_eq_true_iff]
  constructor
  · intro hne
    cases h1 : B.t.findIdx? (fun y => y.row.contains x) with
    | some i =>
      obtain ⟨hi, hc, _⟩ := List.findIdx?_eq_some_iff_getElem.1 h1
      exact ⟨_, List.mem_of_getElem? (rows_t (List.getElem?_eq_getElem hi)), by simpa using hc⟩
    | none =>
      rw [h1] at hne
      cases h2 : B.l.find? (fun y => y.row.contains x) with
      | some y =>
        have hc := List.find?_some h2
        obtain ⟨i, hi⟩ := List.getElem?_of_mem (List.mem_of_find?_eq_some h2)
        exact ⟨_, List.mem_of_getElem? (rows_l hi), by simpa using hc⟩
      | none => rw [h2] at hne; exact absurd rfl hne
  · rintro ⟨r, hr, hx⟩ he
    cases h1 : B.t.findIdx? (fun y => y.row.contains x) with
    | some i => rw [h1] at he; dsimp only at he; omega
    | none =>
      rw [h1] at he
      cases h2 : B.l.find? (fun y => y.row.contains x) with
      | some y =>
        rw [h2] at he
        have hc := List.find?_some h2
        have := h.fr y (List.mem_of_find?_eq_some h2) he
        rw [this] at hc
        simp at hc
      | none =>
        rcases List.mem_append.1 hr with hr | hr
        · obtain ⟨y, hy, rfl⟩ := List.mem_map.1 hr
          have := List.findIdx?_eq_none_iff.1 h1 y hy
          simp [hx] at this
        · obtain ⟨y, hy, rfl⟩ := List.mem_map.1 hr
          have := List.find?_eq_none.1 h2 y hy
          simp [hx] at this
theorem Iv.goes {B : Bk} (h : Iv B) {t : Int} (hg : goB B t = 0) : Lv B t ∧ ∀ r ∈ rowsM B, t ∉ r := by
  obtain ⟨i, x, e, hx, hen, hw⟩ := goB_at hg
  refine ⟨⟨i, x, e, hx, hen⟩, fun r hr hm => ?_⟩
  have := (h.wt t).2 ⟨r, hr, hm⟩
  rw [hw] at this
  cases this
theorem rows_setT {B : Bk} {i : Nat} (hi : i < B.t.length) (x : Th) : rowsM { B with t := B.t.set i x } = (rowsM B).set i x.row := by
  rw [rowsM, rowsM, List.set_append_left _ _ (by simpa using hi), List.map_set]
theorem rows_setL {B : Bk} {i : Nat} (x : Lk) : rowsM { B with l := B.l.set i x } = (rowsM B).set (B.t.length + i) x.row := by
  rw [rowsM, rowsM, List.set_append_right _ _ (by simp), List.map_set]
  simp
theorem mem_set {α : Type} {l : List α} {i : Nat} {x y : α} (h : y ∈ l.set i x) : y ∈ l ∨ y = x := List.mem_or_eq_of_mem_set h
/-- Live threads stay so where only rows of threads turn. -/
theorem lv_setT {B : Bk} {i : Nat} {x x' : Th} (hi : B.t[i]? = some x) (he : x'.en = x.en) {y : Int} (h : Lv B y) : Lv { B with t := B.t.set i x' } y := by
  have hlt := (List.getElem?_eq_some_iff.1 hi).1
  obtain ⟨j, t, rfl, hj, hen⟩ := h
  by_cases e : i = j
  · subst e
    rw [hi] at hj
    cases hj
    exact ⟨i, x', rfl, List.getElem?_set_self hlt, by rw [he]; exact hen⟩
  · exact ⟨j, t, rfl, by rw [List.getElem?_set_ne e]; exact hj, hen⟩
theorem lock_iv {B : Bk} (h : Iv B) (t k : Int) : Iv (lockM B t k).2 := by
  unfold lockM
  split
  · exact h
  · split
    · exact h
    · rename_i hg
      have hg' : goB B t = 0 := by simpa using hg
      obtain ⟨hl, hn⟩ := h.goes hg'
      cases hx : B.l[k.toNat]? with
      | none => exact h
      | some x =>
        have hlt := (List.getElem?_eq_some_iff.1 hx).1
        dsimp only
        split
        · exact h
        · split
          · rename_i h0
            have hr := h.fr x (List.mem_of_getElem? hx) h0
            have hrows : rowsM { B with l := B.l.set k.toNat { x with ho := t } } = rowsM B := by
              rw [rows_setL]
              have e := rows_l hx
              have h2 := (List.getElem?_eq_some_iff.1 e).1
              have h3 := (List.getElem?_eq_some_iff.1 e).2
              show (rowsM B).set _ x.row = _
              rw [← h3]
              exact List.set_getElem_self h2
            refine ⟨by rw [hrows]; exact h.nd, by rw [hrows]; exact h.rg, fun l hl' h0' => ?_, fun l hl' h0' => ?_, h.er, h.nz, h.tn⟩
            · rcases mem_set hl' with hl' | rfl
              · exact h.fr l hl' h0'
              · exact hr
            · rcases mem_set hl' with hl' | rfl
              · exact h.ho l hl' h0'
              · exact hl
          · rename_i h1 h0
            refine ⟨by rw [rows_setL]; exact h.nd.snoc (rows_l hx) hn, ?_, fun l hl' h0' => ?_, fun l hl' h0' => ?_, h.er, h.nz, h.tn⟩
            · rw [rows_setL]
              intro r hr y hy
              rcases mem_set hr with hr | rfl
              · exact h.rg r hr y hy
              · rcases List.mem_append.1 hy with hy | hy
                · exact h.rg _ (List.mem_of_getElem? (rows_l hx)) y hy
                · rw [List.mem_singleton.1 hy]
                  exact hl
            · rcases mem_set hl' with hl' | rfl
              · exact h.fr l hl' h0'
              · exact absurd h0' h0
            · rcases mem_set hl' with hl' | rfl
              · exact h.ho l hl' h0'
              · exact h.ho x (List.mem_of_getElem? hx) h0'
theorem join_iv {B : Bk} (h : Iv B) (t o : Int) : Iv (joinM B t o).2 := by
  unfold joinM
  split
  · exact h
  · split
    · exact h
    · rename_i hg
      have hg' : goB B t = 0 := by simpa using hg
      obtain ⟨hl, hn⟩ := h.goes hg'
      split
      · exact h
      · cases hx : B.t[(o - 1).toNat]? with
        | none => exact h
        | some x =>
          have hlt := (List.getElem?_eq_some_iff.1 hx).1
          dsimp only
          split
          · exact h
          · rename_i hen
            have hen' : x.en = false := by simpa using hen
            refine ⟨by rw [rows_setT hlt]; exact h.nd.snoc (rows_t hx) hn, ?_, h.fr, fun l hl' h0' => lv_setT (x' := { x with row := x.row ++ [t] }) hx rfl (h.ho l hl' h0'), fun y hy he => ?_, fun y hy he => ?_, by rw [List.length_set]; exact h.tn⟩
            · rw [rows_setT hlt]
              intro r hr y hy
              rcases mem_set hr with hr | rfl
              · exact lv_setT (x' := { x with row := x.row ++ [t] }) hx rfl (h.rg r hr y hy)
              · rcases List.mem_append.1 hy with hy | hy
                · exact lv_setT (x' := { x with row := x.row ++ [t] }) hx rfl (h.rg _ (List.mem_of_getElem? (rows_t hx)) y hy)
                · rw [List.mem_singleton.1 hy]
                  exact lv_setT (x' := { x with row := x.row ++ [t] }) hx rfl hl
            · rcases mem_set hy with hy | rfl
              · exact h.er y hy he
              · dsimp only at he
                rw [hen'] at he
                cases he
            · rcases mem_set hy with hy | rfl
              · exact h.nz y hy he
              · exact h.nz x (List.mem_of_getElem? hx) hen'
theorem hnd_sub (x : Lk) : (hnd x).row.Sublist x.row := List.tail_sublist _
theorem hnd_ho {B : Bk} (h : Iv B) {x : Lk} (hx : x ∈ B.l) : ((hnd x).ho = 0 → (hnd x).row = []) ∧ ((hnd x).ho ≠ 0 → (hnd x).ho ∈ x.row) := by
  obtain ⟨i, hi⟩ := List.getElem?_of_mem hx
  unfold hnd
  cases hr : x.row with
  | nil => exact ⟨fun _ => rfl, fun h0 => absurd rfl h0⟩
  | cons y r =>
    refine ⟨fun h0 => ?_, fun _ => List.mem_cons_self⟩
    have := (h.rg _ (List.mem_of_getElem? (rows_l hi)) y (by rw [hr]; exact List.mem_cons_self)).rng
    have e : y = 0 := h0
    omega
theorem sub_refl (R : List (List Int)) : SubR R R := fun _ r' hr => ⟨r', hr, List.Sublist.refl _⟩
theorem sub_set {R : List (List Int)} {i : Nat} {r r' : List Int} (hi : R[i]? = some r) (hs : r'.Sublist r) : SubR (R.set i r') R := fun k s hk => by
  have hlt := (List.getElem?_eq_some_iff.1 hi).1
  by_cases e : i = k
  · subst e
    rw [List.getElem?_set_self hlt] at hk
    cases hk
    exact ⟨r, hi, hs⟩
  · rw [List.getElem?_set_ne e] at hk
    exact ⟨s, hk, List.Sublist.refl _⟩
theorem unlock_iv {B : Bk} (h : Iv B) (t k : Int) : Iv (unlockM B t k).2 := by
  unfold unlockM
  split
  · exact h
  · split
    · exact h
    · cases hx : B.l[k.toNat]? with
      | none => exact h
      | some x =>
        dsimp only
        split
        · exact h
        · have hm := List.mem_of_getElem? hx
          have hsub : SubR (rowsM { B with l := B.l.set k.toNat (hnd x) }) (rowsM B) := by
            rw [rows_setL]
            exact sub_set (rows_l hx) (hnd_sub x)
          refine ⟨h.nd.sub hsub, fun r hr y hy => ?_, fun l hl' h0' => ?_, fun l hl' h0' => ?_, h.er, h.nz, h.tn⟩
          · obtain ⟨i, hi⟩ := List.getElem?_of_mem hr
            obtain ⟨r0, h1, h2⟩ := hsub i r hi
            exact h.rg r0 (List.mem_of_getElem? h1) y (h2.subset hy)
          · rcases mem_set hl' with hl' | rfl
            · exact h.fr l hl' h0'
            · exact (hnd_ho h hm).1 h0'
          · rcases mem_set hl' with hl' | rfl
            · exact h.ho l hl' h0'
            · exact h.rg _ (List.mem_of_getElem? (rows_l hx)) _ ((hnd_ho h hm).2 h0')
end Go.Proofs.YtdlnkdcgipaoeaaDoor
