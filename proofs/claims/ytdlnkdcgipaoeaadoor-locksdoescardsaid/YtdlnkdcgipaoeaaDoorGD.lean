/- What holds of a book: nobody waits twice; who waits goes on; no lock is free while somebody waits for it.; What holds of a book, at an end; who goes then.; What holds of a book: a thread comes; a global is another word; New of numbers that may not be.; Who waits, by the answers alone: rows and joins beside a book. -/
import Derived.Test.YtdlnkdcgipaoeaaDoorHLKnown
/- What holds of a book: nobody waits twice; who waits goes on; no lock is free while somebody waits for it. -/
namespace Go.Proofs.YtdlnkdcgipaoeaaDoor
open Go.RowKit

theorem nodup_le : ∀ (k : Nat) (l : List Int), (∀ p ∈ l, 1 ≤ p ∧ p ≤ k) → l.Nodup → l.length ≤ k := by
  intro k
  induction k with
  | zero => intro l hl _; cases l with
    | nil => exact Nat.le_refl _
    | cons p l => have := hl p List.mem_cons_self; omega
  | succ k ih =>
    intro l hl hn
    have h1 : (l.filter (fun p => p != ((k + 1 : Nat) : Int))).length ≤ k := by
      refine ih _ (fun p hp => ?_) (List.Nodup.sublist List.filter_sublist hn)
      obtain ⟨hp1, hp2⟩ := List.mem_filter.1 hp
      have := hl p hp1
      have h2 : p ≠ ((k + 1 : Nat) : Int) := by simpa using hp2
      omega
    have h2 : ∀ l : List Int, l.Nodup → l.length ≤ (l.filter (fun p => p != ((k + 1 : Nat) : Int))).length + 1 := by
      intro l
      induction l with
      | nil => intro _; simp
      | cons x r ihr =>
        intro hn
        obtain ⟨hx, hr⟩ := List.nodup_cons.1 hn
        by_cases e : x = ((k + 1 : Nat) : Int)
        · have : r.filter (fun p => p != ((k + 1 : Nat) : Int)) = r := List.filter_eq_self.2 (fun y hy => by
            have : y ≠ x := fun e' => hx (by rw [← e']; exact hy)
            rw [e] at this
            simpa using this)
          rw [List.filter_cons, if_neg (by simp [e]), this]
          simp
        · rw [List.filter_cons, if_pos (by simpa using e)]
          have := ihr hr
          simp only [List.length_cons]
          omega
    have := h2 l hn
    omega
/-- Who waits stands once. -/
structure ND (R : List (List Int)) : Prop where
  nd : ∀ (i : Nat) (r : List Int), R[i]? = some r → r.Nodup
  inj : ∀ (i j : Nat) (r s : List Int) (x : Int), R[i]? = some r → R[j]? = some s → x ∈ r → x ∈ s → i = j
def SubR (R' R : List (List Int)) : Prop := ∀ (k : Nat) (r' : List Int), R'[k]? = some r' → ∃ r, R[k]? = some r ∧ r'.Sublist r
theorem ND.sub {R R' : List (List Int)} (h : ND R) (hs : SubR R' R) : ND R' :=
  ⟨fun i r' hr => by
    obtain ⟨r, h1, h2⟩ := hs i r' hr
    exact List.Nodup.sublist h2 (h.nd i r h1), fun i j r' s' x hr hs' hx hy => by
    obtain ⟨r, h1, h2⟩ := hs i r' hr
    obtain ⟨s, k1, k2⟩ := hs j s' hs'
    exact h.inj i j r s x h1 k1 (h2.subset hx) (k2.subset hy)⟩
theorem ND.snoc {R : List (List Int)} (h : ND R) {i : Nat} {r : List Int} {t : Int} (hi : R[i]? = some r) (ht : ∀ s ∈ R, t ∉ s) : ND (R.set i (r ++ [t])) := by
  have hlt := (List.getElem?_eq_some_iff.1 hi).1
  have key : ∀ j s, (R.set i (r ++ [t]))[j]? = some s → ∃ s0, R[j]? = some s0 ∧ ((j = i ∧ s = s0 ++ [t]) ∨ (j ≠ i ∧ s = s0)) := fun j s hs => by
    by_cases e : i = j
    · subst e
      rw [List.getElem?_set_self hlt] at hs
      exact ⟨r, hi, .inl ⟨rfl, (Option.some.inj hs).symm⟩⟩
    · rw [List.getElem?_set_ne e] at hs
      exact ⟨s, hs, .inr ⟨fun e' => e e'.symm, rfl⟩⟩
  have old : ∀ j s x, (R.set i (r ++ [t]))[j]? = some s → x ∈ s → x ≠ t → ∃ s0, R[j]? = some s0 ∧ x ∈ s0 := fun j s x hs hx hne => by
    obtain ⟨s0, h0, h1⟩ := key j s hs
    rcases h1 with ⟨_, rfl⟩ | ⟨_, rfl⟩
    · rcases List.mem_append.1 hx with hx | hx
      · exact ⟨s0, h0, hx⟩
      · exact absurd (List.mem_singleton.1 hx) hne
    · exact ⟨s, h0, hx⟩
  have new : ∀ j s, (R.set i (r ++ [t]))[j]? = some s → t ∈ s → j = i := fun j s hs hx => by
    obtain ⟨s0, h0, h1⟩ := key j s hs
    rcases h1 with ⟨e, _⟩ | ⟨_, rfl⟩
    · exact e
    · exact absurd hx (ht s (List.mem_of_getElem? h0))
  refine ⟨fun j s hs => ?_, fun j k s s' x hj hk hx hy => ?_⟩
  · obtain ⟨s0, h0, h1⟩ := key j s hs
    rcases h1 with ⟨_, rfl⟩ | ⟨_, rfl⟩
    · refine List.nodup_append.2 ⟨h.nd j s0 h0, by simp, fun a ha b hb => ?_⟩
      rw [List.mem_singleton.1 hb]
      exact fun e => ht s0 (List.mem_of_getElem? h0) (by rw [← e]; exact ha)
    · exact h.nd j s h0
  · by_cases e : x = t
    · subst e
      rw [new j s hj hx, new k s' hk hy]
    · obtain ⟨s0, h0, h1⟩ := old j s x hj hx e
      obtain ⟨s1, k0, k1⟩ := old k s' x hk hy e
      exact h.inj j k s0 s1 x h0 k0 h1 k1
def rowsM (B : Bk) : List (List Int) := B.t.map (·.row) ++ B.l.map (·.row)
/-- A thread that is there and has not ended. -/
def Lv (B : Bk) (x : Int) : Prop := ∃ (i : Nat) (t : Th), x = (i : Int) + 1 ∧ B.t[i]? = some t ∧ t.en = false
structure Iv (B : Bk) : Prop where
  nd : ND (rowsM B)
  rg : ∀ r ∈ rowsM B, ∀ x ∈ r, Lv B x
  fr : ∀ l ∈ B.l, l.ho = 0 → l.row = []
  ho : ∀ l ∈ B.l, l.ho ≠ 0 → Lv B l.ho
  er : ∀ t ∈ B.t, t.en = true → t.row = []
  nz : ∀ t ∈ B.t, t.en = false → t.wd = 0 ∧ t.er = 0
  tn : B.t.length ≤ 8
theorem Lv.rng {B : Bk} {x : Int} (h : Lv B x) : 1 ≤ x ∧ x ≤ B.t.length := by
  obtain ⟨i, t, rfl, hi, _⟩ := h
  have := (List.getElem?_eq_some_iff.1 hi).1
  omega
theorem rows_t {B : Bk} {i : Nat} {x : Th} (h : B.t[i]? = some x) : (rowsM B)[i]? = some x.row := by
  have hlt := (List.getElem?_eq_some_iff.1 h).1
  rw [rowsM, List.getElem?_append_left (by simpa using hlt), List.getElem?_map, h]
  rfl
theorem rows_l {B : Bk} {i : Nat} {x : Lk} (h : B.l[i]? = some x) : (rowsM B)[B.t.length + i]? = some x.row := by
  rw [rowsM, List.getElem?_append_right (by simp), List.getElem?_map]
  simp [h]
theorem Iv.short {B : Bk} (h : Iv B) {i : Nat} {r : List Int} (hr : (rowsM B)[i]? = some r) : r.length ≤ 8 := by
  have := nodup_le B.t.length r (fun x hx => (h.rg r (List.mem_of_getElem? hr) x hx).rng) (h.nd.nd i r hr)
  have := h.tn
  omega
theorem Iv.sh {B : Bk} (h : Iv B) : Sh B := by
  refine ⟨fun x hx => ?_, fun x hx => ?_⟩
  · obtain ⟨i, hi⟩ := List.getElem?_of_mem hx
    have := h.short (rows_t hi)
    refine ⟨by omega, fun y hy e => ?_⟩
    have := (h.rg _ (List.mem_of_getElem? (rows_t hi)) y hy).rng
    omega
  · obtain ⟨i, hi⟩ := List.getElem?_of_mem hx
    have := h.short (rows_l hi)
    refine ⟨by omega, fun y hy e => ?_⟩
    have := (h.rg _ (List.mem_of_getElem? (rows_l hi)) y hy).rng
    omega
theorem Iv.wt {B : Bk} (h : Iv B) (x : Int) : wtB B x = true ↔ ∃ r ∈ rowsM B, x ∈ r := by
  unfold wtB awB awM
  rw [decide_eq_true_iff]
  constructor
  · intro hne
    cases h1 : B.t.findIdx? (fun y => y.row.contains x) with
    | some i =>
      obtain ⟨hi, hc, _⟩ := List.findIdx?_eq_some_iff_getElem.1 h1
      exact ⟨_, List.mem_of_getElem? (rows_t (List.getElem?_eq_getElem hi)), by simpa using hc⟩
    | none =>
      rw [h1] at hne
      cases h2 : B.l.find? (fun y => y.row.contains x) with
      | some y =>
        have hc := List.find?_some h2
        obtain ⟨i, hi⟩ := List.getElem?_of_mem (List.mem_of_find?_eq_some h2)
        exact ⟨_, List.mem_of_getElem? (rows_l hi), by simpa using hc⟩
      | none => rw [h2] at hne; exact absurd rfl hne
  · rintro ⟨r, hr, hx⟩ he
    cases h1 : B.t.findIdx? (fun y => y.row.contains x) with
    | some i => rw [h1] at he; dsimp only at he; omega
    | none =>
      rw [h1] at he
      cases h2 : B.l.find? (fun y => y.row.contains x) with
      | some y =>
        rw [h2] at he
        have hc := List.find?_some h2
        have := h.fr y (List.mem_of_find?_eq_some h2) he
        rw [this] at hc
        simp at hc
      | none =>
        rcases List.mem_append.1 hr with hr | hr
        · obtain ⟨y, hy, rfl⟩ := List.mem_map.1 hr
          have := List.findIdx?_eq_none_iff.1 h1 y hy
          simp [hx] at this
        · obtain ⟨y, hy, rfl⟩ := List.mem_map.1 hr
          have := List.find?_eq_none.1 h2 y hy
          simp [hx] at this
theorem Iv.goes {B : Bk} (h : Iv B) {t : Int} (hg : goB B t = 0) : Lv B t ∧ ∀ r ∈ rowsM B, t ∉ r := by
  obtain ⟨i, x, e, hx, hen, hw⟩ := goB_at hg
  refine ⟨⟨i, x, e, hx, hen⟩, fun r hr hm => ?_⟩
  have := (h.wt t).2 ⟨r, hr, hm⟩
  rw [hw] at this
  cases this
theorem rows_setT {B : Bk} {i : Nat} (hi : i < B.t.length) (x : Th) : rowsM { B with t := B.t.set i x } = (rowsM B).set i x.row := by
  rw [rowsM, rowsM, List.set_append_left _ _ (by simpa using hi), List.map_set]
theorem rows_setL {B : Bk} {i : Nat} (x : Lk) : rowsM { B with l := B.l.set i x } = (rowsM B).set (B.t.length + i) x.row := by
  rw [rowsM, rowsM, List.set_append_right _ _ (by simp), List.map_set]
  simp
theorem mem_set {α : Type} {l : List α} {i : Nat} {x y : α} (h : y ∈ l.set i x) : y ∈ l ∨ y = x := List.mem_or_eq_of_mem_set h
/-- Live threads stay so where only rows of threads turn. -/
theorem lv_setT {B : Bk} {i : Nat} {x x' : Th} (hi : B.t[i]? = some x) (he : x'.en = x.en) {y : Int} (h : Lv B y) : Lv { B with t := B.t.set i x' } y := by
  have hlt := (List.getElem?_eq_some_iff.1 hi).1
  obtain ⟨j, t, rfl, hj, hen⟩ := h
  by_cases e : i = j
  · subst e
    rw [hi] at hj
    cases hj
    exact ⟨i, x', rfl, List.getElem?_set_self hlt, by rw [he]; exact hen⟩
  · exact ⟨j, t, rfl, by rw [List.getElem?_set_ne e]; exact hj, hen⟩
theorem lock_iv {B : Bk} (h : Iv B) (t k : Int) : Iv (lockM B t k).2 := by
  unfold lockM
  split
  · exact h
  · split
    · exact h
    · rename_i hg
      have hg' : goB B t = 0 := by simpa using hg
      obtain ⟨hl, hn⟩ := h.goes hg'
      cases hx : B.l[k.toNat]? with
      | none => exact h
      | some x =>
        have hlt := (List.getElem?_eq_some_iff.1 hx).1
        dsimp only
        split
        · exact h
        · split
          · rename_i h0
            have hr := h.fr x (List.mem_of_getElem? hx) h0
            have hrows : rowsM { B with l := B.l.set k.toNat { x with ho := t } } = rowsM B := by
              rw [rows_setL]
              have e := rows_l hx
              have h2 := (List.getElem?_eq_some_iff.1 e).1
              have h3 := (List.getElem?_eq_some_iff.1 e).2
              show (rowsM B).set _ x.row = _
              rw [← h3]
              exact List.set_getElem_self h2
            refine ⟨by rw [hrows]; exact h.nd, by rw [hrows]; exact h.rg, fun l hl' h0' => ?_, fun l hl' h0' => ?_, h.er, h.nz, h.tn⟩
            · rcases mem_set hl' with hl' | rfl
              · exact h.fr l hl' h0'
              · exact hr
            · rcases mem_set hl' with hl' | rfl
              · exact h.ho l hl' h0'
              · exact hl
          · rename_i h1 h0
            refine ⟨by rw [rows_setL]; exact h.nd.snoc (rows_l hx) hn, ?_, fun l hl' h0' => ?_, fun l hl' h0' => ?_, h.er, h.nz, h.tn⟩
            · rw [rows_setL]
              intro r hr y hy
              rcases mem_set hr with hr | rfl
              · exact h.rg r hr y hy
              · rcases List.mem_append.1 hy with hy | hy
                · exact h.rg _ (List.mem_of_getElem? (rows_l hx)) y hy
                · rw [List.mem_singleton.1 hy]
                  exact hl
            · rcases mem_set hl' with hl' | rfl
              · exact h.fr l hl' h0'
              · exact absurd h0' h0
            · rcases mem_set hl' with hl' | rfl
              · exact h.ho l hl' h0'
              · exact h.ho x (List.mem_of_getElem? hx) h0'
theorem join_iv {B : Bk} (h : Iv B) (t o : Int) : Iv (joinM B t o).2 := by
  unfold joinM
  split
  · exact h
  · split
    · exact h
    · rename_i hg
      have hg' : goB B t = 0 := by simpa using hg
      obtain ⟨hl, hn⟩ := h.goes hg'
      split
      · exact h
      · cases hx : B.t[(o - 1).toNat]? with
        | none => exact h
        | some x =>
          have hlt := (List.getElem?_eq_some_iff.1 hx).1
          dsimp only
          split
          · exact h
          · rename_i hen
            have hen' : x.en = false := by simpa using hen
            refine ⟨by rw [rows_setT hlt]; exact h.nd.snoc (rows_t hx) hn, ?_, h.fr, fun l hl' h0' => lv_setT (x' := { x with row := x.row ++ [t] }) hx rfl (h.ho l hl' h0'), fun y hy he => ?_, fun y hy he => ?_, by rw [List.length_set]; exact h.tn⟩
            · rw [rows_setT hlt]
              intro r hr y hy
              rcases mem_set hr with hr | rfl
              · exact lv_setT (x' := { x with row := x.row ++ [t] }) hx rfl (h.rg r hr y hy)
              · rcases List.mem_append.1 hy with hy | hy
                · exact lv_setT (x' := { x with row := x.row ++ [t] }) hx rfl (h.rg _ (List.mem_of_getElem? (rows_t hx)) y hy)
                · rw [List.mem_singleton.1 hy]
                  exact lv_setT (x' := { x with row := x.row ++ [t] }) hx rfl hl
            · rcases mem_set hy with hy | rfl
              · exact h.er y hy he
              · dsimp only at he
                rw [hen'] at he
                cases he
            · rcases mem_set hy with hy | rfl
              · exact h.nz y hy he
              · exact h.nz x (List.mem_of_getElem? hx) hen'
theorem hnd_sub (x : Lk) : (hnd x).row.Sublist x.row := List.tail_sublist _
theorem hnd_ho {B : Bk} (h : Iv B) {x : Lk} (hx : x ∈ B.l) : ((hnd x).ho = 0 → (hnd x).row = []) ∧ ((hnd x).ho ≠ 0 → (hnd x).ho ∈ x.row) := by
  obtain ⟨i, hi⟩ := List.getElem?_of_mem hx
  unfold hnd
  cases hr : x.row with
  | nil => exact ⟨fun _ => rfl, fun h0 => absurd rfl h0⟩
  | cons y r =>
    refine ⟨fun h0 => ?_, fun _ => List.mem_cons_self⟩
    have := (h.rg _ (List.mem_of_getElem? (rows_l hi)) y (by rw [hr]; exact List.mem_cons_self)).rng
    have e : y = 0 := h0
    omega
theorem sub_refl (R : List (List Int)) : SubR R R := fun _ r' hr => ⟨r', hr, List.Sublist.refl _⟩
theorem sub_set {R : List (List Int)} {i : Nat} {r r' : List Int} (hi : R[i]? = some r) (hs : r'.Sublist r) : SubR (R.set i r') R := fun k s hk => by
  have hlt := (List.getElem?_eq_some_iff.1 hi).1
  by_cases e : i = k
  · subst e
    rw [List.getElem?_set_self hlt] at hk
    cases hk
    exact ⟨r, hi, hs⟩
  · rw [List.getElem?_set_ne e] at hk
    exact ⟨s, hk, List.Sublist.refl _⟩
theorem unlock_iv {B : Bk} (h : Iv B) (t k : Int) : Iv (unlockM B t k).2 := by
  unfold unlockM
  split
  · exact h
  · split
    · exact h
    · cases hx : B.l[k.toNat]? with
      | none => exact h
      | some x =>
        dsimp only
        split
        · exact h
        · have hm := List.mem_of_getElem? hx
          have hsub : SubR (rowsM { B with l := B.l.set k.toNat (hnd x) }) (rowsM B) := by
            rw [rows_setL]
            exact sub_set (rows_l hx) (hnd_sub x)
          refine ⟨h.nd.sub hsub, fun r hr y hy => ?_, fun l hl' h0' => ?_, fun l hl' h0' => ?_, h.er, h.nz, h.tn⟩
          · obtain ⟨i, hi⟩ := List.getElem?_of_mem hr
            obtain ⟨r0, h1, h2⟩ := hsub i r hi
            exact h.rg r0 (List.mem_of_getElem? h1) y (h2.subset hy)
          · rcases mem_set hl' with hl' | rfl
            · exact h.fr l hl' h0'
            · exact (hnd_ho h hm).1 h0'
          · rcases mem_set hl' with hl' | rfl
            · exact h.ho l hl' h0'
            · exact h.rg _ (List.mem_of_getElem? (rows_l hx)) _ ((hnd_ho h hm).2 h0')
end Go.Proofs.YtdlnkdcgipaoeaaDoor

/- What holds of a book, at an end; who goes then. -/
namespace Go.Proofs.YtdlnkdcgipaoeaaDoor
open Go.RowKit

theorem hoLs_all (t : Int) (l : List Lk) : hoLs t l l.length = l.map (hoL1 t) := by
  simp [hoLs]
theorem mem_outs {t x : Int} {l : List Lk} : ∀ {j : Nat}, x ∈ outs t l j ↔ ∃ i y, i < j ∧ l[i]? = some y ∧ y.ho = t ∧ y.row.head? = some x
  | 0 => by simp [outs]
  | j + 1 => by
    cases h : l[j]? with
    | none =>
      have hn := List.getElem?_eq_none_iff.1 h
      have e : outs t l (j + 1) = outs t l j := by rw [outs, outs, List.take_of_length_le (by omega), List.take_of_length_le (by omega)]
      rw [e, mem_outs (j := j)]
      constructor
      · rintro ⟨i, y, h1, h2⟩
        exact ⟨i, y, by omega, h2⟩
      · rintro ⟨i, y, h1, h2, h3⟩
        have := (List.getElem?_eq_some_iff.1 h2).1
        exact ⟨i, y, by omega, h2, h3⟩
    | some z =>
      rw [outs_succ h, List.mem_append, mem_outs (j := j)]
      constructor
      · rintro (⟨i, y, h1, h2⟩ | hx)
        · exact ⟨i, y, by omega, h2⟩
        · unfold hoO1 at hx
          split at hx
          · rename_i hz
            refine ⟨j, z, by omega, h, hz, ?_⟩
            cases hr : z.row with
            | nil => rw [hr] at hx; simp at hx
            | cons a r => rw [hr] at hx; simp at hx; rw [hx]; rfl
          · simp at hx
      · rintro ⟨i, y, h1, h2, h3, h4⟩
        by_cases e : i = j
        · subst e
          rw [h] at h2
          cases h2
          right
          unfold hoO1
          rw [if_pos h3]
          cases hr : z.row with
          | nil => rw [hr] at h4; cases h4
          | cons a r => rw [hr] at h4; simp at h4; simp [h4]
        · exact .inl ⟨i, y, by omega, h2, h3, h4⟩
theorem head_mem {r : List Int} {x : Int} (h : r.head? = some x) : x ∈ r := by
  cases r with
  | nil => cases h
  | cons a r => cases h; exact List.mem_cons_self
theorem outs_nd {B : Bk} (h : Iv B) (t : Int) : ∀ j, (outs t B.l j).Nodup
  | 0 => by simp [outs]
  | j + 1 => by
    cases hl : B.l[j]? with
    | none =>
      have hn := List.getElem?_eq_none_iff.1 hl
      have e : outs t B.l (j + 1) = outs t B.l j := by rw [outs, outs, List.take_of_length_le (by omega), List.take_of_length_le (by omega)]
      rw [e]
      exact outs_nd h t j
    | some z =>
      rw [outs_succ hl]
      refine List.nodup_append.2 ⟨outs_nd h t j, ?_, fun a ha b hb e => ?_⟩
      · unfold hoO1
        split
        · exact List.Nodup.sublist (List.take_sublist _ _) (h.nd.nd _ _ (rows_l hl))
        · simp
      · subst e
        obtain ⟨i, y, h1, h2, _, h4⟩ := mem_outs.1 ha
        have hb2 : a ∈ z.row := by
          unfold hoO1 at hb
          split at hb
          · exact List.mem_of_mem_take hb
          · simp at hb
        have := h.nd.inj _ _ _ _ a (rows_l h2) (rows_l hl) (head_mem h4) hb2
        omega
/-- Who goes when t ends: nobody twice. -/
theorem goes_nd {B : Bk} (h : Iv B) (t : Int) {i : Nat} {x : Th} (hx : B.t[i]? = some x) : (outs t B.l B.l.length ++ x.row).Nodup := by
  refine List.nodup_append.2 ⟨outs_nd h t _, h.nd.nd _ _ (rows_t hx), fun a ha b hb e => ?_⟩
  subst e
  obtain ⟨j, y, h1, h2, _, h4⟩ := mem_outs.1 ha
  have := h.nd.inj _ _ _ _ a (rows_l h2) (rows_t hx) (head_mem h4) hb
  have := (List.getElem?_eq_some_iff.1 hx).1
  omega
theorem lt_ext : ∀ {l m : List Int}, l.Pairwise (· < ·) → m.Pairwise (· < ·) → (∀ x, x ∈ l ↔ x ∈ m) → l = m
  | [], [], _, _, _ => rfl
  | [], y :: m, _, _, h => by have := (h y).2 List.mem_cons_self; cases this
  | x :: l, [], _, _, h => by have := (h x).1 List.mem_cons_self; cases this
  | x :: l, y :: m, hl, hm, h => by
    obtain ⟨hl1, hl2⟩ := List.pairwise_cons.1 hl
    obtain ⟨hm1, hm2⟩ := List.pairwise_cons.1 hm
    have e : x = y := by
      rcases List.mem_cons.1 ((h x).1 List.mem_cons_self) with e | e
      · exact e
      · rcases List.mem_cons.1 ((h y).2 List.mem_cons_self) with e2 | e2
        · exact e2.symm
        · have h1 := hm1 x e
          have h2 := hl1 y e2
          omega
    subst e
    rw [lt_ext hl2 hm2 (fun z => ⟨fun hz => ?_, fun hz => ?_⟩)]
    · rcases List.mem_cons.1 ((h z).1 (List.mem_cons_of_mem _ hz)) with e | e
      · have := hl1 z hz
        omega
      · exact e
    · rcases List.mem_cons.1 ((h z).2 (List.mem_cons_of_mem _ hz)) with e | e
      · have := hm1 z hz
        omega
      · exact e
theorem srt_is {l m : List Int} (hl : l.Nodup) (hm : m.Pairwise (· < ·)) (h : ∀ x, x ∈ l ↔ x ∈ m) : srt l = m := by
  have hp : (srt l).Perm l := List.mergeSort_perm l _
  have h1 : (srt l).Pairwise (fun a b => decide (a ≤ b) = true) := List.pairwise_mergeSort (fun a b c h1 h2 => by simp at h1 h2 ⊢; omega) (fun a b => by simp; omega) l
  have h2 : (srt l).Nodup := hp.nodup_iff.2 hl
  have h3 : (srt l).Pairwise (· < ·) := by
    refine List.Pairwise.imp (fun {a b} hab => ?_) (List.Pairwise.and h1 h2)
    have h4 : a ≤ b := of_decide_eq_true hab.1
    have h5 : a ≠ b := hab.2
    omega
  exact lt_ext h3 hm (fun x => (hp.mem_iff).trans (h x))
theorem end_is {B : Bk} {i : Nat} {x : Th} (wd er : Int) (hg : goB B ((i : Int) + 1) = 0) (hx : B.t[i]? = some x) : endM B ((i : Int) + 1) wd er = ((srt (outs ((i : Int) + 1) B.l B.l.length ++ x.row), 0), ⟨B.t.set i ⟨[], true, if er = 0 then wd else 0, er⟩, B.l.map (hoL1 ((i : Int) + 1)), B.g⟩) := by
  unfold endM
  rw [if_neg (by simpa using hg), show ((i : Int) + 1 - 1).toNat = i by omega, hx, hoLs_all]
  rfl
theorem rows_end {B : Bk} {i : Nat} {x y : Th} (t : Int) (hx : B.t[i]? = some x) (hy : y.row = []) (g : List Int) : SubR (rowsM ⟨B.t.set i y, B.l.map (hoL1 t), g⟩) (rowsM B) := fun k r' hk => by
  have hlt := (List.getElem?_eq_some_iff.1 hx).1
  rw [rowsM] at hk
  by_cases h1 : k < B.t.length
  · rw [List.getElem?_append_left (by simpa using h1), List.getElem?_map] at hk
    by_cases e : i = k
    · subst e
      rw [List.getElem?_set_self hlt] at hk
      cases hk
      refine ⟨x.row, rows_t hx, ?_⟩
      show y.row.Sublist x.row
      rw [hy]
      exact List.nil_sublist _
    · rw [List.getElem?_set_ne e] at hk
      cases hz : B.t[k]? with
      | none => rw [hz] at hk; cases hk
      | some z =>
        rw [hz] at hk
        cases hk
        exact ⟨z.row, rows_t hz, List.Sublist.refl _⟩
  · rw [List.getElem?_append_right (by simp; omega)] at hk
    simp only [List.length_map, List.length_set, List.map_map, List.getElem?_map] at hk
    cases hz : B.l[k - B.t.length]? with
    | none => rw [hz] at hk; cases hk
    | some z =>
      rw [hz] at hk
      cases hk
      refine ⟨z.row, ?_, ?_⟩
      · have := rows_l hz
        rw [show B.t.length + (k - B.t.length) = k by omega] at this
        exact this
      · show (hoL1 t z).row.Sublist z.row
        unfold hoL1
        split
        · exact hnd_sub z
        · exact List.Sublist.refl _
theorem end_iv {B : Bk} (h : Iv B) (t wd er : Int) : Iv (endM B t wd er).2 := by
  by_cases hg : goB B t = 0
  · obtain ⟨i, x, rfl, hx, hen, -⟩ := goB_at hg
    obtain ⟨hl, hn⟩ := h.goes hg
    rw [end_is wd er hg hx]
    have hlt := (List.getElem?_eq_some_iff.1 hx).1
    have hsub := rows_end (y := ⟨[], true, if er = 0 then wd else 0, er⟩) ((i : Int) + 1) hx rfl B.g
    have hlv : ∀ y, Lv B y → y ≠ (i : Int) + 1 → Lv ⟨B.t.set i ⟨[], true, if er = 0 then wd else 0, er⟩, B.l.map (hoL1 ((i : Int) + 1)), B.g⟩ y := fun y hy hne => by
      obtain ⟨j, t, rfl, hj, he⟩ := hy
      refine ⟨j, t, rfl, ?_, he⟩
      show (B.t.set i _)[j]? = some t
      rw [List.getElem?_set_ne (fun e => hne (by rw [e]))]
      exact hj
    refine ⟨h.nd.sub hsub, fun r hr y hy => ?_, fun l hl' h0' => ?_, fun l hl' h0' => ?_, fun y hy he => ?_, fun y hy he => ?_, by show (B.t.set i _).length ≤ 8; rw [List.length_set]; exact h.tn⟩
    · obtain ⟨k, hk⟩ := List.getElem?_of_mem hr
      obtain ⟨r0, h1, h2⟩ := hsub k r hk
      have hm := h2.subset hy
      exact hlv y (h.rg r0 (List.mem_of_getElem? h1) y hm) (fun e => hn r0 (List.mem_of_getElem? h1) (by rw [← e]; exact hm))
    · obtain ⟨z, hz, rfl⟩ := List.mem_map.1 hl'
      unfold hoL1 at h0' ⊢
      split at h0'
      · rename_i hh
        rw [if_pos hh]
        exact (hnd_ho h hz).1 h0'
      · rename_i hh
        rw [if_neg hh]
        exact h.fr z hz h0'
    · obtain ⟨z, hz, rfl⟩ := List.mem_map.1 hl'
      obtain ⟨k, hk⟩ := List.getElem?_of_mem hz
      have hrow := List.mem_of_getElem? (rows_l hk)
      by_cases hh : z.ho = (i : Int) + 1
      · have e : hoL1 ((i : Int) + 1) z = hnd z := by unfold hoL1; rw [if_pos hh]
        rw [e] at h0' ⊢
        have hm := (hnd_ho h hz).2 h0'
        exact hlv _ (h.rg _ hrow _ hm) (fun e => hn _ hrow (by rw [← e]; exact hm))
      · have e : hoL1 ((i : Int) + 1) z = z := by unfold hoL1; rw [if_neg hh]
        rw [e] at h0' ⊢
        exact hlv _ (h.ho z hz h0') hh
    · rcases mem_set hy with hy | rfl
      · exact h.er y hy he
      · rfl
    · rcases mem_set hy with hy | rfl
      · exact h.nz y hy he
      · cases he
  · unfold endM
    rw [if_pos hg]
    exact h
/-- For whose end k waits. -/
def JN (B : Bk) (k v : Int) : Prop := (v = 0 ∧ ∀ y ∈ B.t, k ∉ y.row) ∨ ∃ (i : Nat) (y : Th), v = (i : Int) + 1 ∧ B.t[i]? = some y ∧ k ∈ y.row
theorem JN.ne {B : Bk} {k v : Int} (h : JN B k v) : v ≠ 0 ↔ ∃ y ∈ B.t, k ∈ y.row := by
  rcases h with ⟨rfl, h⟩ | ⟨i, y, rfl, h1, h2⟩
  · exact ⟨fun h0 => absurd rfl h0, fun ⟨y, hy, hk⟩ => absurd hk (h y hy)⟩
  · exact ⟨fun _ => ⟨y, List.mem_of_getElem? h1, h2⟩, fun _ => by omega⟩
theorem JN.same {B B' : Bk} {k v : Int} (h : JN B k v) (ht : B'.t = B.t) : JN B' k v := by
  unfold JN at *
  rw [ht]
  exact h
/-- Whether one waits, by whose end and by the locks' rows. -/
theorem Iv.wts {B : Bk} (h : Iv B) {k v : Int} (hj : JN B k v) : wtB B k = (decide (v ≠ 0) || B.l.any (fun l => l.row.contains k)) := by
  rw [Bool.eq_iff_iff, h.wt k, Bool.or_eq_true, decide_eq_true_iff, hj.ne, List.any_eq_true]
  constructor
  · rintro ⟨r, hr, hk⟩
    rcases List.mem_append.1 hr with hr | hr
    · obtain ⟨y, hy, rfl⟩ := List.mem_map.1 hr
      exact .inl ⟨y, hy, hk⟩
    · obtain ⟨y, hy, rfl⟩ := List.mem_map.1 hr
      exact .inr ⟨y, hy, by simpa using hk⟩
  · rintro (⟨y, hy, hk⟩ | ⟨y, hy, hk⟩)
    · exact ⟨_, List.mem_append_left _ (List.mem_map.2 ⟨y, hy, rfl⟩), hk⟩
    · exact ⟨_, List.mem_append_right _ (List.mem_map.2 ⟨y, hy, rfl⟩), by simpa using hk⟩
end Go.Proofs.YtdlnkdcgipaoeaaDoor

/- What holds of a book: a thread comes; a global is another word; New of numbers that may not be. -/
namespace Go.Proofs.YtdlnkdcgipaoeaaDoor
open Go.RowKit

theorem ND.ins {A C : List (List Int)} (h : ND (A ++ C)) : ND (A ++ [] :: C) := by
  have key : ∀ i p, (A ++ [] :: C)[i]? = some p → p = [] ∨ ∃ i0, (A ++ C)[i0]? = some p ∧ i = (if i0 < A.length then i0 else i0 + 1) := fun i p hp => by
    by_cases h1 : i < A.length
    · rw [List.getElem?_append_left h1] at hp
      exact .inr ⟨i, by rw [List.getElem?_append_left h1]; exact hp, by rw [if_pos h1]⟩
    · rw [List.getElem?_append_right (by omega)] at hp
      cases hk : i - A.length with
      | zero => rw [hk] at hp; cases hp; exact .inl rfl
      | succ k =>
        rw [hk, List.getElem?_cons_succ] at hp
        refine .inr ⟨A.length + k, ?_, ?_⟩
        · rw [List.getElem?_append_right (by omega), show A.length + k - A.length = k by omega]
          exact hp
        · rw [if_neg (by omega)]
          omega
  refine ⟨fun i r hr => ?_, fun i j r s x hi hj hx hy => ?_⟩
  · rcases key i r hr with rfl | ⟨i0, h0, _⟩
    · exact List.nodup_nil
    · exact h.nd i0 r h0
  · rcases key i r hi with rfl | ⟨i0, h0, e0⟩
    · cases hx
    · rcases key j s hj with rfl | ⟨j0, k0, e1⟩
      · cases hy
      · rw [e0, e1, h.inj i0 j0 r s x h0 k0 hx hy]
theorem rows_add (B : Bk) : rowsM { B with t := B.t ++ [⟨[], false, 0, 0⟩] } = B.t.map (·.row) ++ [] :: B.l.map (·.row) := by
  simp [rowsM]
theorem lv_add {B : Bk} {x : Int} (h : Lv B x) : Lv { B with t := B.t ++ [⟨[], false, 0, 0⟩] } x := by
  obtain ⟨i, t, rfl, hi, he⟩ := h
  exact ⟨i, t, rfl, by dsimp only; rw [List.getElem?_append_left (List.getElem?_eq_some_iff.1 hi).1]; exact hi, he⟩
theorem start_iv {B : Bk} (h : Iv B) : Iv (startM B).2 := by
  unfold startM
  split
  · exact h
  · rename_i h8
    have htn := h.tn
    refine ⟨by rw [rows_add]; exact h.nd.ins, ?_, h.fr, fun l hl h0 => lv_add (h.ho l hl h0), fun t ht he => ?_, fun t ht he => ?_, by dsimp only; rw [List.length_append]; simp; omega⟩
    · rw [rows_add]
      intro r hr x hx
      rcases List.mem_append.1 hr with hr | hr
      · exact lv_add (h.rg r (List.mem_append_left _ hr) x hx)
      · rcases List.mem_cons.1 hr with rfl | hr
        · cases hx
        · exact lv_add (h.rg r (List.mem_append_right _ hr) x hx)
    · rcases List.mem_append.1 ht with ht | ht
      · exact h.er t ht he
      · rw [List.mem_singleton.1 ht]
    · rcases List.mem_append.1 ht with ht | ht
      · exact h.nz t ht he
      · rw [List.mem_singleton.1 ht]
        exact ⟨rfl, rfl⟩
theorem set_iv {B : Bk} (h : Iv B) (i y : Int) : Iv (setM B i y).2 := by
  unfold setM
  split
  · exact ⟨h.nd, h.rg, h.fr, h.ho, h.er, h.nz, h.tn⟩
  · exact h
theorem new_iv (n m : Nat) : Iv (newB n m) := by
  have hr : ∀ r ∈ rowsM (newB n m), r = [] := fun r hr => by
    rcases List.mem_append.1 hr with hr | hr
    · cases hr
    · obtain ⟨y, hy, rfl⟩ := List.mem_map.1 hr
      rw [List.eq_of_mem_replicate hy]
  refine ⟨⟨fun i r hi => ?_, fun i j r s x hi _ hx _ => ?_⟩, fun r hr' x hx => ?_, fun l hl _ => ?_, fun l hl h0 => ?_, (fun t ht => by cases ht), (fun t ht => by cases ht), by simp [newB]⟩
  · rw [hr r (List.mem_of_getElem? hi)]
    exact List.nodup_nil
  · rw [hr r (List.mem_of_getElem? hi)] at hx
    cases hx
  · rw [hr r hr'] at hx
    cases hx
  · rw [List.eq_of_mem_replicate hl]
  · rw [List.eq_of_mem_replicate hl] at h0
    exact absurd rfl h0
set_option maxRecDepth 100000 in
set_option maxHeartbeats 4000000 in
theorem new_bad (n m : Int) (h : n < 0 ∨ 8 < n ∨ m < 0 ∨ 64 < m) (w : World) :
    Calls Tryd.prog 8 #[.int .i64 n, .int .i64 m] w fun e w' => e = .returned (.tuple #[.pointer none, .int .i64 1]) ∧ w' = w := by
  by_cases h1 : n < 0
  · go_enter Tryd.func8, Tryd.ntmps8
    go_wp2
    exact bodyPost_ret (results_tmp2 rfl _ _ _) rfl ⟨rfl, rfl⟩
  · by_cases h2 : n > 8
    · go_enter Tryd.func8, Tryd.ntmps8
      go_wp2
      exact bodyPost_ret (results_tmp2 rfl _ _ _) rfl ⟨rfl, rfl⟩
    · by_cases h3 : m < 0
      · go_enter Tryd.func8, Tryd.ntmps8
        go_wp2
        exact bodyPost_ret (results_tmp2 rfl _ _ _) rfl ⟨rfl, rfl⟩
      · have h4 : m > 64 := by omega
        go_enter Tryd.func8, Tryd.ntmps8
        go_wp2
        exact bodyPost_ret (results_tmp2 rfl _ _ _) rfl ⟨rfl, rfl⟩
end Go.Proofs.YtdlnkdcgipaoeaaDoor

/- Who waits, by the answers alone: rows and joins beside a book. -/
namespace Go.Proofs.YtdlnkdcgipaoeaaDoor
open Go.RowKit

theorem RR.setG {w w' : World} {R : List (Sl × List Int)} (h : RR w R) {i : Nat} {p q : Sl × List Int} (hi : R[i]? = some p) (hq : RI w' q.1 q.2) (hk : ∀ g, g < w.heap.size → p.1.blk ≠ some g → (∃ p ∈ R, p.1.blk = some g) → w'.heap[g]? = w.heap[g]?) (hb : ∀ g, q.1.blk = some g → p.1.blk = some g ∨ w.heap.size ≤ g) : RR w' (R.set i q) := by
  have hlt := (List.getElem?_eq_some_iff.1 hi).1
  have keep : ∀ j r, R[j]? = some r → j ≠ i → ∀ g, r.1.blk = some g → w'.heap[g]? = w.heap[g]? := fun j r hr hne g hg => hk g ((h.r j r hr).lt hg) (fun e => hne (h.inj j i r p g hr hi hg e)) ⟨r, List.mem_of_getElem? hr, hg⟩
  refine ⟨fun j r hr => ?_, fun a b r r' g ha hb' hga hgb => ?_⟩
  · by_cases e : i = j
    · subst e
      rw [List.getElem?_set_self hlt] at hr
      cases hr
      exact hq
    · rw [List.getElem?_set_ne e] at hr
      exact (h.r j r hr).kept (keep j r hr (fun h' => e h'.symm))
  · have key : ∀ j r, R[j]? = some r → j ≠ i → r.1.blk = some g → q.1.blk ≠ some g := fun j r hr hne hg hqg => by
      rcases hb g hqg with hb | hb
      · exact hne (h.inj j i r p g hr hi hg hb)
      · have := (h.r j r hr).lt hg
        omega
    by_cases ea : i = a
    · subst ea
      rw [List.getElem?_set_self hlt] at ha
      cases ha
      by_cases eb : i = b
      · exact eb
      · rw [List.getElem?_set_ne eb] at hb'
        exact absurd hga (key b r' hb' (fun h' => eb h'.symm) hgb)
    · rw [List.getElem?_set_ne ea] at ha
      by_cases eb : i = b
      · subst eb
        rw [List.getElem?_set_self hlt] at hb'
        cases hb'
        exact absurd hgb (key a r ha (fun h' => ea h'.symm) hga)
      · rw [List.getElem?_set_ne eb] at hb'
        exact h.inj a b r r' g ha hb' hga hgb
def rc (p : Sl × List Int) : Value := .slice p.1.ra p.2.length p.1.cap
structure RZ (w : World) (gr : Nat) (R : List (Sl × List Int)) : Prop where
  obj : w.heap[gr]? = some (.cells (R.map rc).toArray 62 (0, 0))
  rr : RR w R
def Rf (gr : Nat) (R : List (Sl × List Int)) (g : Nat) : Prop := g = gr ∨ ∃ p ∈ R, p.1.blk = some g
theorem RZ.lt {w : World} {gr : Nat} {R : List (Sl × List Int)} (h : RZ w gr R) {g : Nat} (hg : Rf gr R g) : g < w.heap.size := by
  rcases hg with rfl | hg
  · exact heap_lt h.obj
  · exact h.rr.lt hg
theorem RZ.kept {w w' : World} {gr : Nat} {R : List (Sl × List Int)} (h : RZ w gr R) (hk : ∀ g, Rf gr R g → w'.heap[g]? = w.heap[g]?) : RZ w' gr R :=
  ⟨(hk gr (.inl rfl)).trans h.obj, h.rr.kept (fun g hg => hk g (.inr hg))⟩
structure JF (w0 w : World) (b gr gj : Nat) (R : List (Sl × List Int)) (J : List Int) (B : Bk) (F : Nat → Prop) : Prop where
  bb : BB w b B F
  rz : RZ w gr R
  jo : w.heap[gj]? = some (.cells (J.map (Value.int .i64)).toArray 3 (0, 0))
  dF : ∀ g, F g → w0.heap.size ≤ g ∧ ¬ Rf gr R g ∧ g ≠ gj
  dR : ∀ g, Rf gr R g → w0.heap.size ≤ g ∧ g ≠ gj
  bj : w0.heap.size ≤ gj
  bel : Below w0.heap.size w0 w
structure Rel (B : Bk) (R : List (Sl × List Int)) (J : List Int) : Prop where
  re : R.map (·.2) = B.l.map (·.row)
  jl : J.length = 9
  jn : ∀ (k : Nat) (v : Int), 1 ≤ k → k ≤ 5 → J[k]? = some v → JN B k v
  iv : Iv B
  tl : B.t.length = 5
  ll : B.l.length = 3
section
variable {w0 w w' w1 : World} {b gr gj : Nat} {R : List (Sl × List Int)} {J : List Int} {B B' : Bk} {F F' : Nat → Prop}
theorem JF.book (h : JF w0 w b gr gj R J B F) (hB : BB w' b B' F') (hC : Chg F F' w w') : JF w0 w' b gr gj R J B' F' := by
  have hs := h.bel.size
  have hs2 := hC.2.1.size
  have hkR : ∀ g, Rf gr R g → w'.heap[g]? = w.heap[g]? := fun g hg => hC.1 g (h.rz.lt hg) (fun hf => (h.dF g hf).2.1 hg)
  refine ⟨hB, h.rz.kept hkR, (hC.1 gj (heap_lt h.jo) (fun hf => (h.dF gj hf).2.2 rfl)).trans h.jo, fun g hg => ?_, h.dR, h.bj, ⟨hC.2.1.os.trans h.bel.os, hC.2.1.tape.trans h.bel.tape, hC.2.1.output.trans h.bel.output, by omega, fun k hk => ?_⟩⟩
  · rcases hC.2.2 g hg with h' | h'
    · exact h.dF g h'
    · exact ⟨by omega, fun hr => by have := h.rz.lt hr; omega, fun e => by have := heap_lt h.jo; omega⟩
  · rw [hC.1 k (by omega) (fun hf => by have := (h.dF k hf).1; omega)]
    exact h.bel.block k hk
theorem JF.below (h : JF w0 w b gr gj R J B F) (hb : Below w.heap.size w w') : JF w0 w' b gr gj R J B F :=
  ⟨h.bb.below hb, h.rz.kept (fun g hg => hb.block g (h.rz.lt hg)), (hb.block gj (heap_lt h.jo)).trans h.jo, h.dF, h.dR, h.bj, h.bel.trans (hb.mono h.bel.size)⟩
/-- One row is another. -/
theorem JF.row (h : JF w0 w b gr gj R J B F) {n : Nat} {p q : Sl × List Int} (hn : R[n]? = some p) (hR : RI w1 q.1 q.2) (hk : ∀ g, g < w.heap.size → p.1.blk ≠ some g → w1.heap[g]? = w.heap[g]?) (hb : Below 0 w w1) (hq : ∀ g, q.1.blk = some g → p.1.blk = some g ∨ w.heap.size ≤ g) : JF w0 (w1.setCell ⟨gr, n, none⟩ (rc q)) b gr gj (R.set n q) J B F := by
  have hlt := (List.getElem?_eq_some_iff.1 hn).1
  have hs := h.bel.size
  have hpm : p ∈ R := List.mem_of_getElem? hn
  have hpb : ∀ g, p.1.blk = some g → Rf gr R g := fun g hg => .inr ⟨p, hpm, hg⟩
  have hne : p.1.blk ≠ some gr := fun e => by
    obtain ⟨c, hc⟩ := (h.rz.rr.r n p hn).bt e
    have := h.rz.obj
    rw [hc] at this
    cases this
  have h1 := (hk gr (heap_lt h.rz.obj) hne).trans h.rz.obj
  have hs1 : ∀ k, k ≠ gr → (w1.setCell ⟨gr, n, none⟩ (rc q)).heap[k]? = w1.heap[k]? := fun k hk' => Below.heap_setCell _ _ _ _ hk'
  have tot : ∀ k, k < w.heap.size → k ≠ gr → p.1.blk ≠ some k → (w1.setCell ⟨gr, n, none⟩ (rc q)).heap[k]? = w.heap[k]? := fun k h2 h3 h4 => (hs1 k h3).trans (hk k h2 h4)
  have hjlt := heap_lt h.jo
  have hgj : p.1.blk ≠ some gj := fun e => (h.dR gj (hpb gj e)).2 rfl
  have rne : ∀ g, (∃ r ∈ R, r.1.blk = some g) → g ≠ gr := fun g ⟨r, hr, hg⟩ e => by
    obtain ⟨i, hi⟩ := List.getElem?_of_mem hr
    obtain ⟨c, hc⟩ := (h.rz.rr.r i r hi).bt hg
    have := h.rz.obj
    rw [← e, hc] at this
    cases this
  have hqg : ∀ g, q.1.blk = some g → g ≠ gr ∧ w0.heap.size ≤ g ∧ g ≠ gj ∧ ¬ F g := fun g hg => by
    rcases hq g hg with hg | hg
    · exact ⟨rne g ⟨p, hpm, hg⟩, (h.dR g (hpb g hg)).1, (h.dR g (hpb g hg)).2, fun hf => (h.dF g hf).2.1 (hpb g hg)⟩
    · have := heap_lt h.rz.obj
      exact ⟨by omega, by omega, by omega, fun hf => by have := h.bb.lt hf; omega⟩
  have hRf : ∀ g, Rf gr (R.set n q) g → Rf gr R g ∨ q.1.blk = some g := fun g hg => by
    rcases hg with hg | ⟨r, hr, hg⟩
    · exact .inl (.inl hg)
    · rcases List.mem_or_eq_of_mem_set hr with hr | rfl
      · exact .inl (.inr ⟨r, hr, hg⟩)
      · exact .inr hg
  refine ⟨h.bb.kept (fun g hg => tot g (h.bb.lt hg) (fun e => (h.dF g hg).2.1 (.inl e)) (fun e => (h.dF g hg).2.1 (hpb g e))), ⟨?_, ?_⟩, (tot gj hjlt (fun e => (h.dR gr (.inl rfl)).2 e.symm) hgj).trans h.jo, fun g hg => ⟨(h.dF g hg).1, fun hr => ?_, (h.dF g hg).2.2⟩, fun g hg => ?_, h.bj, ⟨?_, ?_, ?_, ?_, fun k hk' => ?_⟩⟩
  · rw [set_atC h1, List.map_set]
    simp
  · exact h.rz.rr.setG hn (hR.kept (fun g hg => hs1 g (hqg g hg).1)) (fun g h2 h3 h4 => tot g h2 (rne g h4) h3) hq
  · rcases hRf g hr with hr | hr
    · exact (h.dF g hg).2.1 hr
    · exact (hqg g hr).2.2.2 hg
  · rcases hRf g hg with hr | hr
    · exact h.dR g hr
    · exact ⟨(hqg g hr).2.1, (hqg g hr).2.2.1⟩
  · exact hb.os.trans h.bel.os
  · exact hb.tape.trans h.bel.tape
  · exact hb.output.trans h.bel.output
  · have := hb.size
    rw [World.size_setCell]
    omega
  · have h5 := (h.dR gr (.inl rfl)).1
    rw [tot k (by omega) (by omega) (fun e => by have := (h.dR k (hpb k e)).1; omega)]
    exact h.bel.block k hk'
/-- One join is another. -/
theorem JF.jset (h : JF w0 w b gr gj R J B F) (k : Nat) (v : Int) : JF w0 (w.setCell ⟨gj, k, none⟩ (.int .i64 v)) b gr gj R (J.set k v) B F := by
  have hs1 : ∀ g, g ≠ gj → (w.setCell ⟨gj, k, none⟩ (.int .i64 v)).heap[g]? = w.heap[g]? := fun g hg => Below.heap_setCell _ _ _ _ hg
  refine ⟨h.bb.kept (fun g hg => hs1 g (h.dF g hg).2.2), h.rz.kept (fun g hg => hs1 g (h.dR g hg).2), ?_, h.dF, h.dR, h.bj, ⟨h.bel.os, h.bel.tape, h.bel.output, by rw [World.size_setCell]; exact h.bel.size, fun g hg => ?_⟩⟩
  · rw [set_atC h.jo, List.map_set]
    simp
  · have := h.bj
    rw [hs1 g (by omega)]
    exact h.bel.block g hg
theorem JF.rcell (h : JF w0 w b gr gj R J B F) {n : Nat} {p : Sl × List Int} (hn : R[n]? = some p) : w.cell? ⟨gr, n, none⟩ = some (rc p) := heap_cell h.rz.obj (by simp [hn])
theorem JF.jcell (h : JF w0 w b gr gj R J B F) {k : Nat} {v : Int} (hk : J[k]? = some v) : w.cell? ⟨gj, k, none⟩ = some (.int .i64 v) := heap_cell h.jo (by simp [hk])
theorem JF.rfz (h : JF w0 w b gr gj R J B F) (n : Nat) : w.frozen? ⟨gr, n, none⟩ = false := by simp [World.frozen?, h.rz.obj]
theorem JF.jfz (h : JF w0 w b gr gj R J B F) (n : Nat) : w.frozen? ⟨gj, n, none⟩ = false := by simp [World.frozen?, h.jo]
end
/-- What a step leaves. -/
def OkR (w0 : World) (b gr gj : Nat) (e : Ending) (w' : World) : Prop := e = .returned (.tuple #[.slice (some ⟨gr, 0, none⟩) 3 3, .bool true]) ∧ ∃ R J B F, JF w0 w' b gr gj R J B F ∧ Rel B R J
theorem Rel.at {B : Bk} {R : List (Sl × List Int)} {J : List Int} (h : Rel B R J) {n : Nat} (hn : n < 3) : ∃ x p, B.l[n]? = some x ∧ R[n]? = some p ∧ p.2 = x.row := by
  have hl : n < B.l.length := by rw [h.ll]; exact hn
  have h1 := List.getElem?_eq_getElem hl
  have h2 : (R.map (·.2))[n]? = some B.l[n].row := by rw [h.re, List.getElem?_map, h1]; rfl
  cases hp : R[n]? with
  | none => rw [List.getElem?_map, hp] at h2; cases h2
  | some p =>
    rw [List.getElem?_map, hp] at h2
    exact ⟨_, p, h1, rfl, Option.some.inj h2⟩
theorem lock_t (B : Bk) (t k : Int) : (lockM B t k).2.t = B.t := by
  unfold lockM
  split
  · rfl
  · split
    · rfl
    · cases B.l[k.toNat]? with
      | none => rfl
      | some x =>
        dsimp only
        split
        · rfl
        · split <;> rfl
theorem unlock_t (B : Bk) (t k : Int) : (unlockM B t k).2.t = B.t := by
  unfold unlockM
  split
  · rfl
  · split
    · rfl
    · cases B.l[k.toNat]? with
      | none => rfl
      | some x =>
        dsimp only
        split <;> rfl
end Go.Proofs.YtdlnkdcgipaoeaaDoor
