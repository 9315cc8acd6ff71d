/- What holds of a book, at an end; who goes then. -/
import Derived.Test.YtdlnkdcgipaoeaaDoorHLIv
namespace Go.Proofs.YtdlnkdcgipaoeaaDoor
open Go.RowKit

theorem hoLs_all (t : Int) (l : List Lk) : hoLs t l l.length = l.map (hoL1 t) := by
  simp [hoLs]
theorem mem_outs {t x : Int} {l : List Lk} : ∀ {j : Nat}, x ∈ outs t l j ↔ ∃ i y, i < j ∧ l[i]? = some y ∧ y.ho = t ∧ y.row.head? = some x
  | 0 => by simp [outs]
  | j + 1 => by
    cases h : l[j]? with
    | none =>
      have hn := List.getElem?_eq_none_iff.1 h
      have e : outs t l (j + 1) = outs t l j := by rw [outs, outs, List.take_of_length_le (by omega), List.take_of_length_le (by omega)]
      rw [e, mem_outs (j := j)]
      constructor
      · rintro ⟨i, y, h1, h2⟩
        exact ⟨i, y, by omega, h2⟩
      · rintro ⟨i, y, h1, h2, h3⟩
        have := (List.getElem?_eq_some_iff.1 h2).1
        exact ⟨i, y, by omega, h2, h3⟩
    | some z =>
      rw [outs_succ h, List.mem_append, mem_outs (j := j)]
      constructor
      · rintro (⟨i, y, h1, h2⟩ | hx)
        · exact ⟨i, y, by omega, h2⟩
        · unfold hoO1 at hx
          split at hx
          · rename_i hz
            refine ⟨j, z, by omega, h, hz, ?_⟩
            cases hr : z.row with
            | nil => rw [hr] at hx; simp at hx
            | cons a r => rw [hr] at hx; simp at hx; rw [hx]; rfl
          · simp at hx
      · rintro ⟨i, y, h1, h2, h3, h4⟩
        by_cases e : i = j
        · subst e
          rw [h] at h2
          cases h2
          right
          unfold hoO1
          rw [if_pos h3]
          cases hr : z.row with
          | nil => rw [hr] at h4; cases h4
          | cons a r => rw [hr] at h4; simp at h4; simp [h4]
        · exact .inl ⟨i, y, by omega, h2, h3, h4⟩
theorem head_mem {r : List Int} {x : Int} (h : r.head? = some x) : x ∈ r := by
  cases r with
  | nil => cases h
  | cons a r => cases h; exact List.mem_cons_self
theorem outs_nd {B : Bk} (h : Iv B) (t : Int) : ∀ j, (outs t B.l j).Nodup
  | 0 => by simp [outs]
  | j + 1 => by
    cases hl : B.l[j]? with
    | none =>
      have hn := List.getElem?_eq_none_iff.1 hl
      have e : outs t B.l (j + 1) = outs t B.l j := by rw [outs, outs, List.take_of_length_le (by omega), List.take_of_length_le (by omega)]
      rw [e]
      exact outs_nd h t j
    | some z =>
      rw [outs_succ hl]
      refine List.nodup_append.2 ⟨outs_nd h t j, ?_, fun a ha b hb e => ?_⟩
      · unfold hoO1
        split
        · exact List.Nodup.sublist (List.take_sublist _ _) (h.nd.nd _ _ (rows_l hl))
        · simp
      · subst e
        obtain ⟨i, y, h1, h2, _, h4⟩ := mem_outs.1 ha
        have hb2 : a ∈ z.row := by
          unfold hoO1 at hb
          split at hb
          · exact List.mem_of_mem_take hb
          · simp at hb
        have := h.nd.inj _ _ _ _ a (rows_l h2) (rows_l hl) (head_mem h4) hb2
        omega
/-- Who goes when t ends: nobody twice. -/
theorem goes_nd {B : Bk} (h : Iv B) (t : Int) {i : Nat} {x : Th} (hx : B.t[i]? = some x) : (outs t B.l B.l.length ++ x.row).Nodup := by
  refine List.nodup_append.2 ⟨outs_nd h t _, h.nd.nd _ _ (rows_t hx), fun a ha b hb e => ?_⟩
  subst e
  obtain ⟨j, y, h1, h2, _, h4⟩ := mem_outs.1 ha
  have := h.nd.inj _ _ _ _ a (rows_l h2) (rows_t hx) (head_mem h4) hb
  have := (List.getElem?_eq_some_iff.1 hx).1
  omega
theorem lt_ext : ∀ {l m : List Int}, l.Pairwise (· < ·) → m.Pairwise (· < ·) → (∀ x, x ∈ l ↔ x ∈ m) → l = m
  | [], [], _, _, _ => rfl
  | [], y :: m, _, _, h => by have := (h y).2 List.mem_cons_self; cases this
  | x :: l, [], _, _, h => by have := (h x).1 List.mem_cons_self; cases this
  | x :: l, y :: m, hl, hm, h => by
    obtain ⟨hl1, hl2⟩ := List.pairwise_cons.1 hl
    obtain ⟨hm1, hm2⟩ := List.pairwise_cons.1 hm
    have e : x = y := by
      rcases List.mem_cons.1 ((h x).1 List.mem_cons_self) with e | e
      · exact e
      · rcases List.mem_cons.1 ((h y).2 List.mem_cons_self) with e2 | e2
        · exact e2.symm
        · have h1 := hm1 x e
          have h2 := hl1 y e2
          omega
    subst e
    rw [lt_ext hl2 hm2 (fun z => ⟨fun hz => ?_, fun hz => ?_⟩)]
    · rcases List.mem_cons.1 ((h z).1 (List.mem_cons_of_mem _ hz)) with e | e
      · have := hl1 z hz
        omega
      · exact e
    · rcases List.mem_cons.1 ((h z).2 (List.mem_cons_of_mem _ hz)) with e | e
      · have := hm1 z hz
        omega
      · exact e
theorem srt_is {l m : List Int} (hl : l.Nodup) (hm : m.Pairwise (· < ·)) (h : ∀ x, x ∈ l ↔ x ∈ m) : srt l = m := by
  have hp : (srt l).Perm l := List.mergeSort_perm l _
  have h1 : (srt l).Pairwise (fun a b => decide (a ≤ b) = true) := List.pairwise_mergeSort (fun a b c h1 h2 => by simp at h1 h2 ⊢; omega) (fun a b => by simp; omega) l
  have h2 : (srt l).Nodup := hp.nodup_iff.2 hl
  have h3 : (srt l).Pairwise (· < ·) := by
    refine List.Pairwise.imp (fun {a b} hab => ?_) (List.Pairwise.and h1 h2)
    have h4 : a ≤ b := of_decide_eq_true hab.1
    have h5 : a ≠ b := hab.2
    omega
  exact lt_ext h3 hm (fun x => (hp.mem_iff).trans (h x))
theorem end_is {B : Bk} {i : Nat} {x : Th} (wd er : Int) (hg : goB B ((i : Int) + 1) = 0) (hx : B.t[i]? = some x) : endM B ((i : Int) + 1) wd er = ((srt (outs ((i : Int) + 1) B.l B.l.length ++ x.row), 0), ⟨B.t.set i ⟨[], true, if er = 0 then wd else 0, er⟩, B.l.map (hoL1 ((i : Int) + 1)), B.g⟩) := by
  unfold endM
  rw [if_neg (by simpa using hg), show ((i : Int) + 1 - 1).toNat = i by omega, hx, hoLs_all]
  rfl
theorem rows_end {B : Bk} {i : Nat} {x y : Th} (t : Int) (hx : B.t[i]? = some x) (hy : y.row = []) (g : List Int) : SubR (rowsM ⟨B.t.set i y, B.l.map (hoL1 t), g⟩) (rowsM B) := fun k r' hk => by
  have hlt := (List.getElem?_eq_some_iff.1 hx).1
  rw [rowsM] at hk
  by_cases h1 : k < B.t.length
  · rw [List.getElem?_append_left (by simpa using h1), List.getElem?_map] at hk
    by_cases e : i = k
    · subst e
      rw [List.getElem?_set_self hlt] at hk
      cases hk
      refine ⟨x.row, rows_t hx, ?_⟩
      show y.row.Sublist x.row
      rw [hy]
      exact List.nil_sublist _
    · rw [List.getElem?_set_ne e] at hk
      cases hz : B.t[k]? with
      | none => rw [hz] at hk; cases hk
      | some z =>
        rw [hz] at hk
        cases hk
        exact ⟨z.row, rows_t hz, List.Sublist.refl _⟩
  · rw [List.getElem?_append_right (by simp; omega)] at hk
    simp only [List.length_map, List.length_set, List.map_map, List.getElem?_map] at hk
    cases hz : B.l[k - B.t.length]? with
    | none => rw [hz] at hk; cases hk
    | some z =>
      rw [hz] at hk
      cases hk
      refine ⟨z.row, ?_, ?_⟩
      · have := rows_l hz
        rw [show B.t.length + (k - B.t.length) = k by omega] at this
        exact this
      · show (hoL1 t z).row.Sublist z.row
        unfold hoL1
        split
        · exact hnd_sub z
        · exact List.Sublist.refl _
theorem end_iv {B : Bk} (h : Iv B) (t wd er : Int) : Iv (endM B t wd er).2 := by
  by_cases hg : goB B t = 0
  · obtain ⟨i, x, rfl, hx, hen, -⟩ := goB_at hg
    obtain ⟨hl, hn⟩ := h.goes hg
    rw [end_is wd er hg hx]
    have hlt := (List.getElem?_eq_some_iff.1 hx).1
    have hsub := rows_end (y := ⟨[], true, if er = 0 then wd else 0, er⟩) ((i : Int) + 1) hx rfl B.g
    have hlv : ∀ y, Lv B y → y ≠ (i : Int) + 1 → Lv ⟨B.t.set i ⟨[], true, if er = 0 then wd else 0, er⟩, B.l.map (hoL1 ((i : Int) + 1)), B.g⟩ y := fun y hy hne => by
      obtain ⟨j, t, rfl, hj, he⟩ := hy
      refine ⟨j, t, rfl, ?_, he⟩
      show (B.t.set i _)[j]? = some t
      rw [List.getElem?_set_ne (fun e => hne (by rw [e]))]
      exact hj
    refine ⟨h.nd.sub hsub, fun r hr y hy => ?_, fun l hl' h0' => ?_, fun l hl' h0' => ?_, fun y hy he => ?_, fun y hy he => ?_, by show (B.t.set i _).length ≤ 8; rw [List.length_set]; exact h.tn⟩
    · obtain ⟨k, hk⟩ := List.getElem?_of_mem hr
      obtain ⟨r0, h1, h2⟩ := hsub k r hk
      have hm := h2.subset hy
      exact hlv y (h.rg r0 (List.mem_of_getElem? h1) y hm) (fun e => hn r0 (List.mem_of_getElem? h1) (by rw [← e]; exact hm))
    · obtain ⟨z, hz, rfl⟩ := List.mem_map.1 hl'
      unfold hoL1 at h0' ⊢
      split at h0'
      · rename_i hh
        rw [if_pos hh]
        exact (hnd_ho h hz).1 h0'
      · rename_i hh
        rw [if_neg hh]
        exact h.fr z hz h0'
    · obtain ⟨z, hz, rfl⟩ := List.mem_map.1 hl'
      obtain ⟨k, hk⟩ := List.getElem?_of_mem hz
      have hrow := List.mem_of_getElem? (rows_l hk)
      by_cases hh : z.ho = (i : Int) + 1
      · have e : hoL1 ((i : Int) + 1) z = hnd z := by unfold hoL1; rw [if_pos hh]
        rw [e] at h0' ⊢
        have hm := (hnd_ho h hz).2 h0'
        exact hlv _ (h.rg _ hrow _ hm) (fun e => hn _ hrow (by rw [← e]; exact hm))
      · have e : hoL1 ((i : Int) + 1) z = z := by unfold hoL1; rw [if_neg hh]
        rw [e] at h0' ⊢
        exact hlv _ (h.ho z hz h0') hh
    · rcases mem_set hy with hy | rfl
      · exact h.er y hy he
      · rfl
    · rcases mem_set hy with hy | rfl
      · exact h.nz y hy he
      · cases he
  · unfold endM
    rw [if_pos hg]
    exact h
/-- For whose end k waits. -/
def JN (B : Bk) (k v : Int) : Prop := (v = 0 ∧ ∀ y ∈ B.t, k ∉ y.row) ∨ ∃ (i : Nat) (y : Th), v = (i : Int) + 1 ∧ B.t[i]? = some y ∧ k ∈ y.row
theorem JN.ne {B : Bk} {k v : Int} (h : JN B k v) : v ≠ 0 ↔ ∃ y ∈ B.t, k ∈ y.row := by
  rcases h with ⟨rfl, h⟩ | ⟨i, y, rfl, h1, h2⟩
  · exact ⟨fun h0 => absurd rfl h0, fun ⟨y, hy, hk⟩ => absurd hk (h y hy)⟩
  · exact ⟨fun _ => ⟨y, List.mem_of_getElem? h1, h2⟩, fun _ => by omega⟩
theorem JN.same {B B' : Bk} {k v : Int} (h : JN B k v) (ht : B'.t = B.t) : JN B' k v := by
  unfold JN at *
  rw [ht]
  exact h
/-- Whether one waits, by whose end and by the locks' rows. -/
theorem Iv.wts {B : Bk} (h : Iv B) {k v : Int} (hj : JN B k v) : wtB B k = (decide (v ≠ 0) || B.l.any (fun l => l.row.contains k)) := by
  rw [Bool.eq_iff_iff, h.wt k, Bool.or_eq_true, decide_eq_true_iff, hj.ne, List.any_eq_true]
  constructor
  · rintro ⟨r, hr, hk⟩
    rcases List.mem_append.1 hr with hr | hr
    · obtain ⟨y, hy, rfl⟩ := List.mem_map.1 hr
      exact .inl ⟨y, hy, hk⟩
    · obtain ⟨y, hy, rfl⟩ := List.mem_map.1 hr
      exact .inr ⟨y, hy, by simpa using hk⟩
  · rintro (⟨y, hy, hk⟩ | ⟨y, hy, hk⟩)
    · exact ⟨_, List.mem_append_left _ (List.mem_map.2 ⟨y, hy, rfl⟩), hk⟩
    · exact ⟨_, List.mem_append_right _ (List.mem_map.2 ⟨y, hy, rfl⟩), by simpa using hk⟩
end Go.Proofs.YtdlnkdcgipaoeaaDoor
