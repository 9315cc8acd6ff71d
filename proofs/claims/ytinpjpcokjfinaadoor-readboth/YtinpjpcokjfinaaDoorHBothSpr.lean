/- The text that ReadBoth spreads. -/
import Derived.Test.YtinpjpcokjfinaaDoorHBothHead
namespace Go.Proofs.YtinpjpcokjfinaaDoor
open Go.RowKit

/-- The text of the first k pieces. -/
def spK (gap : List UInt8) (L : List (List UInt8)) : Nat → List UInt8
  | 0 => []
  | k + 1 => spK gap L k ++ ((L.getD k []).take ((L.getD k []).length - (L.getD (k + 1) []).length) ++ (gap ++ [10]))
theorem spK_upto (gap : List UInt8) (L : List (List UInt8)) : ∀ k, k < L.length → spK gap L k ++ spr gap (L.drop k) = spr gap L
  | 0, _ => by simp [spK]
  | k + 1, h => by
    rw [← spK_upto gap L k (by omega)]
    have h1 : L.drop k = L.getD k [] :: L.getD (k + 1) [] :: L.drop (k + 1 + 1) := by
      rw [List.drop_eq_getElem_cons (by omega), List.drop_eq_getElem_cons h]
      simp [List.getD, List.getElem?_eq_getElem (show k < L.length by omega), List.getElem?_eq_getElem h]
    have h2 : L.drop (k + 1) = L.getD (k + 1) [] :: L.drop (k + 1 + 1) := by
      rw [List.drop_eq_getElem_cons h]
      simp [List.getD, List.getElem?_eq_getElem h]
    rw [h1, h2]
    simp [spK, spr]
theorem spK_all (gap : List UInt8) (q : List (List UInt8)) : spK gap (q ++ [[]]) q.length = spr gap (q ++ [[]]) := by
  rw [← spK_upto gap (q ++ [[]]) q.length (by simp)]
  simp [spr]

/-- A source that is read, station by station. -/
theorem stations_of {S : List UInt8} (hf : fine (items S)) : ∃ q, ssc S = q ++ [[]] ∧ items S = (q ++ [[]]).map (tokAt S.length) ∧ (∀ k, k < q.length → ((q ++ [[]]).getD (k + 1) []).length ≤ ((q ++ [[]]).getD k []).length) ∧ (∀ k, k ≤ q.length → ((q ++ [[]]).getD k []) = S.drop (S.length - ((q ++ [[]]).getD k []).length) ∧ ((q ++ [[]]).getD k []).length ≤ S.length) := by
  have hl := small_of_fine hf
  obtain ⟨q, a, e1, ha, hq⟩ := ssc_ends S.length S (Nat.le_refl _)
  have hsc := sc_map S.length S.length S (Nat.le_refl _)
  have ha0 : a = [] := by
    rcases ha with ha | ha
    · exact ha
    · exfalso
      rw [items_sc S hl, hsc] at hf
      exact ha (hf (tokAt S.length a) (List.mem_map_of_mem (by rw [e1]; simp)))
  subst ha0
  have hlk := ssc_linked S.length S (Nat.le_refl _)
  rw [e1] at hlk
  have hget : ∀ k, k ≤ q.length → (q ++ [[]])[k]? = some ((q ++ [[]]).getD k []) := by
    intro k hk
    rw [List.getD, List.getElem?_eq_getElem (by simp; omega)]
    rfl
  refine ⟨q, e1, by rw [items_sc S hl, hsc, e1], ?_, ?_⟩
  · intro k hk
    obtain ⟨_, h2⟩ := linked_at _ k _ hlk (hget k (by omega))
    obtain ⟨_, _, h3⟩ := h2 _ (hget (k + 1) (by omega))
    rw [h3]
    have h4 := leave_le false (((q ++ [[]]).getD k []).drop (begS ((q ++ [[]]).getD k [])))
    rw [List.length_drop] at h4
    omega
  · intro k hk
    have hm : (q ++ [[]]).getD k [] ∈ ssc S := by rw [e1]; exact List.mem_of_getElem? (hget k hk)
    have hs := ssc_suffix S.length S (Nat.le_refl _) _ hm
    exact ⟨suffix_drop hs, hs.length_le⟩
theorem piece_is {S : List UInt8} {a b : List UInt8} (ha : a = S.drop (S.length - a.length)) (hb : b.length ≤ a.length) (hal : a.length ≤ S.length) (s : ByteArray) (hs : s.data.toList = S) :
    (s.extract (S.length - a.length) (S.length - b.length)).data.toList = a.take (a.length - b.length) := by
  rw [Lib.extract_data, hs]
  conv => rhs; arg 2; rw [ha]
  congr 1
  omega
theorem gap_one {l : List UInt8} (hf : fine (items l)) (h : (items l).length = 1) : leave false l = [] := by
  have hl := small_of_fine hf
  rw [items_sc l hl, sc_eq] at hf h
  have he : er0 l = 0 := hf _ (List.mem_cons_self ..)
  cases hx : last l
  · rw [hx] at h
    simp only [Bool.false_eq_true, if_false, List.length_cons] at h
    have : sc l.length (nx0 l) ≠ [] := by rw [sc_eq]; simp
    exact absurd (List.length_eq_zero_iff.1 (by omega)) this
  · unfold last at hx
    rw [he] at hx
    simpa using hx
theorem catG (ub x gap : ByteArray) : ∃ v : ByteArray, ub ++ x ++ gap ++ ⟨#[10]⟩ = v ∧ v.data.toList = ub.data.toList ++ (x.data.toList ++ (gap.data.toList ++ [10])) ∧ v.size = ub.size + x.size + gap.size + 1 := by
  have h : (ub ++ x ++ gap ++ ⟨#[10]⟩).data.toList = ub.data.toList ++ (x.data.toList ++ (gap.data.toList ++ [10])) := by rw [Joins.data_append, Joins.data_append, Joins.data_append]; simp
  refine ⟨_, rfl, h, ?_⟩
  have := congrArg List.length h
  simp only [List.length_append, List.length_cons, List.length_nil, Array.length_toList] at this
  show (ub ++ x ++ gap ++ ⟨#[10]⟩).data.size = ub.data.size + x.data.size + gap.data.size + 1
  omega
end Go.Proofs.YtinpjpcokjfinaaDoor
