/- Places in a row. -/
import Derived.Test.YtinijcmnojlphaaDoorHGForm
namespace Go.Proofs.YtinijcmnojlphaaDoor

theorem snoc_ind {α : Type} {P : List α → Prop} (h0 : P []) (h1 : ∀ l x, P l → P (l ++ [x])) (l : List α) : P l := by
  have h : ∀ m : List α, P m.reverse := fun m => by
    induction m with
    | nil => exact h0
    | cons x m ih => rw [List.reverse_cons]; exact h1 _ _ ih
  have := h l.reverse
  rwa [List.reverse_reverse] at this
theorem look_at {r : St} {x q : Int} {a : Nat} {p : Nat × Int} (h : r[a]? = some p) : (lookM r x q)[a]? = some p := by
  unfold lookM
  split
  · exact h
  · split
    · exact h
    · rw [List.getElem?_append_left (List.getElem?_eq_some_iff.1 h).1]; exact h
theorem plc_at {c : Nat} : ∀ (r : List Nat), r.Nodup → ∀ i, r[i]? = some c → plcM r c = i := by
  refine snoc_ind (fun _ i h => by simp at h) (fun l x ih hnd i hi => ?_)
  rw [List.nodup_append] at hnd
  rw [plc_snoc]
  by_cases hl : i < l.length
  · rw [List.getElem?_append_left hl] at hi
    rw [if_neg (fun e => hnd.2.2 c (List.mem_of_getElem? hi) x (by simp) e.symm)]
    exact ih hnd.1 i hi
  · rw [List.getElem?_append_right (by omega)] at hi
    have h0 : i - l.length = 0 := by
      have := (List.getElem?_eq_some_iff.1 hi).1
      simp at this; omega
    rw [h0] at hi
    have e : x = c := by simpa using hi
    rw [if_pos e]; omega
end Go.Proofs.YtinijcmnojlphaaDoor
