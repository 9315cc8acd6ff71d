/- What is kept follows what comes back. -/
import Derived.Test.YtaenoenchbfeiaaHAAsks2
namespace Go.Proofs.Ytaenoenchbfeiaa
open Go.RowKit

def outB (who : List Int) (c : Nat) (x : Int) (j : Nat) : Bool := decide (x ≠ 0) && (List.range j).all (fun s => s == 0 || gv who s != (c : Int))
theorem out_step (who : List Int) (c : Nat) (x : Int) {j : Nat} (hj : 1 ≤ j) : outB who c x (j + 1) = (outB who c x j && gv who j != (c : Int)) := by
  unfold outB
  rw [List.range_succ, List.all_append, ← Bool.and_assoc]
  have h0 : (j == 0) = false := by simp; omega
  simp [h0]
theorem out_end {A : Al} (hI : Inv A) {c : Nat} {x : Int} (hx : A.who[c]? = some x) : outB A.who c x 9 = decide (x = -1) := by
  have hv := hI.val x (List.mem_of_getElem? hx)
  by_cases h0 : x = 0
  · subst h0
    unfold outB
    simp
  · by_cases h1 : x = -1
    · subst h1
      unfold outB
      simp only [ne_eq, h0, not_false_eq_true, decide_true, Bool.true_and]
      rw [List.all_eq_true]
      intro s _
      by_cases hs : s = 0
      · simp [hs]
      · have : gv A.who s ≠ (c : Int) := fun e => by
          unfold gv at e
          rw [if_neg hs] at e
          split at e
          · omega
          · rename_i d hd
            have hd2 := (fnd_some hd).1
            obtain rfl : d = c := by omega
            rw [hx] at hd2
            have := Option.some.inj hd2
            omega
        simp [this]
    · obtain ⟨s, rfl⟩ : ∃ s : Nat, x = (s : Int) := ⟨x.toNat, by omega⟩
      have hf : fnd (s : Int) A.who = some c := by
        cases h : fnd (s : Int) A.who with
        | none => exact absurd (List.mem_of_getElem? hx) (fnd_none.1 h)
        | some d => rw [hI.one d c s (by omega) (fnd_some h).1 hx]
      have hg := gv_some (t := s) (by omega) hf
      rw [decide_eq_false h1]
      unfold outB
      refine Bool.and_eq_false_iff.2 (.inr ?_)
      rw [List.all_eq_false]
      refine ⟨s, List.mem_range.2 (by omega), ?_⟩
      have h00 : (s == 0) = false := by simp; omega
      simp [hg, h00]
theorem full_back {A : Al} (h : Full A) (hI : Inv A) (c : Int) : Full (backM A c).2 := by
  unfold backM
  split
  · cases hr : A.row with
    | nil => exact .inl rfl
    | cons p r =>
      refine .inr (fnd_none.2 (fun hm => ?_))
      have hz : fnd 0 A.who = none := by
        rcases h with h | h
        · rw [hr] at h; cases h
        · exact h
      rcases mem_set hm with e | hm
      · have := (hI.thr p (by rw [hr]; exact List.mem_cons_self)).1; omega
      · exact fnd_none.1 hz hm
  · exact h
theorem fin_inv {A : Al} (h : Inv A) (cy fr : Int) : Inv (finM A cy fr).2 := by
  unfold finM
  split
  · exact ⟨h.len, h.val, h.one, fun p hp => h.thr p (List.mem_filter.1 hp).1, h.nod.filter _, fun p hp => h.apart p (List.mem_filter.1 hp).1⟩
  · exact h
theorem fin_full {A : Al} (h : Full A) (cy fr : Int) : Full (finM A cy fr).2 := by
  unfold finM
  split
  · rcases h with h | h
    · left
      rw [h]
      rfl
    · exact .inr h
  · exact h
end Go.Proofs.Ytaenoenchbfeiaa
