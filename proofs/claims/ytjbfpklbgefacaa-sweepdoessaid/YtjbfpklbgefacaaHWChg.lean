/- What others do to the heap; the steps of a script. -/
import Derived.Test.YtjbfpklbgefacaaHWRef
namespace Go.Proofs.Ytjbfpklbgefacaa
open Go.RowKit

structure OpS where
  k : Int
  n : Int
  y : Cl
  b : Int
structure OpI (o : OpS) : Prop where
  n : -9223372036854775808 ≤ o.n ∧ o.n ≤ 9223372036854775807
  y : OkK o.y
  b : 0 ≤ o.b ∧ o.b ≤ 255
abbrev oV (o : OpS) : Value := .agg #[.int .i64 o.k, .int .i64 o.n, .int .u8 o.y.k, .int .u8 o.y.c, .int .u64 o.y.a, .int .u64 o.y.b, .int .u8 o.b]
abbrev oO (o : OpS) : Obj := .cells #[.int .i64 o.k, .int .i64 o.n, .int .u8 o.y.k, .int .u8 o.y.c, .int .u64 o.y.a, .int .u64 o.y.b, .int .u8 o.b] 41
/-- A script that is read. -/
def OR (w : World) (ra : Option Addr) (l : List OpS) : Prop := ∃ b o, (l.length = 0 ∨ ra = some ⟨b, o, none⟩) ∧ ∀ (j : Nat) (x : OpS), l[j]? = some x → b < w.heap.size ∧ (w.cell? ⟨b, o + j * 7, none⟩ = some (.int .i64 x.k) ∧ w.cell? ⟨b, o + j * 7 + 1, none⟩ = some (.int .i64 x.n) ∧ w.cell? ⟨b, o + j * 7 + 1 + 1, none⟩ = some (.int .u8 x.y.k) ∧ w.cell? ⟨b, o + j * 7 + 1 + 1 + 1, none⟩ = some (.int .u8 x.y.c) ∧ w.cell? ⟨b, o + j * 7 + 1 + 1 + 1 + 1, none⟩ = some (.int .u64 x.y.a) ∧ w.cell? ⟨b, o + j * 7 + 1 + 1 + 1 + 1 + 1, none⟩ = some (.int .u64 x.y.b) ∧ w.cell? ⟨b, o + j * 7 + 1 + 1 + 1 + 1 + 1 + 1, none⟩ = some (.int .u8 x.b)) ∧ OpI x
def chgH (h : List Cl) (o : OpS) : List Cl := if o.k = 2 then makeH h o.n o.y else if o.k = 3 then dropH h o.n else if o.k = 4 then turnH h o.n o.y.c o.b else turnH h o.n 0 1
theorem turnH_len (h : List Cl) (i f t : Int) : (turnH h i f t).length = h.length := by
  unfold turnH
  split
  · split <;> simp
  · rfl
theorem chgH_len (h : List Cl) (o : OpS) : (chgH h o).length = h.length := by
  unfold chgH
  split
  · unfold makeH; split <;> simp
  · split
    · unfold dropH; split <;> simp
    · split <;> exact turnH_len _ _ _ _
theorem turnH_wf {h : List Cl} {i f t : Int} (hw : ∀ x ∈ h, Wf x) : ∀ x ∈ turnH h i f t, Wf x := fun x hx => by
  unfold turnH at hx
  split at hx
  · rename_i z hz
    split at hx
    · rename_i hb
      rcases List.mem_or_eq_of_mem_set hx with h1 | h1
      · exact hw x h1
      · rw [h1]
        unfold turnB at hb
        rw [hz] at hb
        simp at hb
        exact .inr hb.1
    · exact hw x hx
  · exact hw x hx
theorem chgH_wf {h : List Cl} {o : OpS} (hw : ∀ x ∈ h, Wf x) : ∀ x ∈ chgH h o, Wf x := fun x hx => by
  unfold chgH at hx
  split at hx
  · unfold makeH at hx
    split at hx
    · rename_i hm
      rcases List.mem_or_eq_of_mem_set hx with h1 | h1
      · exact hw x h1
      · rw [h1]
        unfold makeE at hm
        split at hm
        · split at hm
          · rename_i hf
            unfold makeF at hf
            simp at hf
            exact .inr hf.2
          · cases hm
        · cases hm
    · exact hw x hx
  · split at hx
    · unfold dropH at hx
      split at hx
      · rcases List.mem_or_eq_of_mem_set hx with h1 | h1
        · exact hw x h1
        · rw [h1]; exact .inl rfl
      · exact hw x hx
    · split at hx <;> exact turnH_wf hw x hx
theorem swH_len (h : List Cl) (a : Nat) : (swH h a).length = h.length := by
  unfold swH
  split
  · rfl
  · split
    · rfl
    · split
      · simp
      · split <;> simp
theorem swH_wf {h : List Cl} {a : Nat} (hw : ∀ x ∈ h, Wf x) : ∀ x ∈ swH h a, Wf x := fun x hx => by
  unfold swH at hx
  split at hx
  · exact hw x hx
  · split at hx
    · exact hw x hx
    · split at hx
      · rcases List.mem_or_eq_of_mem_set hx with h1 | h1
        · exact hw x h1
        · rw [h1]; exact .inl rfl
      · split at hx
        · rcases List.mem_or_eq_of_mem_set hx with h1 | h1
          · exact hw x h1
          · rw [h1]; exact .inr (show (0 : Int) ≤ 2 by decide)
        · exact hw x hx
theorem plX_wf {x : Cl} : Wf (plX x) := by
  unfold plX
  split
  · rename_i hm
    unfold makeF at hm
    simp at hm
    exact .inr hm.2
  · exact .inl rfl
theorem ExR.al {hb ab : Nat} {h L : List Cl} {w w2 w' : World} (H : CH w hb ab h) (B : Below w.heap.size w w2) (HR : ExR hb ab L w2 w') : ExR hb ab L w w' := (ExR.of H B).trans HR
set_option maxRecDepth 100000 in
set_option maxHeartbeats 16000000 in
theorem chg_any {hb ab : Nat} {h : List Cl} (o : OpS) {w : World} (H : CH w hb ab h) (hI : OpI o) (hk : o.k = 2 ∨ o.k = 3 ∨ o.k = 4 ∨ o.k = 5) :
    Calls Try.prog 13 #[.pointer (some ⟨hb, 0, none⟩), oV o] w fun e w' => e = .returned (.tuple #[]) ∧ ExR hb ab (chgH h o) w w' := by
  have HH : Hid (CH w hb ab h) := H
  have HI : Hid (OpI o) := hI
  have B : Below w.heap.size w (w.alloc (oO o)) := (Below.refl _ w).alloc (Nat.le_refl _) _
  have HB : Hid (Below w.heap.size w (w.alloc (oO o))) := B
  have HC : Hid (CH (w.alloc (oO o)) hb ab h) := H.below B
  clear H hI B
  rcases hk with hk | hk | hk | hk
  · have E : Hid (chgH h o = makeH h o.n o.y) := by unfold chgH; rw [if_pos hk]; rfl
    rw [E.out]
    have z1 : (o.k == 2) = true := by simpa using hk
    clear hk E
    go_enter Try.func13, Try.ntmps13
    go_wp2_with fail
    refine Calls.mono (hmake_any o.n o.y HC.out HI.out.y) ?_
    rintro e w' ⟨rfl, hR⟩
    have HR : Hid (ExR hb ab (makeH h o.n o.y) w w') := ExR.al HH.out HB.out hR
    clear hR
    go_wp2_with fail
    refine bodyPost_end (results_none rfl _ _ _) rfl ⟨rfl, HR.out⟩
  · have E : Hid (chgH h o = dropH h o.n) := by unfold chgH; rw [if_neg (by omega), if_pos hk]; rfl
    rw [E.out]
    have z1 : (o.k == 2) = false := by simp; omega
    have z2 : (o.k == 3) = true := by simpa using hk
    clear hk E
    go_enter Try.func13, Try.ntmps13
    go_wp2_with fail
    refine Calls.mono (drop_any o.n HC.out) ?_
    rintro e w' ⟨rfl, hR⟩
    have HR : Hid (ExR hb ab (dropH h o.n) w w') := ExR.al HH.out HB.out hR
    clear hR
    go_wp2_with fail
    refine bodyPost_end (results_none rfl _ _ _) rfl ⟨rfl, HR.out⟩
  · have E : Hid (chgH h o = turnH h o.n o.y.c o.b) := by unfold chgH; rw [if_neg (by omega), if_neg (by omega), if_pos hk]; rfl
    rw [E.out]
    have z1 : (o.k == 2) = false := by simp; omega
    have z2 : (o.k == 3) = false := by simp; omega
    have z3 : (o.k == 4) = true := by simpa using hk
    clear hk E
    go_enter Try.func13, Try.ntmps13
    go_wp2_with fail
    refine Calls.mono (turn_any o.n o.y.c o.b HC.out HI.out.b) ?_
    rintro e w' ⟨rfl, hR⟩
    have HR : Hid (ExR hb ab (turnH h o.n o.y.c o.b) w w') := ExR.al HH.out HB.out hR
    clear hR
    go_wp2_with fail
    refine bodyPost_end (results_none rfl _ _ _) rfl ⟨rfl, HR.out⟩
  · have E : Hid (chgH h o = turnH h o.n 0 1) := by unfold chgH; rw [if_neg (by omega), if_neg (by omega), if_neg (by omega)]; rfl
    rw [E.out]
    have z1 : (o.k == 2) = false := by simp; omega
    have z2 : (o.k == 3) = false := by simp; omega
    have z3 : (o.k == 4) = false := by simp; omega
    have z4 : (o.k == 5) = true := by simpa using hk
    clear hk E
    go_enter Try.func13, Try.ntmps13
    go_wp2_with fail
    refine Calls.mono (shade_any o.n HC.out) ?_
    rintro e w' ⟨rfl, hR⟩
    have HR : Hid (ExR hb ab (turnH h o.n 0 1) w w') := ExR.al HH.out HB.out hR
    clear hR
    go_wp2_with fail
    refine bodyPost_end (results_none rfl _ _ _) rfl ⟨rfl, HR.out⟩
end Go.Proofs.Ytjbfpklbgefacaa
