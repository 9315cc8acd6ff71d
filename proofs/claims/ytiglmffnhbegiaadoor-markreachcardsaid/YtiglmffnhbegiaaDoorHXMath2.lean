/- Marking: what is closed, what is reached. -/
import Derived.Test.YtiglmffnhbegiaaDoorHXMath
namespace Go.Proofs.YtiglmffnhbegiaaDoor
open Go.RowKit

/-- Names a word a cell that is there and not free? -/
def Nm (p : List Cl) (w : Int) (d : Nat) : Prop := refN w = some d ∧ Ud p d
structure MK (p : List Cl) (S : List Int) (R : List Int) (n : Nat) : Prop where
  mi : MI p R n
  cl : ∀ (i : Nat) (x : Cl), (i : Int) ∈ R.take n → p[i]? = some x → ∀ d, (Nm p x.a d ∨ Nm p x.b d) → (d : Int) ∈ R
  rt : ∀ w ∈ S, ∀ d, Nm p w d → (d : Int) ∈ R
  sn : ∀ X : Nat → Prop, (∀ w ∈ S, ∀ d, Nm p w d → X d) → (∀ (i : Nat) (x : Cl), X i → p[i]? = some x → x.k ≠ 0 → ∀ d, (Nm p x.a d ∨ Nm p x.b d) → X d) → ∀ i : Nat, (i : Int) ∈ R → X i
theorem MK.nil (p : List Cl) : MK p [] [] 0 := ⟨⟨List.nodup_nil, fun c hc => (by cases hc), Nat.le_refl _⟩, fun i x hi => (by simp at hi), fun w hw => (by cases hw), fun X _ _ i hi => (by cases hi)⟩
theorem mem_nam {l : List Int} {i : Int} : i ∈ namL l ↔ ∃ w ∈ l, ∃ d : Nat, refN w = some d ∧ i = d := by
  unfold namL
  rw [List.mem_map]
  constructor
  · rintro ⟨w, hw, rfl⟩
    obtain ⟨h1, h2⟩ := List.mem_filter.1 hw
    obtain ⟨d, hd, hc⟩ := ref_some h2
    exact ⟨w, h1, d, hd, hc⟩
  · rintro ⟨w, hw, d, hd, rfl⟩
    have hb : refB w = true := by
      unfold refN at hd
      split at hd
      · rename_i h8; simp [refB, h8]
      · cases hd
    obtain ⟨d', hd', hc⟩ := ref_some hb
    rw [hd] at hd'
    cases hd'
    exact ⟨w, List.mem_filter.2 ⟨hw, hb⟩, hc⟩
theorem col_zero_h {p : List Cl} (hp : Pl p) : colH p [] 0 = p := by
  apply List.ext_getElem?
  intro i
  rw [colH_at]
  cases hx : p[i]? with
  | none => rfl
  | some x =>
    simp only [Option.map_some]
    have : x.c = 0 := by
      rcases hp i x hx with h | h
      · rw [h]; rfl
      · exact h.2.2.1
    rw [show col [] 0 i = 0 from col_zero.2 (by simp), ← this]
/-- Words are shaded. -/
theorem MK.shade {p : List Cl} {S R : List Int} {n : Nat} (h : MK p S R n) (l : List Int) : layH (colH p R n) (namL l) = colH p (R ++ layL (colH p R n) (namL l)) n ∧ MK p (S ++ l) (R ++ layL (colH p R n) (namL l)) n := by
  obtain ⟨q1, q2, q3, q4⟩ := lay_col (namL l) h.mi
  refine ⟨q1, q2, fun i x hi hx d hd => ?_, fun w hw d hd => ?_, fun X h1 h2 i hi => ?_⟩
  · rw [List.take_append_of_le_length h.mi.le] at hi
    exact List.mem_append_left _ (h.cl i x hi hx d hd)
  · rcases List.mem_append.1 hw with hw | hw
    · exact List.mem_append_left _ (h.rt w hw d hd)
    · exact q3 d (mem_nam.2 ⟨w, hw, d, hd.1, rfl⟩) hd.2
  · rcases List.mem_append.1 hi with hi | hi
    · exact h.sn X (fun w hw => h1 w (List.mem_append_left _ hw)) h2 i hi
    · obtain ⟨w, hw, d, hd, e⟩ := mem_nam.1 (q4 i hi)
      have e' : i = d := by omega
      subst e'
      exact h1 w (List.mem_append_right _ hw) i ⟨hd, q2.ud i (List.mem_append_right _ hi)⟩
theorem ld_col {p : List Cl} {R : List Int} {n k : Nat} {x : Cl} (hx : p[k]? = some x) (h0 : x.k ≠ 0) (f : Int) : ldW (colH p R n) k f = if f = 0 then x.a else x.b := by
  have : getC p k = some x := by unfold getC; rw [if_pos (by omega)]; simpa using hx
  unfold ldW
  rw [getC_col, this]
  simp [h0]
/-- One is scanned. -/
theorem MK.scan {p : List Cl} {S R : List Int} {n : Nat} (h : MK p S R n) {c : Int} (hc : R[n]? = some c) : scanH (colH p R n) c = colH p (R ++ layL (colH p R n) (scanL (colH p R n) c)) (n + 1) ∧ MK p S (R ++ layL (colH p R n) (scanL (colH p R n) c)) (n + 1) := by
  have hm : c ∈ R := List.mem_of_getElem? hc
  obtain ⟨k, x, rfl, hx, h0⟩ := h.mi.ud c hm
  have hnl := (List.getElem?_eq_some_iff.1 hc).1
  have hs : scanL (colH p R n) k = namL [x.a, x.b] := by
    unfold scanL
    rw [ld_col hx h0, ld_col hx h0]
    rfl
  rw [hs]
  obtain ⟨q1, q2, q3, q4⟩ := lay_col (namL [x.a, x.b]) h.mi
  have hc' : (R ++ layL (colH p R n) (namL [x.a, x.b]))[n]? = some (k : Int) := by rw [List.getElem?_append_left hnl]; exact hc
  have e1 : scanH (colH p R n) k = colH p (R ++ layL (colH p R n) (namL [x.a, x.b])) (n + 1) := by
    unfold scanH
    rw [hs, q1]
    exact black_col q2 hc'
  refine ⟨e1, ⟨q2.nd, q2.ud, by rw [List.length_append]; omega⟩, fun i y hi hy d hd => ?_, fun w hw d hd => List.mem_append_left _ (h.rt w hw d hd), fun X h1 h2 i hi => ?_⟩
  · rw [List.take_append_of_le_length (by omega), List.take_add_one, hc] at hi
    rcases List.mem_append.1 hi with hi | hi
    · exact List.mem_append_left _ (h.cl i y hi hy d hd)
    · have e : i = k := by simp at hi; omega
      subst e
      rw [hx] at hy
      cases hy
      rcases hd with hd | hd
      · exact q3 d (mem_nam.2 ⟨x.a, by simp, d, hd.1, rfl⟩) hd.2
      · exact q3 d (mem_nam.2 ⟨x.b, by simp, d, hd.1, rfl⟩) hd.2
  · rcases List.mem_append.1 hi with hi | hi
    · exact h.sn X h1 h2 i hi
    · obtain ⟨w, hw, d, hd, e⟩ := mem_nam.1 (q4 i hi)
      have e' : i = d := by omega
      subst e'
      have hX : X k := h.sn X h1 h2 k hm
      have hN : Nm p w i := ⟨hd, q2.ud i (List.mem_append_right _ hi)⟩
      simp at hw
      rcases hw with rfl | rfl
      · exact h2 k x hX hx h0 i (.inl hN)
      · exact h2 k x hX hx h0 i (.inr hN)
/-- How many: at most as many as there are cells. -/
theorem MI.len {p : List Cl} {R : List Int} {n : Nat} (h : MI p R n) : R.length ≤ p.length := by
  have h1 : (R.map Int.toNat).Nodup := by
    unfold List.Nodup
    rw [List.pairwise_map]
    refine List.Pairwise.imp_of_mem (fun {a b} ha hb hne e => hne ?_) h.nd
    obtain ⟨k, _, rfl, _⟩ := h.ud a ha
    obtain ⟨m, _, rfl, _⟩ := h.ud b hb
    omega
  have h2 : (R.map Int.toNat).length ≤ (List.range p.length).length := List.Nodup.length_le_of_subset h1 (fun c hc => by
    obtain ⟨a, ha, rfl⟩ := List.mem_map.1 hc
    obtain ⟨k, x, rfl, hx, _⟩ := h.ud a ha
    have := (List.getElem?_eq_some_iff.1 hx).1
    simp
    omega)
  simpa using h2
/-- What is met by a walk, and not free, is what is black in the end. -/
theorem walk_in {p : List Cl} {rts : List Int} {X : Nat → Prop} (h1 : ∀ w ∈ rts, ∀ d, Nm p w d → X d) (h2 : ∀ (i : Nat) (x : Cl), X i → p[i]? = some x → x.k ≠ 0 → ∀ d, (Nm p x.a d ∨ Nm p x.b d) → X d) : ∀ c q, (c, q) ∈ walkM p false rts → Ud p c → X c := by
  have look : ∀ (r : St) (x q : Int), (∀ c q, (c, q) ∈ r → Ud p c → X c) → (∀ d, Nm p x d → X d) → ∀ c q', (c, q') ∈ lookM r x q → Ud p c → X c := fun r x q hr hx c q' hc hu => by
    unfold lookM at hc
    split at hc
    · exact hr c q' hc hu
    · rename_i d hd
      split at hc
      · exact hr c q' hc hu
      · rcases List.mem_append.1 hc with hc | hc
        · exact hr c q' hc hu
        · simp at hc
          obtain ⟨rfl, rfl⟩ := hc
          exact hx c ⟨hd, hu⟩
  have go : ∀ (f a : Nat) (r : St), (∀ c q, (c, q) ∈ r → Ud p c → X c) → ∀ c q, (c, q) ∈ goM p false f a r → Ud p c → X c := by
    intro f
    induction f with
    | zero => intro a r hr; exact hr
    | succ f ih =>
      intro a r hr
      unfold goM
      split
      · exact hr
      · rename_i pr hpr
        split
        · exact hr
        · rename_i x hx
          refine ih (a + 1) _ ?_
          by_cases hk : x.k = 0
          · rw [if_pos hk]; exact hr
          · rw [if_neg hk]
            have hX : X pr.1 := hr pr.1 pr.2 (List.mem_of_getElem? hpr) ⟨pr.1, x, rfl, hx, hk⟩
            exact look _ _ _ (look _ _ _ hr (fun d hd => h2 pr.1 x hX hx hk d (.inl hd))) (fun d hd => h2 pr.1 x hX hx hk d (.inr hd))
  have roots : ∀ (l : List Int) (r : St), (∀ w ∈ l, w ∈ rts) → (∀ c q, (c, q) ∈ r → Ud p c → X c) → ∀ c q, (c, q) ∈ rootsM l r → Ud p c → X c := by
    intro l
    induction l with
    | nil => intro r _ hr; exact hr
    | cons y l ih =>
      intro r hl hr
      exact ih (lookM r y (-1)) (fun w hw => hl w (List.mem_cons_of_mem _ hw)) (look r y (-1) hr (fun d hd => h1 y (hl y (List.mem_cons_self ..)) d hd))
  exact go _ _ _ (roots rts [] (fun w hw => hw) (fun c q hc => by cases hc))
end Go.Proofs.YtiglmffnhbegiaaDoor
