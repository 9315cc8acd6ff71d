/- What can be stays so. -/
import Derived.Test.YtaenoenchbfeiaaHASame
namespace Go.Proofs.Ytaenoenchbfeiaa
open Go.RowKit

theorem mem_set {α : Type} {l : List α} {c : Nat} {y x : α} (h : x ∈ l.set c y) : x = y ∨ x ∈ l := by
  rcases List.mem_or_eq_of_mem_set h with h | h
  · exact .inr h
  · exact .inl h
theorem inv_new {n : Nat} (hn : n ≤ 4096) : Inv (al0 n) := by
  have hz : ∀ x ∈ (al0 n).who, x = 0 := fun x hx => List.eq_of_mem_replicate hx
  refine ⟨by simp [al0]; omega, fun x hx => by rw [hz x hx]; omega, fun i j t ht hi _ => ?_, fun p hp => (by cases hp), List.Pairwise.nil, fun p hp => (by cases hp)⟩
  have := hz t (List.mem_of_getElem? hi)
  omega
theorem Inv.set {A : Al} (h : Inv A) {c : Nat} {y : Int} (hy : y = -1 ∨ y = 0) : Inv ⟨A.who.set c y, A.row⟩ := by
  refine ⟨by rw [List.length_set]; exact h.len, fun x hx => ?_, fun i j t ht hi hj => ?_, h.thr, h.nod, fun p hp => ?_⟩
  · rcases mem_set hx with rfl | hx
    · omega
    · exact h.val x hx
  · have e : ∀ k, (A.who.set c y)[k]? = some t → A.who[k]? = some t := fun k hk => by
      rw [List.getElem?_set] at hk
      split at hk
      · split at hk
        · have := Option.some.inj hk; omega
        · cases hk
      · exact hk
    exact h.one i j t ht (e i hi) (e j hj)
  · refine fnd_none.2 (fun hm => ?_)
    have h1 := (h.thr p hp).1
    rcases mem_set hm with e | hm
    · omega
    · exact fnd_none.1 (h.apart p hp) hm
theorem any_false {l : List (Int × Int)} {t : Int} (h : l.any (fun p => p.1 == t) = false) : ∀ p ∈ l, p.1 ≠ t := fun p hp e => by
  have := List.any_eq_false.1 h p hp
  simp [e] at this
theorem ask_inv {A : Al} (h : Inv A) (t b : Int) : Inv (askM A t b).2 := by
  unfold askM
  split
  · exact h
  · split
    · exact h
    · rename_i h1 h2
      unfold askT
      split
      · exact h.set (.inl rfl)
      · rename_i hf
        split
        · exact h.set (.inl rfl)
        · have hw : A.row.any (fun p => p.1 == t) = false := by
            have : ¬ waitsB A t = true := h2
            unfold waitsB at this
            exact Bool.eq_false_iff.2 this
          refine ⟨h.len, h.val, h.one, fun p hp => ?_, ?_, fun p hp => ?_⟩
          · rcases List.mem_append.1 hp with hp | hp
            · exact h.thr p hp
            · rw [List.mem_singleton.1 hp]; dsimp only; omega
          · refine List.pairwise_append.2 ⟨h.nod, List.pairwise_singleton _ _, fun p hp q hq => ?_⟩
            rw [List.mem_singleton.1 hq]
            exact any_false hw p hp
          · rcases List.mem_append.1 hp with hp | hp
            · exact h.apart p hp
            · rw [List.mem_singleton.1 hp]; exact hf
theorem back_inv {A : Al} (h : Inv A) (c : Int) : Inv (backM A c).2 := by
  unfold backM
  split
  · rename_i hc
    cases hr : A.row with
    | nil =>
      have := h.set (c := c.toNat) (y := 0) (.inr rfl)
      rw [hr] at this
      exact this
    | cons p r =>
      have hp := h.thr p (by rw [hr]; exact List.mem_cons_self)
      have hn := h.nod
      rw [hr, List.pairwise_cons] at hn
      have hsub : ∀ q ∈ r, q ∈ A.row := fun q hq => by rw [hr]; exact List.mem_cons_of_mem _ hq
      have hap := fnd_none.1 (h.apart p (by rw [hr]; exact List.mem_cons_self))
      refine ⟨by rw [List.length_set]; exact h.len, fun x hx => ?_, fun i j t ht hi hj => ?_, fun q hq => h.thr q (hsub q hq), hn.2, fun q hq => ?_⟩
      · rcases mem_set hx with rfl | hx
        · omega
        · exact h.val x hx
      · dsimp only at hi hj
        rw [List.getElem?_set] at hi hj
        split at hi
        · rename_i e1
          split at hi
          · have e := Option.some.inj hi
            split at hj
            · omega
            · exact absurd (List.mem_of_getElem? hj) (by rw [← e]; exact hap)
          · cases hi
        · split at hj
          · split at hj
            · have e := Option.some.inj hj
              exact absurd (List.mem_of_getElem? hi) (by rw [← e]; exact hap)
            · cases hj
          · exact h.one i j t ht hi hj
      · refine fnd_none.2 (fun hm => ?_)
        rcases mem_set hm with e | hm
        · exact hn.1 q hq e.symm
        · exact fnd_none.1 (h.apart q (hsub q hq)) hm
  · exact h
theorem len_filter {α : Type} (p : α → Bool) : ∀ (l : List α), l.length = (l.filter p).length + (l.filter (fun x => !p x)).length
  | [] => rfl
  | x :: l => by
    have ih := len_filter p l
    cases h : p x <;> simp [h] <;> omega
theorem row_le {A : Al} (h : Inv A) : A.row.length ≤ 8 := by
  have key : ∀ (k : Nat) (l : List (Int × Int)), (∀ p ∈ l, 1 ≤ p.1 ∧ p.1 ≤ k) → l.Pairwise (fun p q => p.1 ≠ q.1) → l.length ≤ k := by
    intro k
    induction k with
    | zero => intro l hl _; cases l with
      | nil => exact Nat.le_refl _
      | cons p l => have := hl p List.mem_cons_self; omega
    | succ k ih =>
      intro l hl hn
      have h1 : (l.filter (fun p => p.1 != ((k + 1 : Nat) : Int))).length ≤ k := by
        refine ih _ (fun p hp => ?_) (hn.filter _)
        obtain ⟨hp1, hp2⟩ := List.mem_filter.1 hp
        have := hl p hp1
        have h2 : p.1 ≠ ((k + 1 : Nat) : Int) := by simpa using hp2
        omega
      have h2 : (l.filter (fun p => !(p.1 != ((k + 1 : Nat) : Int)))).length ≤ 1 := by
        have hq := hn.filter (fun p => !(p.1 != ((k + 1 : Nat) : Int)))
        have hm : ∀ p ∈ l.filter (fun p => !(p.1 != ((k + 1 : Nat) : Int))), p.1 = ((k + 1 : Nat) : Int) := fun p hp => by simpa using (List.mem_filter.1 hp).2
        generalize l.filter (fun p => !(p.1 != ((k + 1 : Nat) : Int))) = m at hq hm
        match m, hq, hm with
        | [], _, _ => exact Nat.zero_le _
        | [_], _, _ => exact Nat.le_refl _
        | p :: q :: r, hq, hm =>
          rw [List.pairwise_cons] at hq
          exact absurd ((hm p List.mem_cons_self).trans (hm q (List.mem_cons_of_mem _ List.mem_cons_self)).symm) (hq.1 q List.mem_cons_self)
      have h3 := len_filter (fun p : Int × Int => p.1 != ((k + 1 : Nat) : Int)) l
      omega
  exact key 8 A.row h.thr h.nod
/-- An Alloc all whose blocks are new. -/
def Own (B a ga gm gf cf n : Nat) (A : Al) (w0 w : World) : Prop := Inv A ∧ ∃ vr, AL w a ga gm gf cf vr n A ∧ Below B w0 w ∧ ∀ g, Ft a ga gm gf vr g → B ≤ g
theorem own_step {B a ga gm gf cf n' : Nat} {vr : Value} {A' : Al} {w0 w w' : World} (hb : Below B w0 w) (hs : B ≤ w0.heap.size) (hf : ∀ g, Ft a ga gm gf vr g → B ≤ g) (hI : Inv A') (h : AR a ga gm gf cf vr n' A' w w') : Own B a ga gm gf cf n' A' w0 w' := by
  obtain ⟨vr', h1, h2, h3, h4⟩ := h
  have hsw := hb.size
  refine ⟨hI, vr', h1, ⟨((hb.mono (Nat.zero_le _)).trans h3).os, ((hb.mono (Nat.zero_le _)).trans h3).tape, ((hb.mono (Nat.zero_le _)).trans h3).output, Nat.le_trans hb.size h3.size, fun g hg => ?_⟩, fun g hg => ?_⟩
  · rw [h2 g (by omega) (fun hF => by have := hf g hF; omega), hb.block g hg]
  · rcases hg with hg | hg
    · exact hf g (.inl hg)
    · rcases h4 g hg with h' | h'
      · exact hf g (.inr h')
      · omega
theorem ask_own {B a ga gm gf cf n : Nat} {A : Al} {w0 w : World} (h : Own B a ga gm gf cf n A w0 w) (hs : B ≤ w0.heap.size) (t b : Int) :
    Calls Try.prog 19 #[.pointer (some ⟨a, 0, none⟩), .int .i64 t, .int .i64 b] w fun e w' => e = askE (askM A t b).1 ∧ Own B a ga gm gf cf n (askM A t b).2 w0 w' := by
  obtain ⟨hI, vr, h1, h2, h3⟩ := h
  refine (ask_any a ga gm gf cf n vr A t b w h1 hI (by have := row_le hI; omega)).mono ?_
  rintro e w' ⟨rfl, h4⟩
  exact ⟨rfl, own_step h2 hs h3 (ask_inv hI t b) h4⟩
theorem back_own {B a ga gm gf cf n : Nat} {A : Al} {w0 w : World} (h : Own B a ga gm gf cf n A w0 w) (hs : B ≤ w0.heap.size) (hn : n ≤ 1000000) (c : Int) :
    Calls Try.prog 20 #[.pointer (some ⟨a, 0, none⟩), .int .i64 c] w fun e w' => e = backE (backM A c).1 ∧ ∃ n', n' ≤ n + 1 ∧ Own B a ga gm gf cf n' (backM A c).2 w0 w' := by
  obtain ⟨hI, vr, h1, h2, h3⟩ := h
  refine (back_any a ga gm gf cf n vr A c w h1 hI hn).mono ?_
  rintro e w' ⟨rfl, n', hn', h4⟩
  exact ⟨rfl, n', hn', own_step h2 hs h3 (back_inv hI c) h4⟩
theorem own_quiet {B a ga gm gf cf n : Nat} {A : Al} {w0 w w' : World} (h : Own B a ga gm gf cf n A w0 w) (hs : B ≤ w0.heap.size) (hb : Below w.heap.size w w') : Own B a ga gm gf cf n A w0 w' := by
  obtain ⟨hI, vr, h1, h2, h3⟩ := h
  exact own_step h2 hs h3 hI (h1.same hb)
end Go.Proofs.Ytaenoenchbfeiaa
