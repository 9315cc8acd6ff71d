/- A heap whose cells change places: it looks the same. -/
import Derived.Test.YtejmoopgfnjaaaaDoorK26
namespace Go.Proofs.YtejmoopgfnjaaaaDoor
open Go.RowKit

theorem mod_pick {a n : Int} (ha : 0 ≤ a) (hn : 0 < n) : ∃ k : Nat, (k : Int) < n ∧ a.tmod n = k := by
  refine ⟨(a.tmod n).toNat, ?_, ?_⟩
  · have h1 := Int.tmod_nonneg n ha
    have h2 := Int.tmod_lt_of_pos a hn
    omega
  · have h1 := Int.tmod_nonneg n ha
    omega
theorem pick_fix (a : Int) (n : Nat) (ha : -9223372036854775808 ≤ a ∧ a ≤ 9223372036854775807) (hn : 0 < n) (hn' : n ≤ 281474976710656) :
    ∃ k : Nat, k < n ∧ ∀ w : World, Calls Tryd.prog 10 #[.int .i64 a, .int .i64 n] w fun e w' => e = .returned (.int .i64 k) ∧ w' = w := by
  have i2 : ((n : Int) == 0) = false := by simp; omega
  have hn1 : (0 : Int) < (n : Int) := by omega
  obtain ⟨a1, a2⟩ := ha
  by_cases h : a < 0
  · obtain ⟨k, hk, he⟩ := mod_pick (a := -(a + 1)) (n := (n : Int)) (by omega) hn1
    refine ⟨k, by omega, fun w => ?_⟩
    have i3 : a + 1 ≤ 9223372036854775807 := by omega
    have i4 : -9223372036854775808 ≤ a + 1 := by omega
    clear hk
    go_enter Tryd.func10, Tryd.ntmps10
    go_wp2
    go_ret
    exact ⟨by rw [← he]; rfl, rfl⟩
  · obtain ⟨k, hk, he⟩ := mod_pick (a := a) (n := (n : Int)) (by omega) hn1
    refine ⟨k, by omega, fun w => ?_⟩
    clear hk
    go_enter Tryd.func10, Tryd.ntmps10
    go_wp2
    go_ret
    exact ⟨by rw [← he]; rfl, rfl⟩
/-- A word whose cell stands elsewhere. -/
def mvM (n : Nat) (τ : Nat → Nat) (x : Int) : Int := match refN x with
  | none => x
  | some c => if c < n then mkW 8 (τ c : Nat) else x
theorem ref_nat {x : Int} (h : refB x = true) : ∃ c : Nat, refN x = some c ∧ cellV x = c := by
  have h1 := ofN_ref h
  have h2 : ofT x = 8 := by unfold refB at h; simpa using h
  refine ⟨(ofN x).toNat, by unfold refN; rw [if_pos h2], ?_⟩
  unfold cellV; rw [if_pos h2]; omega
theorem mv_rng {n : Nat} {τ : Nat → Nat} {x : Int} (hx : Rng x) : Rng (mvM n τ x) := by
  unfold mvM
  split
  · exact hx
  · split
    · exact mkW_rng ..
    · exact hx
/-- Cells that change places: who stands where, and back. -/
structure Perm (n : Nat) (τ ρ : Nat → Nat) : Prop where
  lt : ∀ k, k < n → τ k < n
  lt' : ∀ k, k < n → ρ k < n
  back : ∀ k, k < n → ρ (τ k) = k
  there : ∀ k, k < n → τ (ρ k) = k
def sw (a b k : Nat) : Nat := if k = a then b else if k = b then a else k
theorem sw_sw (a b k : Nat) : sw a b (sw a b k) = k := by
  unfold sw
  by_cases h1 : k = a
  · subst h1; simp only [ite_true]; split <;> omega
  · simp only [if_neg h1]
    by_cases h2 : k = b
    · subst h2; simp
    · simp only [if_neg h2, if_neg h1]
theorem sw_lt {a b k n : Nat} (ha : a < n) (hb : b < n) (hk : k < n) : sw a b k < n := by
  unfold sw; split
  · exact hb
  · split <;> assumption
theorem Perm.id (n : Nat) : Perm n (fun k => k) (fun k => k) := ⟨fun _ h => h, fun _ h => h, fun _ _ => rfl, fun _ _ => rfl⟩
theorem Perm.swap {n : Nat} {τ ρ : Nat → Nat} (h : Perm n τ ρ) {a b : Nat} (ha : a < n) (hb : b < n) : Perm n (fun k => τ (sw a b k)) (fun k => sw a b (ρ k)) :=
  ⟨fun _ hk => h.lt _ (sw_lt ha hb hk), fun _ hk => sw_lt ha hb (h.lt' _ hk), fun k hk => by rw [h.back _ (sw_lt ha hb hk), sw_sw], fun k hk => by rw [sw_sw, h.there _ hk]⟩
/-- The i-th cell as it stands in the other heap. -/
def turC (n : Nat) (τ : Nat → Nat) (i : Nat) (x : Cl) : Cl := if x.k = 0 then x else ⟨x.k, (x.c + i) % 3, mvM n τ x.a, mvM n τ x.b⟩
def turAt (h : List Cl) (n : Nat) (τ : Nat → Nat) (i : Nat) : Cl := match h[i]? with
  | some x => turC n τ i x
  | none => ⟨0, 0, 0, 0⟩
def turH (h : List Cl) (n : Nat) (τ ρ : Nat → Nat) : List Cl := (List.range n).map (fun m => turAt h n τ (ρ m))
theorem tur_len (h : List Cl) (n : Nat) (τ ρ : Nat → Nat) : (turH h n τ ρ).length = n := by unfold turH; simp
theorem tur_get {h : List Cl} {n : Nat} {τ ρ : Nat → Nat} (hp : Perm n τ ρ) {i : Nat} (hi : i < n) : (turH h n τ ρ)[τ i]? = some (turAt h n τ i) := by
  unfold turH
  rw [List.getElem?_map, List.getElem?_range (hp.lt i hi)]
  show some (turAt h n τ (ρ (τ i))) = _
  rw [hp.back i hi]
theorem mv_mv {n m : Nat} {τ : Nat → Nat} (hm : m ≤ 1000000) (hnm : n ≤ m) (ht : ∀ k, k < m → τ k < m) {x : Int} (hx : ∀ d, refN x = some d → d < n) : Mv τ x (mvM m τ x) := by
  unfold Mv mvM
  cases hc : refN x with
  | none => exact ⟨hc, fun _ => rfl⟩
  | some c =>
    have h1 := hx c hc
    have h2 := ht c (by omega)
    show refN (if c < m then mkW 8 (τ c : Nat) else x) = some (τ c) ∧ _
    rw [if_pos (by omega)]
    exact ⟨refN_mk (by omega), fun h => by cases h⟩
theorem mv_fits {n m : Nat} {τ : Nat → Nat} (hm : m ≤ 1000000) (hnm : n ≤ m) (ht : ∀ k, k < m → τ k < m) {x : Int} (hx : fitsW n x = true) : fitsW m (mvM m τ x) = true := by
  cases hc : refN x with
  | none =>
    have : mvM m τ x = x := by unfold mvM; rw [hc]
    rw [this]
    unfold fitsW at hx ⊢
    rw [hc] at hx ⊢; exact hx
  | some c =>
    have h1 := ref_fits hx hc
    have h2 := ht c (by omega)
    have : mvM m τ x = mkW 8 (τ c : Nat) := by unfold mvM; rw [hc]; exact if_pos (by omega)
    rw [this]
    exact fits_mk8 (by omega) h2
theorem tur_ok {h : List Cl} {n : Nat} {τ ρ : Nat → Nat} (hk : ∀ x ∈ h, OkK x) : ∀ x ∈ turH h n τ ρ, OkK x := fun x hx => by
  unfold turH at hx
  obtain ⟨m, _, rfl⟩ := List.mem_map.1 hx
  unfold turAt
  split
  · rename_i y hy
    have := hk y (List.mem_of_getElem? hy)
    unfold turC
    split
    · exact this
    · exact ⟨this.k, ⟨by have := this.c; dsimp only; omega, by have := this.c; dsimp only; omega⟩, mv_rng this.a, mv_rng this.b⟩
  · exact ⟨⟨by decide, by decide⟩, ⟨by decide, by decide⟩, ⟨by decide, by decide⟩, ⟨by decide, by decide⟩⟩
theorem turC_ok {h : List Cl} {n : Nat} {τ ρ : Nat → Nat} (hp : Perm n τ ρ) (hn : n ≤ 1000000) (hl : h.length ≤ n) {x : Cl} (i : Nat) (_ : 0 ≤ x.c) (hx : okCl h.length x = true) : okCl n (turC n τ i x) = true := by
  have hk := okCl_parts hx
  unfold turC
  split
  · rename_i h0
    exact okCl_of ⟨hk.1, .inl h0⟩
  · rename_i h0
    obtain ⟨f1, f2⟩ := hk.2.resolve_left h0
    exact okCl_of ⟨⟨hk.1.1, by dsimp only; omega⟩, .inr ⟨mv_fits hn hl hp.lt f1, mv_fits hn hl hp.lt f2⟩⟩
theorem bare_tur {n : Nat} {τ : Nat → Nat} {i : Nat} {x : Cl} (hk : x.k ≠ 0) (h : Mv τ x.a (mvM n τ x.a) ∧ Mv τ x.b (mvM n τ x.b)) : (bareC (turC n τ i x)).k = (bareC x).k ∧ Mv τ (bareC x).a (bareC (turC n τ i x)).a ∧ Mv τ (bareC x).b (bareC (turC n τ i x)).b := by
  unfold turC
  rw [if_neg hk]
  unfold bareC
  by_cases h2 : x.k = 2
  · simp only [if_pos h2]
    have h3 : refN 1 = none := by kernel_rfl
    exact ⟨trivial, h.1, by rw [h3]; rfl, fun _ => rfl⟩
  · simp only [if_neg h2]
    exact ⟨trivial, h.1, h.2⟩
theorem bare_k (x : Cl) : (bareC x).k = x.k := by unfold bareC; split <;> rfl
/-- The other heap looks the same. -/
theorem tur_same {h : List Cl} {x : Int} {n : Nat} {τ ρ : Nat → Nat} (hp : Perm n τ ρ) (hn : n ≤ 1000000) (hl : h.length ≤ n) (hk : ∀ y ∈ h, OkK y) (hf : fitsB h x = true) :
    fitsB (turH h n τ ρ) (mvM n τ x) = true ∧ fH (bareM (turH h n τ ρ)) [mvM n τ x] = fH (bareM h) [x] ∧ fromM (turH h n τ ρ) (mvM n τ x) = fromM h x := by
  obtain ⟨⟨hb, hh⟩, hw⟩ := fits_parts hf
  have h1 := badC_none h 0 hb
  have h2 := (heap_ok hh).2 x (by simp)
  rw [bare_len] at h2
  have hok : ∀ y ∈ turH h n τ ρ, okCl (turH h n τ ρ).length y = true := fun y hy => by
    rw [tur_len]
    unfold turH at hy
    obtain ⟨m, _, rfl⟩ := List.mem_map.1 hy
    unfold turAt
    split
    · rename_i z hz
      have mz := List.mem_of_getElem? hz
      exact turC_ok hp hn hl _ (hk z mz).c.1 (h1 z mz)
    · exact okCl_of ⟨⟨by decide, by decide⟩, .inl rfl⟩
  have hx' : fitsW n (mvM n τ x) = true := mv_fits hn hl hp.lt h2
  have hB : heapB (bareM (turH h n τ ρ)) [mvM n τ x] = true := by
    refine heapB_of (fun y hy => ?_) (fun y hy => ?_)
    · unfold bareM at hy
      obtain ⟨z, hz, rfl⟩ := List.mem_map.1 hy
      rw [bare_len]
      exact bare_ok (hok z hz)
    · rw [bare_len, tur_len]
      simp at hy
      rw [hy]; exact hx'
  have hi : Iso (bareM h) (bareM (turH h n τ ρ)) [x] [mvM n τ x] τ (fun c => c < h.length) := by
    refine ⟨fun c d hc hd e => ?_, fun c hc => ?_, rfl, fun j z hz => ?_⟩
    · have := hp.back c (by omega)
      rw [e, hp.back d (by omega)] at this
      exact this.symm
    · have hx := List.getElem?_eq_getElem hc
      have hg : (bareM (turH h n τ ρ))[τ c]? = some (bareC (turC n τ c h[c])) := by
        have e : turAt h n τ c = turC n τ c h[c] := by unfold turAt; rw [hx]
        rw [← e]
        exact bare_get (tur_get hp (by omega))
      refine ⟨_, _, bare_get hx, hg, ?_, fun hk0 => ?_⟩
      · rw [bare_k, bare_k]
        unfold turC
        split <;> rfl
      · rw [bare_k] at hk0
        have ho := h1 _ (List.mem_of_getElem? hx)
        obtain ⟨f1, f2⟩ := (okCl_parts ho).2.resolve_left hk0
        have hm := bare_tur (n := n) (τ := τ) (i := c) hk0 ⟨mv_mv hn hl hp.lt (fun d hd => ref_fits f1 hd), mv_mv hn hl hp.lt (fun d hd => ref_fits f2 hd)⟩
        obtain ⟨b1, b2⟩ := (okCl_parts (bare_ok ho)).2.resolve_left (by rw [bare_k]; exact hk0)
        exact ⟨hm.2, fun d hd => ref_fits b1 hd, fun d hd => ref_fits b2 hd⟩
    · match j, hz with
      | 0, hz =>
        cases hz
        exact ⟨_, rfl, mv_mv hn hl hp.lt (fun d hd => ref_fits h2 hd), fun d hd => ref_fits h2 hd⟩
      | j + 1, hz => simp at hz
  have hwk := hi.walk hh hB
  have e1 : fH (bareM (turH h n τ ρ)) [mvM n τ x] = fH (bareM h) [x] := hi.form hwk
  have e2 : fR (bareM (turH h n τ ρ)) [mvM n τ x] = fR (bareM h) [x] := hi.rootsF hwk
  refine ⟨?_, e1, by simpa [fR_one] using e2⟩
  unfold fitsB
  rw [badC_of _ _ hok, hB, e1]
  have hnw : (fH (bareM h) [x]).any wrongC = false := by
    rw [List.any_eq_false]
    intro y hy
    rw [hw y hy]; decide
  rw [hnw]; rfl
theorem tur_show {h : List Cl} {x : Int} {n : Nat} {τ ρ : Nat → Nat} {N : List (List UInt8)} (hp : Perm n τ ρ) (hn : n ≤ 1000000) (hl : h.length ≤ n) (hk : ∀ y ∈ h, OkK y) (ho : okS h N x = true) :
    okS (turH h n τ ρ) N (mvM n τ x) = true ∧ showT (turH h n τ ρ) N (mvM n τ x) = showT h N x ∧ alikeB h x (turH h n τ ρ) (mvM n τ x) = true ∧ (fitsB h x && fitsB (turH h n τ ρ) (mvM n τ x)) = true := by
  have hf : fitsB h x = true := by unfold okS at ho; rw [Bool.and_eq_true] at ho; exact ho.1
  obtain ⟨f1, f2, f3⟩ := tur_same hp hn hl hk hf
  refine ⟨?_, ?_, ?_, by rw [hf, f1]; rfl⟩
  · unfold okS at ho ⊢
    rw [f1, f2, f3]
    rwa [hf] at ho
  · unfold showT; rw [f2, f3]
  · unfold alikeB; rw [f2, f3]; simp
end Go.Proofs.YtejmoopgfnjaaaaDoor
