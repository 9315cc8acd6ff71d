/- Each is laid once, and it ends: the count, and what a round keeps. -/
import Derived.Test.YtnhbmkakjhkgdaaHKOf
namespace Go.Proofs.Ytnhbmkakjhkgdaa
open Go.RowKit

theorem mod_pick {a n : Int} (ha : 0 ≤ a) (hn : 0 < n) : ∃ k : Nat, (k : Int) < n ∧ a.tmod n = k :=
  ⟨(a % n).toNat, by have := Int.emod_lt_of_pos a hn; have := Int.emod_nonneg a (by omega : n ≠ 0); omega, by
    rw [Int.tmod_eq_emod_of_nonneg ha]; have := Int.emod_nonneg a (by omega : n ≠ 0); omega⟩
set_option maxRecDepth 100000 in
set_option maxHeartbeats 4000000 in
theorem pick_fix (a : Int) (n : Nat) (ha : -9223372036854775808 ≤ a ∧ a ≤ 9223372036854775807) (hn : 0 < n) (hn' : n ≤ 281474976710656) :
    ∃ k : Nat, k < n ∧ ∀ w : World, Calls Try.prog 10 #[.int .i64 a, .int .i64 n] w fun e w' => e = .returned (.int .i64 k) ∧ w' = w := by
  have i2 : ((n : Int) == 0) = false := by simp; omega
  have hn1 : (0 : Int) < (n : Int) := by omega
  obtain ⟨a1, a2⟩ := ha
  by_cases h : a < 0
  · obtain ⟨k, hk, he⟩ := mod_pick (a := -(a + 1)) (n := (n : Int)) (by omega) hn1
    refine ⟨k, by omega, fun w => ?_⟩
    have i3 : a + 1 ≤ 9223372036854775807 := by omega
    have i4 : -9223372036854775808 ≤ a + 1 := by omega
    clear hk
    go_enter Try.func10, Try.ntmps10
    go_wp2
    go_ret
    exact ⟨by rw [← he]; rfl, rfl⟩
  · obtain ⟨k, hk, he⟩ := mod_pick (a := a) (n := (n : Int)) (by omega) hn1
    refine ⟨k, by omega, fun w => ?_⟩
    clear hk
    go_enter Try.func10, Try.ntmps10
    go_wp2
    go_ret
    exact ⟨by rw [← he]; rfl, rfl⟩
/-- How many of 1 to n are left. -/
def cnt (f : Nat → Bool) : Nat → Nat
  | 0 => 0
  | k + 1 => cnt f k + (if f (k + 1) = true then 1 else 0)
theorem cnt_congr {f h : Nat → Bool} : ∀ {n : Nat}, (∀ k, 1 ≤ k → k ≤ n → f k = h k) → cnt f n = cnt h n
  | 0, _ => rfl
  | n + 1, hh => by
    show cnt f n + _ = cnt h n + _
    rw [cnt_congr (fun k h1 h2 => hh k h1 (by omega)), hh (n + 1) (by omega) (by omega)]
theorem cnt_off {f : Nat → Bool} {k : Nat} : ∀ {n : Nat}, 1 ≤ k → k ≤ n → f k = true → cnt (put f k false) n + 1 = cnt f n
  | 0, h1, h2, _ => by omega
  | n + 1, h1, h2, hf => by
    show cnt (put f k false) n + (if put f k false (n + 1) = true then 1 else 0) + 1 = cnt f n + (if f (n + 1) = true then 1 else 0)
    by_cases e : k = n + 1
    · subst e
      rw [put_same, hf, cnt_congr (h := f) (fun j _ hj => put_ne (by omega))]
      simp
    · rw [put_ne (fun e' => e e'.symm)]
      have := cnt_off (n := n) h1 (by omega) hf
      omega
theorem cnt_le (f : Nat → Bool) : ∀ n, cnt f n ≤ n
  | 0 => Nat.le_refl _
  | n + 1 => by
    have := cnt_le f n
    show cnt f n + (if f (n + 1) = true then 1 else 0) ≤ n + 1
    split <;> omega
theorem least_some {f : Nat → Bool} : ∀ {k i : Nat}, least f i k ≠ 0 → f (least f i k) = true ∧ i ≤ least f i k ∧ least f i k < i + k
  | 0, i, h => absurd rfl h
  | k + 1, i, h => by
    by_cases hf : f i = true
    · rw [least_here hf]
      exact ⟨hf, Nat.le_refl _, by omega⟩
    · have hf' : f i = false := by simpa using hf
      rw [least_step hf'] at h ⊢
      obtain ⟨h1, h2, h3⟩ := least_some h
      exact ⟨h1, by omega, by omega⟩
theorem left_some {s : Sk} (h : leftM s ≠ 0) : s.l (leftM s) = true ∧ 1 ≤ leftM s ∧ leftM s ≤ s.n := by
  obtain ⟨h1, _, h3⟩ := least_some (f := s.l) h
  exact ⟨h1, Nat.one_le_iff_ne_zero.2 h, by unfold leftM; omega⟩
theorem left_ne {s : Sk} (hk : Ok s) {k : Nat} (h : s.l k = true) : leftM s ≠ 0 := fun e => by
  rw [left_none hk e k] at h; cases h
structure EX (w0 w : World) (b g : Nat) (s : Sk) (D : Nat → Bool) (i : Nat) : Prop where
  sl : SL w b s
  row : DR w 4 g 9 (fun k u => u = .bool (D k))
  ne : g ≠ b
  ok : Ok s
  cyc : s.c = true
  lay : ∀ k, 1 ≤ k → k ≤ s.n → D k = !s.l k
  num : cnt s.l s.n + (8 - s.n) + i ≤ 8
  lb : w0.heap.size ≤ b
  lg : w0.heap.size ≤ g
  bel : Below w0.heap.size w0 w
theorem KR.trans {w w1 w2 : World} {b : Nat} {s s' : Sk} (h : KR b s w w1) (k : KR b s' w1 w2) : KR b s' w w2 := ⟨k.1, fun g hg => (k.2.1 g hg).trans (h.2.1 g hg), h.2.2.1.trans k.2.2.1, k.2.2.2.trans h.2.2.2⟩
theorem kr_bel {w0 w w1 : World} {b : Nat} {s' : Sk} (hb : Below w0.heap.size w0 w) (h : KR b s' w w1) (lb : w0.heap.size ≤ b) : Below w0.heap.size w0 w1 := (h.below hb lb).2
theorem EX.same {w0 w w1 : World} {b g i : Nat} {s : Sk} {D : Nat → Bool} (h : EX w0 w b g s D i) (hk : KR b s w w1) : EX w0 w1 b g s D i :=
  ⟨hk.1, h.row.kept (hk.2.1 g h.ne), h.ne, h.ok, h.cyc, h.lay, h.num, h.lb, h.lg, kr_bel h.bel hk h.lb⟩
theorem EX.cell {w0 w : World} {b g i : Nat} {s : Sk} {D : Nat → Bool} (h : EX w0 w b g s D i) {k : Nat} (hk : k < 9) : w.cell? ⟨g, k, none⟩ = some (.bool (D k)) := by
  obtain ⟨u, hu, rfl⟩ := h.row.cell hk
  exact hu
theorem born_is {s : Sk} (h8 : s.n < 8) {p : Nat} (hp2 : p ≤ s.n) : bornM s (p : Int) = ((((s.n + 1 : Nat) : Int), 0), ⟨s.n + 1, s.c, put s.l (s.n + 1) (s.l p), s.a⟩) := by
  unfold bornM
  rw [if_neg (by omega), if_neg (fun hh => ?_)]
  · rfl
  · by_cases e : p = 0
    · exact hh.1 (by rw [e]; rfl)
    · have := isT_iff.2 (show 1 ≤ (p : Int) ∧ (p : Int) ≤ s.n from ⟨by omega, by omega⟩)
      rw [hh.2] at this; cases this
theorem EX.born {w0 w w1 : World} {b g i p : Nat} {s : Sk} {D : Nat → Bool} (h : EX w0 w b g s D i) (h8 : s.n < 8) (hp1 : 1 ≤ p) (hp2 : p ≤ s.n) (hk : KR b (bornM s (p : Int)).2 w w1) :
    EX w0 (w1.setCell ⟨g, s.n + 1, none⟩ (.bool (D p))) b g ⟨s.n + 1, s.c, put s.l (s.n + 1) (s.l p), s.a⟩ (put D (s.n + 1) (D p)) i := by
  have hok := born_ok h.ok (p : Int)
  rw [born_is h8 hp2] at hk hok
  dsimp only at hk hok
  have hr := h.row.kept (hk.2.1 g h.ne)
  refine ⟨hk.1.kept (Below.heap_setCell _ _ _ _ (fun e => h.ne e.symm)), hr.set (fun k u hne hu => ?_) ?_, h.ne, hok, h.cyc, fun k h1 h2 => ?_, ?_, h.lb, h.lg, (kr_bel h.bel hk h.lb).setCell (p := ⟨g, s.n + 1, none⟩) h.lg _⟩
  · rw [put_ne hne]; exact hu
  · rw [put_same]
  · dsimp only at h2 ⊢
    by_cases e : k = s.n + 1
    · rw [e, put_same, put_same]
      exact h.lay p hp1 hp2
    · rw [put_ne e, put_ne e]
      exact h.lay k h1 (by omega)
  · have := h.num
    show cnt (put s.l (s.n + 1) (s.l p)) s.n + (if put s.l (s.n + 1) (s.l p) (s.n + 1) = true then 1 else 0) + (8 - (s.n + 1)) + i ≤ 8
    rw [cnt_congr (h := s.l) (fun j _ hj => put_ne (by omega))]
    split <;> omega
theorem EX.ask {w0 w w1 : World} {b g i : Nat} {t : Int} {s : Sk} {D : Nat → Bool} (h : EX w0 w b g s D i) (hk : KR b (askM s t).2 w w1) : ∃ s', EX w0 w1 b g s' D i ∧ s'.n = s.n ∧ s'.l = s.l := by
  have hok := ask_ok h.ok t
  have e : (askM s t).2.n = s.n ∧ (askM s t).2.l = s.l ∧ (askM s t).2.c = s.c := by
    unfold askM
    split <;> exact ⟨rfl, rfl, rfl⟩
  refine ⟨_, ⟨hk.1, h.row.kept (hk.2.1 g h.ne), h.ne, hok, e.2.2.trans h.cyc, fun k h1 h2 => ?_, ?_, h.lb, h.lg, kr_bel h.bel hk h.lb⟩, e.1, e.2.1⟩
  · rw [e.2.1]; rw [e.1] at h2; exact h.lay k h1 h2
  · rw [e.2.1, e.1]; exact h.num
theorem lay_is {s : Sk} {k : Nat} (h1 : 1 ≤ k) (h2 : k ≤ s.n) (hl : s.l k = true) : layM s (k : Int) = (0, ⟨s.n, s.c, put s.l k false, put s.a k false⟩) := by
  unfold layM
  have e : isL s (k : Int) = true := by
    unfold isL
    rw [isT_iff.2 (show 1 ≤ (k : Int) ∧ (k : Int) ≤ s.n from ⟨by omega, by omega⟩)]
    exact hl
  rw [if_neg (by rw [e]; decide)]
  rfl
theorem lay_not {s : Sk} {k : Nat} (hl : s.l k = false) : layM s (k : Int) = (140, s) := by
  unfold layM
  have e : isL s (k : Int) = false := by
    unfold isL
    rw [Int.toNat_natCast, hl, Bool.and_false]
  rw [if_pos e]
theorem EX.lays {w0 w w1 : World} {b g i k : Nat} {s : Sk} {D : Nat → Bool} (h : EX w0 w b g s D i) (h1 : 1 ≤ k) (h2 : k ≤ s.n) (hl : s.l k = true) (hk : KR b ⟨s.n, s.c, put s.l k false, put s.a k false⟩ w w1) :
    EX w0 (w1.setCell ⟨g, k, none⟩ (.bool true)) b g ⟨s.n, s.c, put s.l k false, put s.a k false⟩ (put D k true) (i + 1) := by
  have hok := lay_ok h.ok (k : Int)
  rw [lay_is h1 h2 hl] at hok
  have hr := h.row.kept (hk.2.1 g h.ne)
  refine ⟨hk.1.kept (Below.heap_setCell _ _ _ _ (fun e => h.ne e.symm)), hr.set (fun j u hne hu => ?_) ?_, h.ne, hok, h.cyc, fun j h3 h4 => ?_, ?_, h.lb, h.lg, (kr_bel h.bel hk h.lb).setCell (p := ⟨g, k, none⟩) h.lg _⟩
  · rw [put_ne hne]; exact hu
  · rw [put_same]
  · dsimp only at h4 ⊢
    by_cases e : j = k
    · rw [e, put_same, put_same]; rfl
    · rw [put_ne e, put_ne e]
      exact h.lay j h3 h4
  · have := h.num
    have := cnt_off h1 h2 hl
    show cnt (put s.l k false) s.n + (8 - s.n) + (i + 1) ≤ 8
    omega
/-- A cycle begins. -/
theorem ex_begin {w0 w w1 : World} {b g : Nat} {s : Sk} (hk : Ok s) (hc : s.c = false) (hK : KR b (begM s).2 w w1) (lb : w0.heap.size ≤ b) (hb : Below w0.heap.size w0 w) {w2 : World} (hb2 : Below w1.heap.size w1 w2) (hr : DR w2 4 g 9 (fun _ u => u = .bool false)) (hg : w1.heap.size ≤ g) :
    EX w0 w2 b g (bg s s.n) (fun _ => false) 0 := by
  have hok := beg_ok hk
  have e : begM s = (0, bg s s.n) := by unfold begM; rw [if_neg (by rw [hc]; decide)]; rfl
  rw [e] at hK hok
  have hbl := hK.1.lt
  have hb1 := kr_bel hb hK lb
  have h1 := hb1.size
  refine ⟨hK.1.kept (hb2.block b hbl), hr, by omega, hok, rfl, fun k h1 h2 => ?_, ?_, lb, by omega, hb1.trans (hb2.mono h1)⟩
  · have h2' : k ≤ s.n := h2
    unfold bg
    dsimp only
    rw [if_pos ⟨h1, h2'⟩]
    rfl
  · show cnt (bg s s.n).l s.n + (8 - s.n) + 0 ≤ 8
    have := cnt_le (bg s s.n).l s.n
    have := hk.le
    omega
end Go.Proofs.Ytnhbmkakjhkgdaa
