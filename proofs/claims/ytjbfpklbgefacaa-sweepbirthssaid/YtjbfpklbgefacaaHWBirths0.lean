/- SweepBirths: mathematics, and what stands beside a sweeper. -/
import Derived.Test.YtjbfpklbgefacaaHWWhole0
namespace Go.Proofs.Ytjbfpklbgefacaa
open Go.RowKit

theorem mod_pick {a n : Int} (ha : 0 ≤ a) (hn : 0 < n) : ∃ k : Nat, (k : Int) < n ∧ a.tmod n = k := by
  refine ⟨(a.tmod n).toNat, ?_, ?_⟩
  · have h1 := Int.tmod_nonneg n ha
    have h2 := Int.tmod_lt_of_pos a hn
    omega
  · have h1 := Int.tmod_nonneg n ha
    omega
set_option maxHeartbeats 4000000 in
theorem pick_fix (a : Int) (n : Nat) (ha : -9223372036854775808 ≤ a ∧ a ≤ 9223372036854775807) (hn : 0 < n) (hn' : n ≤ 281474976710656) :
    ∃ k : Nat, k < n ∧ ∀ w : World, Calls Try.prog 21 #[.int .i64 a, .int .i64 n] w fun e w' => e = .returned (.int .i64 k) ∧ w' = w := by
  have i2 : ((n : Int) == 0) = false := by simp; omega
  have hn1 : (0 : Int) < (n : Int) := by omega
  obtain ⟨a1, a2⟩ := ha
  by_cases h : a < 0
  · obtain ⟨k, hk, he⟩ := mod_pick (a := -(a + 1)) (n := (n : Int)) (by omega) hn1
    refine ⟨k, by omega, fun w => ?_⟩
    have i3 : a + 1 ≤ 9223372036854775807 := by omega
    have i4 : -9223372036854775808 ≤ a + 1 := by omega
    clear hk
    go_enter Try.func21, Try.ntmps21
    go_wp2
    go_ret
    exact ⟨by rw [← he]; rfl, rfl⟩
  · obtain ⟨k, hk, he⟩ := mod_pick (a := a) (n := (n : Int)) (by omega) hn1
    refine ⟨k, by omega, fun w => ?_⟩
    clear hk
    go_enter Try.func21, Try.ntmps21
    go_wp2
    go_ret
    exact ⟨by rw [← he]; rfl, rfl⟩
theorem step_at {h : List Cl} {j : Nat} {x : Cl} (hx : h[j]? = some x) (hg : Good x) : swE h j = 0 ∧ swN h j = j ∧ swA h j = j + 1 ∧ swB h j = whB x ∧ swH h j = h.set j (swX x) := by
  have e1 : swE h j = 0 := by
    unfold swE
    rw [hx]
    dsimp only
    rcases hg with rfl | ⟨h1, h2⟩
    · rfl
    · rw [if_neg h1, if_neg (by omega)]
  refine ⟨e1, by unfold swN; rw [e1]; rfl, by unfold swA; rw [e1]; rfl, by unfold swB; rw [hx]; rfl, ?_⟩
  unfold swH
  rw [hx]
  dsimp only
  rcases hg with rfl | ⟨h1, h2 | h2⟩
  · rw [if_pos (show c0.k = 0 from rfl)]
    exact (set_same hx).symm
  · rw [if_neg h1, if_pos h2]
    unfold swX
    rw [if_pos h2]
  · rw [if_neg h1, if_neg (by omega), if_pos h2]
    unfold swX
    rw [if_neg (by omega)]
/-- A box that is born. -/
def bx (c : Int) : Cl := ⟨2, c, 7, 7⟩
theorem bx_ok {c : Int} (h : 0 ≤ c ∧ c ≤ 255) : OkK (bx c) := ⟨⟨show (0 : Int) ≤ 2 by decide, show (2 : Int) ≤ 255 by decide⟩, h, ⟨show (0 : Int) ≤ 7 by decide, show (7 : Int) ≤ 18446744073709551615 by decide⟩, ⟨show (0 : Int) ≤ 7 by decide, show (7 : Int) ≤ 18446744073709551615 by decide⟩⟩
/-- What holds while a sweep has come to i. -/
structure Bi (h : List Cl) (fr : Nat → Bool) (i : Nat) : Prop where
  good : ∀ x ∈ h, Good x
  white : ∀ (c : Nat) (x : Cl), h[c]? = some x → c < i → x.c = 0
  fresh : ∀ (c : Nat) (x : Cl), h[c]? = some x → fr c = true → x = bx (if i ≤ c then 2 else 0)
theorem Bi.step {h : List Cl} {fr : Nat → Bool} {i : Nat} {x : Cl} (B : Bi h fr i) (hx : h[i]? = some x) : Bi (h.set i (swX x)) fr (i + 1) ∧ (fr i = true → whB x = false) := by
  have hi : i < h.length := (List.getElem?_eq_some_iff.1 hx).1
  refine ⟨⟨fun y hy => ?_, fun c y hy hc => ?_, fun c y hy hf => ?_⟩, fun hf => ?_⟩
  · rcases List.mem_or_eq_of_mem_set hy with h1 | h1
    · exact B.good y h1
    · rw [h1]; exact swX_good (B.good x (List.mem_of_getElem? hx))
  · by_cases e : i = c
    · subst e
      rw [List.getElem?_set_self hi] at hy
      cases hy
      unfold swX
      split <;> rfl
    · rw [List.getElem?_set_ne e] at hy
      exact B.white c y hy (by omega)
  · by_cases e : i = c
    · subst e
      rw [List.getElem?_set_self hi] at hy
      cases hy
      have := B.fresh i x hx hf
      rw [if_pos (Nat.le_refl _)] at this
      rw [this, if_neg (by omega)]
      rfl
    · rw [List.getElem?_set_ne e] at hy
      have := B.fresh c y hy hf
      rw [this]
      congr 1
      by_cases h1 : i ≤ c
      · rw [if_pos h1, if_pos (by omega)]
      · rw [if_neg h1, if_neg (by omega)]
  · have := B.fresh i x hx hf
    rw [if_pos (Nat.le_refl _)] at this
    rw [this]
    rfl
theorem Bi.make {h : List Cl} {fr : Nat → Bool} {i m : Nat} (B : Bi h fr i) (hm : m < h.length) : Bi (h.set m (bx (if i ≤ m then 2 else 0))) (fun c => if c = m then true else fr c) i := by
  refine ⟨fun y hy => ?_, fun c y hy hc => ?_, fun c y hy hf => ?_⟩
  · rcases List.mem_or_eq_of_mem_set hy with h1 | h1
    · exact B.good y h1
    · rw [h1]
      refine .inr ⟨show (2 : Int) ≠ 0 by decide, ?_⟩
      by_cases e : i ≤ m
      · rw [if_pos e]; exact .inr rfl
      · rw [if_neg e]; exact .inl rfl
  · by_cases e : m = c
    · subst e
      rw [List.getElem?_set_self hm] at hy
      cases hy
      rw [if_neg (by omega)]
      rfl
    · rw [List.getElem?_set_ne e] at hy
      exact B.white c y hy hc
  · by_cases e : m = c
    · subst e
      rw [List.getElem?_set_self hm] at hy
      cases hy
      rfl
    · rw [List.getElem?_set_ne e] at hy
      rw [if_neg (fun e' => e e'.symm)] at hf
      exact B.fresh c y hy hf
/-- A sweeper, its heap, and which ones were born. -/
structure BT (w0 w : World) (sb hb ab gf n : Nat) (h : List Cl) (fr : Nat → Bool) (a f : Nat) : Prop where
  sn : SN w0 w sb hb ab h a f
  d : DR w 4 gf n (fun k u => u = .bool (fr k))
  g : w0.heap.size ≤ gf
theorem BT.ne {w0 w : World} {sb hb ab gf n : Nat} {h : List Cl} {fr : Nat → Bool} {a f : Nat} (T : BT w0 w sb hb ab gf n h fr a f) : gf ≠ sb ∧ gf ≠ ab ∧ gf < w.heap.size := by
  obtain ⟨cs, q, _⟩ := T.d
  obtain ⟨cs', r1, _⟩ := T.sn.s.c.r
  exact ⟨ty_ne q T.sn.s.s (by decide), ty_ne q r1 (by decide), heap_lt q⟩
theorem BT.step {w0 w w' : World} {sb hb ab gf n : Nat} {h h' : List Cl} {fr : Nat → Bool} {a f a' f' : Nat} (T : BT w0 w sb hb ab gf n h fr a f) (hS : SS w' sb hb ab h' a' f') (hF : Fr (fun g => g ≠ sb ∧ g ≠ ab) w w') : BT w0 w' sb hb ab gf n h' fr a' f' :=
  ⟨T.sn.step hS hF, T.d.kept (hF.2 _ ⟨T.ne.1, T.ne.2.1⟩ T.ne.2.2), T.g⟩
theorem BT.below {w0 w w' : World} {sb hb ab gf n : Nat} {h : List Cl} {fr : Nat → Bool} {a f : Nat} (T : BT w0 w sb hb ab gf n h fr a f) (hB : Below w.heap.size w w') : BT w0 w' sb hb ab gf n h fr a f :=
  ⟨T.sn.below hB, T.d.kept (hB.block _ T.ne.2.2), T.g⟩
theorem BT.ex {w0 w w' : World} {sb hb ab gf n : Nat} {h h' : List Cl} {fr : Nat → Bool} {a f : Nat} (T : BT w0 w sb hb ab gf n h fr a f) (hE : ExR hb ab h' w w') : BT w0 w' sb hb ab gf n h' fr a f :=
  T.step ⟨hE.1, T.sn.s.s.ex T.sn.s.c hE⟩ (hE.2.1.sub (fun _ h => h.2))
theorem BT.begin {w0 w w' : World} {sb hb ab gf n : Nat} {h : List Cl} {fr : Nat → Bool} {a f : Nat} (T : BT w0 w sb hb ab gf n h fr a f) (hS : SW w' sb hb 0 0) (hF : Fr (fun g => g ≠ sb) w w') : BT w0 w' sb hb ab gf n h fr 0 0 :=
  T.step ⟨T.sn.s.c.sw T.sn.s.s hF, hS⟩ (hF.sub (fun _ h => h.1))
theorem BT.mark {w0 w : World} {sb hb ab gf n m : Nat} {h : List Cl} {fr : Nat → Bool} {a f : Nat} (T : BT w0 w sb hb ab gf n h fr a f) : BT w0 (w.setCell ⟨gf, m, none⟩ (.bool true)) sb hb ab gf n h (fun c => if c = m then true else fr c) a f := by
  have hk : ∀ k, k ≠ gf → (w.setCell ⟨gf, m, none⟩ (.bool true)).heap[k]? = w.heap[k]? := fun k hk => Below.heap_setCell _ _ _ _ hk
  obtain ⟨cs, q, _⟩ := T.d
  obtain ⟨cs', r1, _⟩ := T.sn.s.c.r
  refine ⟨⟨⟨T.sn.s.c.kept (hk _ (ty_ne T.sn.s.c.v q (by decide))) (hk _ (ty_ne r1 q (by decide))) (fun p cs hp => hk _ (ty_ne hp q (by decide))), T.sn.s.s.kept (hk _ (ty_ne T.sn.s.s q (by decide)))⟩, T.sn.b.setCell (p := ⟨gf, m, none⟩) T.g _, T.sn.sb, T.sn.hb, T.sn.ab⟩, ?_, T.g⟩
  refine T.d.set (fun k u hk hu => ?_) ?_
  · rw [if_neg hk]; exact hu
  · rw [if_pos rfl]
theorem makeE_bx {h : List Cl} {m : Nat} {c : Int} {x : Cl} (hx : h[m]? = some x) (hc : c ≤ 2) : makeE h m (bx c) = (if x.k = 0 then 0 else 31) := by
  have hg : getC h (m : Int) = some x := by unfold getC; rw [if_pos (by omega)]; simpa using hx
  unfold makeE
  rw [hg]
  have : makeF (bx c) = true := by unfold makeF bx; simp [hc]
  dsimp only
  rw [if_pos this]
  rfl
theorem infoBo : (Try.prog.info? 4).map (fun i => (i.zero, i.size, i.bytes)) = some (some (.bool false), 1, 1) := by kernel_rfl
theorem row_made {W : World} {base g n t : Nat} {xs : List Value} {u0 : Value} (h : W.ownsRow base t 1 (.slice (some ⟨g, 0, none⟩) n n) n xs) (hx : ∀ u ∈ xs, u = u0) : DR W t g n (fun _ u => u = u0) := by
  rcases h.2 with ⟨h0, _⟩ | ⟨g', cap', cur, hv, _, hh, _, _, hsz, ht⟩
  · cases h0
  · cases hv
    refine ⟨cur, hh, by simpa using hsz, fun k u hk => hx u ?_⟩
    have hk2 : k < cur.size := (Array.getElem?_eq_some_iff.1 hk).1
    rw [← ht, List.take_of_length_le (by simp; omega)]
    exact Array.mem_toList_iff.2 (Array.mem_of_getElem? hk)
theorem false_made (n : Nat) : ∀ u ∈ (madeCells (Value.bool false).cells (n * 1)).toList, u = .bool false := by
  intro u hu
  unfold madeCells at hu
  rw [Array.toList_map] at hu
  obtain ⟨i, _, rfl⟩ := List.mem_map.1 hu
  show (#[Value.bool false])[i % 1]! = _
  rw [Nat.mod_one]; rfl
end Go.Proofs.Ytjbfpklbgefacaa
