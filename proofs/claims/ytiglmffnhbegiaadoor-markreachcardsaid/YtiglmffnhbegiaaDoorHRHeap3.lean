/- The document's field, Load, Swap, New. -/
import Derived.Test.YtiglmffnhbegiaaDoorHRHeap2
namespace Go.Proofs.YtiglmffnhbegiaaDoor
open Go.RowKit

set_option maxRecDepth 100000 in
set_option maxHeartbeats 8000000 in
theorem rfield_bad {rb g : Nat} {h : List Cl} (i f : Int) {w : World} (H : RH w rb g h) (hf : f = 0 ∨ f = 1) (hb : ldE h i ≠ 0) :
    Calls Tryd.prog 89 #[.pointer (some ⟨rb, 0, none⟩), .int .i64 i, .int .i64 f] w fun e w' => e = .returned (.tuple #[.pointer none, .int .i64 (ldE h i)]) ∧ w' = w := by
  have HI : Hid (Calls Tryd.prog 76 #[.pointer (some ⟨rb, 0, none⟩), .int .i64 i] w fun e w' => e = .returned (.bool (inB h.length i)) ∧ w' = w) := ris_any i w H
  cases hi : inB h.length i
  · have E : ldE h i = 1 := by unfold ldE; rw [getC_none hi]
    rw [E]
    rw [hi] at HI
    clear H hi E hb
    go_enter Tryd.func89, Tryd.ntmps89
    go_wp2_with fail
    refine Calls.mono HI.out ?_
    rintro e w' ⟨rfl, hw'⟩
    rw [hw']
    clear hw'
    go_wp2_with fail
    go_ret2
    exact ⟨rfl, rfl⟩
  · obtain ⟨k, x, rfl, hx, hg, hk⟩ := getC_some hi
    rw [hi] at HI
    obtain ⟨a0, ⟨a1, a2, a3, a4⟩, af⟩ := H.at hx
    have i1 : (k : Int) < (h.length : Int) := by have := (List.getElem?_eq_some_iff.1 hx).1; omega
    have h0 : x.k = 0 := by
      unfold ldE chE at hb
      rw [hg] at hb
      dsimp only at hb
      by_cases h0 : x.k = 0
      · exact h0
      · rw [if_neg h0] at hb; exact absurd rfl hb
    have z1 : (x.k == 0) = true := by simpa using h0
    have E : ldE h k = 31 := by unfold ldE chE; rw [hg]; simp [h0]
    rw [E]
    clear H hi E hb hx hg h0
    rcases hf with rfl | rfl
    all_goals
      go_enter Tryd.func89, Tryd.ntmps89
      go_wp2_with fail
      refine Calls.mono HI.out ?_
      rintro e w' ⟨rfl, hw'⟩
      rw [hw']
      clear hw'
      go_wp2_with fail
      go_ret2
      exact ⟨rfl, rfl⟩
theorem ld_ok {h : List Cl} {i : Int} (hb : ldE h i = 0) : ∃ (k : Nat) (x : Cl), i = k ∧ h[k]? = some x ∧ getC h i = some x ∧ i.toNat = k ∧ x.k ≠ 0 := by
  have hi : inB h.length i = true := by
    cases hi : inB h.length i
    · unfold ldE at hb
      rw [getC_none hi] at hb
      cases hb
    · rfl
  obtain ⟨k, x, rfl, hx, hg, hk⟩ := getC_some hi
  refine ⟨k, x, rfl, hx, hg, hk, fun h0 => ?_⟩
  unfold ldE chE at hb
  rw [hg] at hb
  simp [h0] at hb
set_option maxRecDepth 100000 in
set_option maxHeartbeats 8000000 in
theorem rfield_ok {rb g k : Nat} {h : List Cl} {x : Cl} (f : Nat) {w : World} (H : RH w rb g h) (hf : f = 0 ∨ f = 1) (hx : h[k]? = some x) (h0 : x.k ≠ 0) :
    Calls Tryd.prog 89 #[.pointer (some ⟨rb, 0, none⟩), .int .i64 k, .int .i64 f] w fun e w' => e = .returned (.tuple #[.pointer (some ⟨g, k * 4 + 2 + f, none⟩), .int .i64 0]) ∧ w' = w := by
  have HI : Hid (Calls Tryd.prog 76 #[.pointer (some ⟨rb, 0, none⟩), .int .i64 k] w fun e w' => e = .returned (.bool (inB h.length k)) ∧ w' = w) := ris_any k w H
  have hkl := (List.getElem?_eq_some_iff.1 hx).1
  rw [inB_iff.2 ⟨k, rfl, hkl⟩] at HI
  obtain ⟨a0, ⟨a1, a2, a3, a4⟩, af⟩ := H.at hx
  have i1 : (k : Int) < (h.length : Int) := by omega
  have z1 : (x.k == 0) = false := by simpa using h0
  clear H hx h0
  rcases hf with rfl | rfl
  · go_enter Tryd.func89, Tryd.ntmps89
    go_wp2_with fail
    refine Calls.mono HI.out ?_
    rintro e w' ⟨rfl, hw'⟩
    rw [hw']
    clear hw'
    go_wp2_with fail
    go_ret2
    exact ⟨rfl, rfl⟩
  · go_enter Tryd.func89, Tryd.ntmps89
    go_wp2_with fail
    refine Calls.mono HI.out ?_
    rintro e w' ⟨rfl, hw'⟩
    rw [hw']
    clear hw'
    go_wp2_with fail
    go_ret2
    exact ⟨rfl, rfl⟩
def RLd (h : List Cl) (i f : Int) (w : World) (e : Ending) (w' : World) : Prop := e = .returned (.tuple #[.int .u64 (ldW h i f), .int .i64 (ldE h i)]) ∧ w' = w
set_option maxRecDepth 100000 in
set_option maxHeartbeats 8000000 in
theorem rload_any {rb g : Nat} {h : List Cl} (i : Int) (f : Nat) {w : World} (H : RH w rb g h) (hf : f = 0 ∨ f = 1) :
    Calls Tryd.prog 81 #[.pointer (some ⟨rb, 0, none⟩), .int .i64 i, .int .i64 f] w fun e w' => RLd h i f w e w' := by
  by_cases hb : ldE h i = 0
  · obtain ⟨k, x, rfl, hx, hg, hk, h0⟩ := ld_ok hb
    have HC : Hid _ := rfield_ok f H hf hx h0
    obtain ⟨a0, ⟨a1, a2, a3, a4⟩, af⟩ := H.at hx
    unfold RLd
    rcases hf with rfl | rfl
    · have E : ldW h k ((0 : Nat) : Int) = x.a := by unfold ldW; rw [hg]; simp [h0]
      rw [hb, E]
      clear H hb hx hg h0 E
      go_enter Tryd.func81, Tryd.ntmps81
      go_wp2_with fail
      refine Calls.mono HC.out ?_
      rintro e w' ⟨rfl, hw'⟩
      rw [hw']
      clear hw'
      go_wp2_with fail
      go_ret2
      exact ⟨rfl, rfl⟩
    · have E : ldW h k ((1 : Nat) : Int) = x.b := by unfold ldW; rw [hg]; simp [h0]
      rw [hb, E]
      clear H hb hx hg h0 E
      go_enter Tryd.func81, Tryd.ntmps81
      go_wp2_with fail
      refine Calls.mono HC.out ?_
      rintro e w' ⟨rfl, hw'⟩
      rw [hw']
      clear hw'
      go_wp2_with fail
      go_ret2
      exact ⟨rfl, rfl⟩
  · have HC : Hid _ := rfield_bad i f H (by omega) hb
    have z1 : (ldE h i != 0) = true := by simpa using hb
    have E : ldW h i f = 0 := by
      unfold ldE chE at hb
      unfold ldW
      cases hg : getC h i with
      | none => rfl
      | some x =>
        rw [hg] at hb
        dsimp only at hb ⊢
        by_cases h0 : x.k = 0
        · rw [if_pos h0]
        · rw [if_neg h0] at hb; exact absurd rfl hb
    unfold RLd
    rw [E]
    clear H hb E
    go_enter Tryd.func81, Tryd.ntmps81
    go_wp2_with fail
    refine Calls.mono HC.out ?_
    rintro e w' ⟨rfl, hw'⟩
    rw [hw']
    clear hw'
    go_wp2_with fail
    go_ret2
    exact ⟨rfl, rfl⟩
def RSw (rb g : Nat) (h : List Cl) (w : World) (e : Ending) (w' : World) : Prop := (∃ a b : Int, e = .returned (.tuple #[.int .u64 a, .int .i64 b])) ∧ RhR rb g h w w'
set_option maxRecDepth 100000 in
set_option maxHeartbeats 8000000 in
theorem rswap_any {rb g : Nat} {h : List Cl} (i a : Int) {w : World} (H : RH w rb g h) (ha : Rng a) :
    Calls Tryd.prog 42 #[.pointer (some ⟨rb, 0, none⟩), .int .i64 i, .int .i64 0, .int .u64 a] w fun e w' => RSw rb g (swapH h i a) w e w' := by
  by_cases hb : ldE h i = 0
  · obtain ⟨k, x, rfl, hx, hg, hk, h0⟩ := ld_ok hb
    have HC : Hid _ := rfield_ok 0 H (.inl rfl) hx h0
    obtain ⟨a0, ⟨a1, a2, a3, a4⟩, af⟩ := H.at hx
    have lg := H.lt
    have E : swapH h k a = h.set k ⟨x.k, x.c, a, x.b⟩ := by
      unfold swapH chE
      rw [hg]
      dsimp only
      rw [if_neg h0, hk]
      rfl
    rw [E]
    have HR : Hid (RhR rb g (h.set k ⟨x.k, x.c, a, x.b⟩) w (w.setCell ⟨g, k * 4 + 1 + 1, none⟩ (.int .u64 a))) := H.setA hx ha
    clear H hb hx hg h0 E
    go_enter Tryd.func42, Tryd.ntmps42
    go_wp2_with fail
    refine Calls.mono HC.out ?_
    rintro e w' ⟨rfl, hw'⟩
    rw [hw']
    clear hw'
    go_wp2_with fail
    go_ret2
    exact ⟨⟨_, _, rfl⟩, HR.out⟩
  · have HC : Hid _ := rfield_bad i 0 H (.inl rfl) hb
    have z1 : (ldE h i != 0) = true := by simpa using hb
    have HH : Hid (RH w rb g h) := H
    have E : swapH h i a = h := by
      unfold ldE at hb
      unfold swapH
      cases hg : getC h i with
      | none => rfl
      | some x =>
        rw [hg] at hb
        dsimp only at hb ⊢
        rw [if_neg hb]
    rw [E]
    clear H hb E
    go_enter Tryd.func42, Tryd.ntmps42
    go_wp2_with fail
    refine Calls.mono HC.out ?_
    rintro e w' ⟨rfl, hw'⟩
    rw [hw']
    clear hw'
    go_wp2_with fail
    go_ret2
    exact ⟨⟨_, _, rfl⟩, .refl HH.out⟩
def RNew (n : Nat) (w : World) (e : Ending) (w' : World) : Prop := ∃ rb g : Nat, e = .returned (.tuple #[.pointer (some ⟨rb, 0, none⟩), .int .i64 0]) ∧ RH w' rb g (List.replicate n c0) ∧ Below w.heap.size w w' ∧ w.heap.size ≤ rb ∧ w.heap.size ≤ g
def cells4 (x : Cl) : List Value := [.int .u8 x.k, .int .u8 x.c, .int .u64 x.a, .int .u64 x.b]
theorem clCells_eq : ∀ (l : List Cl) (k : Nat), (clCells l)[k]? = (l[k / 4]?).bind fun x => (cells4 x)[k % 4]?
  | [], k => by simp [clCells]
  | x :: l, 0 => rfl
  | x :: l, 1 => rfl
  | x :: l, 2 => rfl
  | x :: l, 3 => rfl
  | x :: l, k + 4 => by
    rw [show (k + 4) / 4 = k / 4 + 1 by omega, show (k + 4) % 4 = k % 4 by omega]
    show (clCells l)[k]? = _
    rw [clCells_eq l k]; rfl
theorem cl_zero (n : Nat) : (madeCells (Value.agg #[.int .u8 0, .int .u8 0, .int .u64 0, .int .u64 0]).cells (n * 4)).toList = clCells (List.replicate n c0) := by
  have hz : (Value.agg #[.int .u8 0, .int .u8 0, .int .u64 0, .int .u64 0]).cells = #[Value.int .u8 0, .int .u8 0, .int .u64 0, .int .u64 0] := by kernel_rfl
  have hl := clCells_len (List.replicate n c0)
  rw [List.length_replicate] at hl
  apply List.ext_getElem?
  intro k
  by_cases hk : k < n * 4
  · rw [clCells_eq, List.getElem?_replicate, if_pos (by omega)]
    unfold madeCells
    rw [hz]
    simp [hk]
    have h4 : k % 4 = 0 ∨ k % 4 = 1 ∨ k % 4 = 2 ∨ k % 4 = 3 := by omega
    rcases h4 with h | h | h | h <;> rw [h] <;> rfl
  · rw [List.getElem?_eq_none (by simp [madeCells]; omega), List.getElem?_eq_none (by omega)]
set_option maxRecDepth 100000 in
set_option maxHeartbeats 8000000 in
theorem rnew_any (n : Nat) (w : World) (h1 : 4 ≤ n) (h2 : n ≤ 4096) : Calls Tryd.prog 23 #[.int .i64 n] w fun e w' => RNew n w e w' := by
  obtain ⟨i0, hi0, hz0, hz1, hz2⟩ := info_parts infoK
  obtain ⟨w2, hrun, hown, hgr⟩ := run_make_full (P := Tryd.prog) w w.heap.size 23 86 i0 (.agg #[.int .u8 0, .int .u8 0, .int .u64 0, .int .u64 0]) 4 Tryd.underlying23 hi0 hz0 hz1 .i64 .i64 n (by rw [hz2]; omega) (by unfold maxLen; omega) (Nat.le_refl _)
  rw [cl_zero n] at hown
  obtain ⟨cs, r1, r2, _, _, _, _, r3⟩ := own_out hown
  have b2 : Below w.heap.size w w2 := grown_low hgr (fun g hg => by cases hg) (Nat.le_refl _)
  have l2 := heap_lt r1
  have hcl := clCells_len (List.replicate n c0)
  rw [List.length_replicate] at hcl
  have HN : Hid (RH (w2.alloc (.cells #[.slice (some ⟨w.heap.size, 0, none⟩) n n] 103)) w2.heap.size w.heap.size (List.replicate n c0)) := by
    refine ⟨by rw [List.length_replicate]; exact heap_alloc_new w2 _, ⟨cs, (Below.heap_alloc _ _ _ l2).trans r1, by rw [hcl]; exact r2, fun k u hk => ?_⟩, fun x hx => by rw [List.eq_of_mem_replicate hx]; exact c0_ok, by simpa using h2⟩
    have hkl : k < n * 4 := by rw [← r2]; exact (Array.getElem?_eq_some_iff.1 hk).1
    have := r3 k _ (List.getElem?_eq_getElem (by rw [hcl]; exact hkl))
    rw [hk] at this
    show (clCells (List.replicate n c0))[k]? = some u
    rw [List.getElem?_eq_getElem (by rw [hcl]; exact hkl)]
    exact this.symm
  have HB : Hid (Below w.heap.size w (w2.alloc (.cells #[.slice (some ⟨w.heap.size, 0, none⟩) n n] 103))) := b2.alloc b2.size _
  have hs := b2.size
  have z1 : decide ((n : Int) < 4) = false := by simp; omega
  have z2 : decide ((n : Int) > 4096) = false := by simp; omega
  have z3 : decide (4096 < (n : Int)) = false := by simp; omega
  clear hown hgr r1 r2 r3 b2 hi0 hz0 hz1 hz2 hcl
  go_enter Tryd.func23, Tryd.ntmps23
  go_wp2_with fail
  go_ret2
  exact ⟨_, _, rfl, HN.out, HB.out, hs, Nat.le_refl _⟩
end Go.Proofs.YtiglmffnhbegiaaDoor
