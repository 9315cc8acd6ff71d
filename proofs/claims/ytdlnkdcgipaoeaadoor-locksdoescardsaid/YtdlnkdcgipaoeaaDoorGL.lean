/- pick.; Steps that are read; what is at the beginning. -/
import Derived.Test.YtdlnkdcgipaoeaaDoorHLEnded
/- pick. -/
namespace Go.Proofs.YtdlnkdcgipaoeaaDoor
open Go.RowKit

/-- Which of n things the number c speaks of. -/
def pickN (c : Int) (n : Nat) : Nat := ((if c < 0 then -(c + 1) else c) % (n : Int)).toNat
theorem pick_lt {c : Int} {n : Nat} (h : 0 < n) : pickN c n < n := by
  unfold pickN
  have h1 := Int.emod_nonneg (if c < 0 then -(c + 1) else c) (show (n : Int) ≠ 0 by omega)
  have h2 := Int.emod_lt_of_pos (if c < 0 then -(c + 1) else c) (show (0 : Int) < n by omega)
  omega
set_option maxRecDepth 100000 in
set_option maxHeartbeats 4000000 in
theorem pick_any (c : Int) (n : Nat) (w : World) (hc : -9223372036854775808 ≤ c ∧ c ≤ 9223372036854775807) (hn : 0 < n) (hm : n ≤ 9223372036854775807) :
    Calls Tryd.prog 14 #[.int .i64 c, .int .i64 n] w fun e w' => e = .returned (.int .i64 (pickN c n)) ∧ w' = w := by
  have hp : ((pickN c n : Nat) : Int) = (if c < 0 then -(c + 1) else c) % (n : Int) := by
    unfold pickN
    have h1 := Int.emod_nonneg (if c < 0 then -(c + 1) else c) (show (n : Int) ≠ 0 by omega)
    omega
  rw [hp]
  have n0 : ¬ (n : Int) = 0 := by omega
  by_cases h : c < 0
  · rw [if_pos h]
    have hd : -((c + 1).tmod (n : Int)) = -(c + 1) % (n : Int) := by rw [← Int.neg_tmod]; exact Int.tmod_eq_emod_of_nonneg (by omega)
    have HD : Hid _ := hd
    clear hd hp
    go_enter Tryd.func14, Tryd.ntmps14
    go_wp2
    go_ret
    exact ⟨by rw [← HD.out]; rfl, rfl⟩
  · rw [if_neg h]
    have hd : c.tmod (n : Int) = c % (n : Int) := Int.tmod_eq_emod_of_nonneg (by omega)
    have HD : Hid _ := hd
    clear hd hp
    go_enter Tryd.func14, Tryd.ntmps14
    go_wp2
    go_ret
    exact ⟨by rw [← HD.out]; rfl, rfl⟩
end Go.Proofs.YtdlnkdcgipaoeaaDoor

/- Steps that are read; what is at the beginning. -/
namespace Go.Proofs.YtdlnkdcgipaoeaaDoor
open Go.RowKit

structure Sp where
  k : Int
  t : Int
  n : Int
  w : Int
  e : Int
def R64 (c : Int) : Prop := -9223372036854775808 ≤ c ∧ c ≤ 9223372036854775807
def SR (w : World) (ra : Option Addr) (l : List Sp) : Prop := ∃ b o, (l.length = 0 ∨ ra = some ⟨b, o, none⟩) ∧ ∀ (j : Nat) (x : Sp), l[j]? = some x → b < w.heap.size ∧ w.cell? ⟨b, o + j * 5, none⟩ = some (.int .i64 x.k) ∧ w.cell? ⟨b, o + j * 5 + 1, none⟩ = some (.int .i64 x.t) ∧ w.cell? ⟨b, o + j * 5 + 2, none⟩ = some (.int .i64 x.n) ∧ w.cell? ⟨b, o + j * 5 + 3, none⟩ = some (.int .u64 x.w) ∧ w.cell? ⟨b, o + j * 5 + 4, none⟩ = some (.int .i64 x.e) ∧ R64 x.k ∧ R64 x.t ∧ R64 x.n
theorem SR.below {w w' : World} {ra : Option Addr} {l : List Sp} (h : SR w ra l) (hb : Below w.heap.size w w') : SR w' ra l := by
  obtain ⟨b, o, h1, h2⟩ := h
  refine ⟨b, o, h1, fun j x hx => ?_⟩
  obtain ⟨g, c0, c1, c2, c3, c4, r⟩ := h2 j x hx
  have cc : ∀ {q : Nat} {u : Value}, w.cell? ⟨b, q, none⟩ = some u → w'.cell? ⟨b, q, none⟩ = some u := fun {q u} h => (World.cell?_of_block (a := ⟨b, q, none⟩) (hb.block b g)).trans h
  exact ⟨Nat.lt_of_lt_of_le g hb.size, cc c0, cc c1, cc c2, cc c3, cc c4, r⟩
/-- Threads that have begun. -/
def stN (j : Nat) : Bk := ⟨List.replicate j ⟨[], false, 0, 0⟩, List.replicate 3 ⟨[], 0⟩, []⟩
theorem stN_0 : newB 3 0 = stN 0 := rfl
theorem stN_s {j : Nat} (h : j < 5) : startM (stN j) = (((j : Int) + 1, 0), stN (j + 1)) := by
  unfold startM
  have e : (stN j).t.length = j := by simp [stN]
  rw [e, if_neg (by omega)]
  simp [stN, List.replicate_succ']
def R0 : List (Sl × List Int) := List.replicate 3 (⟨none, 0⟩, [])
def J0 : List Int := List.replicate 9 0
theorem rows0 {r : List Int} (h : r ∈ rowsM (stN 5)) : r = [] := by
  rcases List.mem_append.1 h with h | h
  · obtain ⟨y, hy, rfl⟩ := List.mem_map.1 h
    rw [List.eq_of_mem_replicate hy]
  · obtain ⟨y, hy, rfl⟩ := List.mem_map.1 h
    rw [List.eq_of_mem_replicate hy]
theorem rel0 : Rel (stN 5) R0 J0 := by
  refine ⟨by simp [R0, stN], by simp [J0], fun k v h1 h2 h3 => .inl ⟨?_, fun y hy => ?_⟩, ⟨⟨fun i r hr => ?_, fun i j r s x hr _ hx _ => ?_⟩, fun r hr x hx => ?_, fun l hl _ => ?_, fun l hl h0 => ?_, fun t ht he => ?_, fun t ht _ => ?_, by simp [stN]⟩, by simp [stN], by simp [stN]⟩
  · exact List.eq_of_mem_replicate (List.mem_of_getElem? h3)
  · rw [List.eq_of_mem_replicate hy]
    simp
  · rw [rows0 (List.mem_of_getElem? hr)]
    exact List.nodup_nil
  · rw [rows0 (List.mem_of_getElem? hr)] at hx
    cases hx
  · rw [rows0 hr] at hx
    cases hx
  · rw [List.eq_of_mem_replicate hl]
  · rw [List.eq_of_mem_replicate hl] at h0
    exact absurd rfl h0
  · rw [List.eq_of_mem_replicate ht]
  · rw [List.eq_of_mem_replicate ht]
    exact ⟨rfl, rfl⟩
theorem jf0 {w w1 w2 : World} {b : Nat} {B : Bk} {F : Nat → Prop} (hB : BB w1 b B F) (hF : ∀ g, F g → w.heap.size ≤ g) (hb : Below w.heap.size w w1) (hw2 : w2 = (w1.alloc (.cells #[.slice none 0 0, .slice none 0 0, .slice none 0 0] 62)).alloc (.cells #[.int .i64 0, .int .i64 0, .int .i64 0, .int .i64 0, .int .i64 0, .int .i64 0, .int .i64 0, .int .i64 0, .int .i64 0] 3)) : JF w w2 b w1.heap.size (w1.heap.size + 1) R0 J0 B F := by
  subst hw2
  have b2 : Below w1.heap.size w1 ((w1.alloc (.cells #[.slice none 0 0, .slice none 0 0, .slice none 0 0] 62)).alloc (.cells #[.int .i64 0, .int .i64 0, .int .i64 0, .int .i64 0, .int .i64 0, .int .i64 0, .int .i64 0, .int .i64 0, .int .i64 0] 3)) := ((Below.refl _ w1).alloc (Nat.le_refl _) _).alloc (by rw [World.size_alloc]; omega) _
  have hs := hb.size
  have hRf : ∀ g, Rf w1.heap.size R0 g → g = w1.heap.size := fun g hg => by
    rcases hg with hg | ⟨p, hp, hg⟩
    · exact hg
    · rw [List.eq_of_mem_replicate hp] at hg
      cases hg
  refine ⟨hB.below b2, ⟨?_, ⟨fun i p hp => ?_, fun i j p q g hp _ hg _ => ?_⟩⟩, ?_, fun g hg => ?_, fun g hg => ?_, by omega, hb.trans (b2.mono hs)⟩
  · exact (Below.heap_alloc _ _ _ (by rw [World.size_alloc]; omega)).trans (heap_alloc_new w1 _)
  · rw [List.eq_of_mem_replicate (List.mem_of_getElem? hp)]
    exact .inl ⟨rfl, rfl⟩
  · rw [List.eq_of_mem_replicate (List.mem_of_getElem? hp)] at hg
    cases hg
  · have := heap_alloc_new (w1.alloc (.cells #[.slice none 0 0, .slice none 0 0, .slice none 0 0] 62)) (.cells #[.int .i64 0, .int .i64 0, .int .i64 0, .int .i64 0, .int .i64 0, .int .i64 0, .int .i64 0, .int .i64 0, .int .i64 0] 3)
    rw [World.size_alloc] at this
    exact this
  · have := hB.lt hg
    exact ⟨hF g hg, fun hr => by have := hRf g hr; omega, by omega⟩
  · rw [hRf g hg]
    exact ⟨by omega, by omega⟩
theorem go_wait {B : Bk} {i : Nat} {x : Th} (hx : B.t[i]? = some x) (h : (x.en || wtB B ((i : Int) + 1)) = true) : goB B ((i : Int) + 1) = 192 := by
  have hlt := (List.getElem?_eq_some_iff.1 hx).1
  unfold goB
  rw [show isB B.t.length ((i : Int) + 1) = true by unfold isB; simp; omega, if_pos rfl, show ((i : Int) + 1 - 1).toNat = i by omega, hx]
  dsimp only
  rw [if_pos h]
theorem go_goes {B : Bk} {i : Nat} {x : Th} (hx : B.t[i]? = some x) (h1 : x.en = false) (h2 : wtB B ((i : Int) + 1) = false) : goB B ((i : Int) + 1) = 0 := by
  have hlt := (List.getElem?_eq_some_iff.1 hx).1
  unfold goB
  rw [show isB B.t.length ((i : Int) + 1) = true by unfold isB; simp; omega, if_pos rfl, show ((i : Int) + 1 - 1).toNat = i by omega, hx]
  dsimp only
  rw [h1, h2]
  rfl
theorem en_is {B : Bk} {i : Nat} {x : Th} (hx : B.t[i]? = some x) : enB B ((i : Int) + 1) = ((x.en, x.wd, x.er), 0) := by
  have hlt := (List.getElem?_eq_some_iff.1 hx).1
  unfold enB
  rw [show isB B.t.length ((i : Int) + 1) = true by unfold isB; simp; omega, if_pos rfl, show ((i : Int) + 1 - 1).toNat = i by omega, hx]
theorem lock_not {B : Bk} {t : Int} {n : Nat} (hn : n < B.l.length) (h : goB B t = 192) : lockM B t (n : Int) = ((false, 192), B) := by
  unfold lockM
  rw [isL_nat hn, if_neg (by simp), h, if_pos (by decide)]
theorem contains_snoc (a : List Int) (u k : Int) : (a ++ [u]).contains k = (a.contains k || (u == k)) := by
  rw [Bool.eq_iff_iff, Bool.or_eq_true, List.contains_iff_mem, List.contains_iff_mem, List.mem_append, List.mem_singleton, beq_iff_eq]
  exact ⟨fun h => h.imp id Eq.symm, fun h => h.imp id Eq.symm⟩
theorem join_is {B : Bk} {i o : Nat} {y : Th} (hg : goB B ((i : Int) + 1) = 0) (hy : B.t[o]? = some y) : joinM B ((i : Int) + 1) ((o : Int) + 1) = if i = o then ((0, false, 193), B) else if y.en then ((y.wd, true, y.er), B) else ((0, false, 0), { B with t := B.t.set o { y with row := y.row ++ [(i : Int) + 1] } }) := by
  have hlt := (List.getElem?_eq_some_iff.1 hy).1
  unfold joinM
  rw [show isB B.t.length ((o : Int) + 1) = true by unfold isB; simp; omega, if_neg (by simp), if_neg (by simpa using hg), show ((o : Int) + 1 - 1).toNat = o by omega, hy]
  by_cases e : i = o
  · rw [if_pos (by omega), if_pos e]
  · rw [if_neg (by omega), if_neg e]
theorem join_rel {B : Bk} {R : List (Sl × List Int)} {J : List Int} (h : Rel B R J) {i o : Nat} {y : Th} (hg : goB B ((i : Int) + 1) = 0) (hi : i < 5) (hy : B.t[o]? = some y) (hne : i ≠ o) (hen : y.en = false) : Rel { B with t := B.t.set o { y with row := y.row ++ [(i : Int) + 1] } } R (J.set (i + 1) ((o : Int) + 1)) := by
  have hlt := (List.getElem?_eq_some_iff.1 hy).1
  have hiv := join_iv h.iv ((i : Int) + 1) ((o : Int) + 1)
  rw [join_is hg hy, if_neg hne, hen] at hiv
  refine ⟨h.re, by rw [List.length_set]; exact h.jl, fun k v h1 h2 h3 => ?_, by simpa [hen] using hiv, by dsimp only; rw [List.length_set]; exact h.tl, h.ll⟩
  by_cases e : i + 1 = k
  · subst e
    rw [List.getElem?_set_self (by rw [h.jl]; omega)] at h3
    have e2 := Option.some.inj h3
    subst e2
    exact .inr ⟨o, _, rfl, List.getElem?_set_self hlt, by rw [List.mem_append]; right; simp⟩
  · rw [List.getElem?_set_ne e] at h3
    rcases h.jn k v h1 h2 h3 with ⟨rfl, h0⟩ | ⟨m, z, rfl, hm, hk⟩
    · refine .inl ⟨rfl, fun z hz hkz => ?_⟩
      rcases mem_set hz with hz | rfl
      · exact h0 z hz hkz
      · rcases List.mem_append.1 hkz with hkz | hkz
        · exact h0 y (List.mem_of_getElem? hy) hkz
        · have := List.mem_singleton.1 hkz
          omega
    · by_cases em : o = m
      · subst em
        rw [hy] at hm
        cases hm
        exact .inr ⟨o, _, rfl, List.getElem?_set_self hlt, List.mem_append_left _ hk⟩
      · exact .inr ⟨m, z, rfl, by dsimp only; rw [List.getElem?_set_ne em]; exact hm, hk⟩
theorem ended_i {w : World} {b : Nat} {B : Bk} {F : Nat → Prop} (h : BB w b B F) {i : Nat} {x : Th} (hx : B.t[i]? = some x) :
    Calls Tryd.prog 15 #[.pointer (some ⟨b, 0, none⟩), .int .i64 ((i : Int) + 1)] w fun e w' => e = .returned (.tuple #[.agg #[.bool x.en, .int .u64 x.wd, .int .i64 x.er], .int .i64 0]) ∧ Below w.heap.size w w' := by
  have := ended_B h ((i : Int) + 1)
  rw [en_is hx] at this
  exact this
end Go.Proofs.YtdlnkdcgipaoeaaDoor
