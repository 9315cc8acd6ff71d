/- The document's Many and Deep. -/
import Derived.Test.YtlpdfifjdlfpdaaGreatDoorGK
namespace Go.Proofs.YtlpdfifjdlfpdaaGreatDoor
open Go.RowKit

def ManyC (N : Nat) : Prop := ∀ (k n : Int) (t : List UInt8) (s : Fo) (d : Bool) (rk : Option Addr) (ck : Nat) (w : World), s.size ≤ N → s.size ≤ 1000000 → s.len ≤ maxLen → RS w rk s →
  Calls Tryz.prog 49 #[.agg #[.int .u8 k, .int .i64 n, S t, .slice rk s.len ck, .bool d]] w fun e w' => e = .returned (.int .i64 ((s.size + 1 : Nat) : Int)) ∧ Below w.heap.size w w'

set_option maxRecDepth 100000 in
set_option maxHeartbeats 4000000 in
theorem many_of {N : Nat} (h : ∀ M, M < N → ManyC M) : ManyC N := by
  intro k n t s d rk ck w hN hb hm hR
  have HC : Hid (∀ M, M < N → ManyC M) := h
  have hal : Below w.heap.size w (w.alloc (.cells #[.int .u8 k, .int .i64 n, S t, .slice rk s.len ck, .bool d] 58)) := (Below.refl _ w).alloc (Nat.le_refl _) _
  have Hal : Hid _ := hal
  have HQ0 : Hid _ := World.alloc_heap_new w (.cells #[.int .u8 k, .int .i64 n, S t, .slice rk s.len ck, .bool d] 58)
  have hmm := hm
  unfold maxLen at hmm
  obtain ⟨b, o, hab, hRd⟩ := hR
  have HRd : Hid (Rd w b o s) := hRd
  have Hra : Hid (s.len ≠ 0 → rk = some ⟨b, o, none⟩) := fun h => hab.resolve_left h
  clear h hRd hab hal
  go_enter Tryz.func49, Tryz.ntmps49
  go_wp2
  go_loopw [3, 4] (fun nv i wr => ∃ (j c : Nat) (fi : Fo), nv = .int .i64 c ∧ i = .int .i64 j ∧ fi.len + j = s.len ∧ 1 ≤ c ∧ fi.size + c = s.size + 1 ∧ Hid (Rd w b (o + j * 5) fi) ∧ Hid (Below w.heap.size w wr) ∧ Hid (wr.heap[w.heap.size]? = some (.cells #[.int .u8 k, .int .i64 n, S t, .slice rk s.len ck, .bool d] 58 (0, 0)))) (fun _ i _ => s.len - (intOf i).toNat)
  case atStart => exact ⟨0, 1, s, rfl, rfl, by simp, Nat.le_refl _, rfl, by simpa using HRd, Hal, HQ0⟩
  case round =>
    obtain ⟨j, c, fi, rfl, rfl, hj, hc1, hsz, HF, HBj, HQj⟩ := hrel
    obtain ⟨z0, z1, z2, z3, z4, _⟩ := cells5 HQj.out
    have hws : w.heap.size < wr.heap.size := (Array.getElem?_eq_some_iff.1 HQj.out).1
    cases fi with
    | nil =>
      have hj' : j = s.len := by simpa [Fo.len] using hj
      have HJ : Hid _ := hj'
      have hjl : ¬ ((j : Int) < (s.len : Int)) := by omega
      have hc : Hid (c = s.size + 1) := by show _ = _; simpa [Fo.size] using hsz
      clear hj hj' hsz
      go_wp2
      go_ret
      exact ⟨by rw [show ((s.size : Int) + 1) = (c : Int) by have := hc.out; omega]; rfl, HBj.out⟩
    | cons k' n' t' s' d' r' =>
      simp only [Fo.len] at hj
      simp only [Fo.size] at hsz
      have i1 : (j : Int) < (s.len : Int) := by omega
      obtain ⟨⟨g0, g1, g2, g3, g4, g5⟩, ⟨rk', ck', bk', ok', gk, gz, gs⟩, gr⟩ := HF.out
      have ec : ∀ o, wr.cell? ⟨b, o, none⟩ = w.cell? ⟨b, o, none⟩ := fun o => HBj.out.cell (p := ⟨b, o, none⟩) g0
      have h1 := (ec _).trans g1
      have h2 := (ec _).trans g2
      have h3 := (ec _).trans g3
      have h4 := (ec _).trans g4
      have hk := (ec _).trans gk
      have h0 : b < wr.heap.size := Nat.lt_of_lt_of_le g0 HBj.out.size
      have HRk : Hid (RS w rk' s') := ⟨bk', ok', gz, gs⟩
      have Hr : Hid _ := gr
      have hjs : j < s.len := by omega
      have hra := Hra.out (by omega)
      subst hra
      clear ec g1 g2 g3 g4 gk gz gs gr
      go_wp2_with fail
      refine (HC.out s'.size (by omega) k' n' t' s' d' rk' ck' wr (Nat.le_refl _) (by omega) g5 (HRk.out.below HBj.out)).mono ?_
      rintro e w2 ⟨rfl, hb2⟩
      have HB2 : Hid (Below w.heap.size w w2) := HBj.out.trans (hb2.mono HBj.out.size)
      have HQ2 : Hid _ := (hb2.block _ hws).trans HQj.out
      clear hb2 h1 h2 h3 h4 hk z0 z1 z2 z3 z4
      go_wp2
      go_roundw
      case rel => exact ⟨j + 1, c + (s'.size + 1), r', by go_num, by go_num, by omega, by omega, by omega, by rw [show o + (j + 1) * 5 = o + j * 5 + 5 by omega]; exact Hr, HB2, HQ2⟩
      case measure => simp [intOf]; omega
theorem many_all : ∀ N, ManyC N := fun N => by
  induction N using Nat.strongRecOn with
  | _ N ih => exact many_of ih

/-- How deep data are by themselves. -/
def dpO : Fo → Nat
  | .nil => 0
  | .cons k _ _ s _ r => max (if k = 5 then dpO s + 1 else 0) (dpO r)
theorem dep_dpO : ∀ (f : Fo) (L : Nat), allD f = true → dep L f = if dpO f = 0 then 0 else L + dpO f
  | .nil, L, _ => rfl
  | .cons k n t s d r, L, h => by
    simp only [allD, Bool.and_eq_true] at h
    obtain ⟨hi, hs, hr⟩ := h
    have ihr := dep_dpO r L hr
    have ihs := dep_dpO s (L + 1) hs
    rcases isDat_kind hi with rfl | rfl | rfl | rfl | rfl
    · obtain ⟨_, _, rfl, _⟩ := isDat_num hi
      simp only [dep, dpO]; simp; exact ihr
    · obtain ⟨_, _, rfl, _⟩ := isDat_sym hi
      simp only [dep, dpO]; simp; exact ihr
    · obtain ⟨_, _, rfl, _⟩ := isDat_lf (.inl rfl) hi
      simp only [dep, dpO]; simp; exact ihr
    · obtain ⟨_, _, rfl, _⟩ := isDat_lf (.inr rfl) hi
      simp only [dep, dpO]; simp; exact ihr
    · simp only [dep, dpO, if_true]
      rw [ihr, ihs]
      split <;> split <;> split <;> omega
theorem dpO_le : ∀ (f : Fo), dpO f ≤ f.size
  | .nil => Nat.le_refl _
  | .cons k n t s d r => by have h1 := dpO_le s; have h2 := dpO_le r; simp only [dpO, Fo.size]; split <;> omega
def DeepC (N : Nat) : Prop := ∀ (k n : Int) (t : List UInt8) (s : Fo) (d : Bool) (rk : Option Addr) (ck : Nat) (w : World), s.size ≤ N → s.size ≤ 1000000 → s.len ≤ maxLen → RS w rk s →
  Calls Tryz.prog 48 #[.agg #[.int .u8 k, .int .i64 n, S t, .slice rk s.len ck, .bool d]] w fun e w' => e = .returned (.int .i64 (((if k = 5 then dpO s + 1 else 0) : Nat) : Int)) ∧ Below w.heap.size w w'

set_option maxRecDepth 100000 in
set_option maxHeartbeats 4000000 in
theorem deep_list {N : Nat} (h : ∀ M, M < N → DeepC M) (n : Int) (t : List UInt8) (s : Fo) (d : Bool) (rk : Option Addr) (ck : Nat) (w : World) (hN : s.size ≤ N) (hb : s.size ≤ 1000000) (hm : s.len ≤ maxLen) (hR : RS w rk s) :
    Calls Tryz.prog 48 #[.agg #[.int .u8 5, .int .i64 n, S t, .slice rk s.len ck, .bool d]] w fun e w' => e = .returned (.int .i64 ((dpO s + 1 : Nat) : Int)) ∧ Below w.heap.size w w' := by
  have HC : Hid (∀ M, M < N → DeepC M) := h
  have hal : Below w.heap.size w (w.alloc (.cells #[.int .u8 5, .int .i64 n, S t, .slice rk s.len ck, .bool d] 58)) := (Below.refl _ w).alloc (Nat.le_refl _) _
  have Hal : Hid _ := hal
  have HQ0 : Hid _ := World.alloc_heap_new w (.cells #[.int .u8 5, .int .i64 n, S t, .slice rk s.len ck, .bool d] 58)
  have hmm := hm
  unfold maxLen at hmm
  obtain ⟨b, o, hab, hRd⟩ := hR
  have HRd : Hid (Rd w b o s) := hRd
  have Hra : Hid (s.len ≠ 0 → rk = some ⟨b, o, none⟩) := fun h => hab.resolve_left h
  clear h hRd hab hal
  go_enter Tryz.func48, Tryz.ntmps48
  go_wp2
  go_loopw [3, 4] (fun nv i wr => ∃ (j c : Nat) (fi : Fo), nv = .int .i64 c ∧ i = .int .i64 j ∧ fi.len + j = s.len ∧ fi.size ≤ s.size ∧ c ≤ s.size ∧ max c (dpO fi) = dpO s ∧ Hid (Rd w b (o + j * 5) fi) ∧ Hid (Below w.heap.size w wr) ∧ Hid (wr.heap[w.heap.size]? = some (.cells #[.int .u8 5, .int .i64 n, S t, .slice rk s.len ck, .bool d] 58 (0, 0)))) (fun _ i _ => s.len - (intOf i).toNat)
  case atStart => exact ⟨0, 0, s, rfl, rfl, by simp, Nat.le_refl _, Nat.zero_le _, by simp, by simpa using HRd, Hal, HQ0⟩
  case round =>
    obtain ⟨j, c, fi, rfl, rfl, hj, hsz, hc0, hmax, HF, HBj, HQj⟩ := hrel
    have Hmax : Hid (max c (dpO fi) = dpO s) := hmax
    clear hmax
    obtain ⟨z0, z1, z2, z3, z4, _⟩ := cells5 HQj.out
    have hws : w.heap.size < wr.heap.size := (Array.getElem?_eq_some_iff.1 HQj.out).1
    cases fi with
    | nil =>
      have hj' : j = s.len := by simpa [Fo.len] using hj
      have HJ : Hid _ := hj'
      have hjl : ¬ ((j : Int) < (s.len : Int)) := by omega
      have hc : Hid (c = dpO s) := by show _ = _; have := Hmax.out; simp only [dpO] at this; omega
      clear hj hj' hsz
      go_wp2
      go_ret
      exact ⟨by rw [← hc.out]; rfl, HBj.out⟩
    | cons k' n' t' s' d' r' =>
      simp only [Fo.len] at hj
      simp only [Fo.size] at hsz
      have i1 : (j : Int) < (s.len : Int) := by omega
      obtain ⟨⟨g0, g1, g2, g3, g4, g5⟩, ⟨rk', ck', bk', ok', gk, gz, gs⟩, gr⟩ := HF.out
      have ec : ∀ o, wr.cell? ⟨b, o, none⟩ = w.cell? ⟨b, o, none⟩ := fun o => HBj.out.cell (p := ⟨b, o, none⟩) g0
      have h1 := (ec _).trans g1
      have h2 := (ec _).trans g2
      have h3 := (ec _).trans g3
      have h4 := (ec _).trans g4
      have hk := (ec _).trans gk
      have h0 : b < wr.heap.size := Nat.lt_of_lt_of_le g0 HBj.out.size
      have HRk : Hid (RS w rk' s') := ⟨bk', ok', gz, gs⟩
      have Hr : Hid _ := gr
      have hjs : j < s.len := by omega
      have hra := Hra.out (by omega)
      subst hra
      have hdp := dpO_le s'
      clear ec g1 g2 g3 g4 gk gz gs gr
      go_wp2_with fail
      refine (HC.out s'.size (by omega) k' n' t' s' d' rk' ck' wr (Nat.le_refl _) (by omega) g5 (HRk.out.below HBj.out)).mono ?_
      obtain ⟨D, hD⟩ : ∃ D : Nat, (if k' = 5 then dpO s' + 1 else 0) = D := ⟨_, rfl⟩
      have hDs : D ≤ s.size := by rw [← hD]; split <;> omega
      rw [hD]
      rintro e w2 ⟨rfl, hb2⟩
      have Hmx : Hid (max (max c D) (dpO r') = dpO s) := by show _ = _; have := Hmax.out; simp only [dpO] at this; rw [hD] at this; omega
      clear hD
      have HB2 : Hid (Below w.heap.size w w2) := HBj.out.trans (hb2.mono HBj.out.size)
      have HQ2 : Hid _ := (hb2.block _ hws).trans HQj.out
      clear hb2 h1 h2 h3 h4 hk z0 z1 z2 z3 z4
      go_wp2
      go_roundw
      case rel => exact ⟨j + 1, max c D, r', by go_num, by go_num, by omega, by omega, by omega, Hmx.out, by rw [show o + (j + 1) * 5 = o + j * 5 + 5 by omega]; exact Hr, HB2, HQ2⟩
      case measure => simp [intOf]; omega

set_option maxRecDepth 100000 in
set_option maxHeartbeats 4000000 in
theorem deep_leaf (k n : Int) (t : List UInt8) (s : Fo) (d : Bool) (rk : Option Addr) (ck : Nat) (w : World) (hk : k ≠ 5) :
    Calls Tryz.prog 48 #[.agg #[.int .u8 k, .int .i64 n, S t, .slice rk s.len ck, .bool d]] w fun e w' => e = .returned (.int .i64 0) ∧ Below w.heap.size w w' := by
  have hal : Below w.heap.size w (w.alloc (.cells #[.int .u8 k, .int .i64 n, S t, .slice rk s.len ck, .bool d] 58)) := (Below.refl _ w).alloc (Nat.le_refl _) _
  have Hal : Hid _ := hal
  have b5 : (k == 5) = false := beq_eq_false_iff_ne.2 hk
  have b5' : (k != 5) = true := by simp [bne, b5]
  clear hal hk
  go_enter Tryz.func48, Tryz.ntmps48
  go_wp2
  go_ret
  exact ⟨rfl, Hal.out⟩
theorem deep_all : ∀ N, DeepC N := fun N => by
  induction N using Nat.strongRecOn with
  | _ N ih =>
    intro k n t s d rk ck w hN hb hm hR
    by_cases hk : k = 5
    · subst hk
      rw [if_pos rfl]
      exact deep_list ih n t s d rk ck w hN hb hm hR
    · rw [if_neg hk]
      exact deep_leaf k n t s d rk ck w hk
end Go.Proofs.YtlpdfifjdlfpdaaGreatDoor
