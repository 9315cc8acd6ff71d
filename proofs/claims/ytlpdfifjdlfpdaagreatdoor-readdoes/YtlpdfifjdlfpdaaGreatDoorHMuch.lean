/- much: are data more than there is room for? -/
import Derived.Test.YtlpdfifjdlfpdaaGreatDoorHDataOf
namespace Go.Proofs.YtlpdfifjdlfpdaaGreatDoor
open Go.RowKit

/-- What a row of data leaves of a room. -/
def leftO : Fo → Int → Nat → Int
  | .nil, room, _ => room
  | .cons _ _ t s _ r, room, L => if room < 0 then room else leftO r (if 5000 < L then -1 else leftO s (room - 1 - t.length) (L + 1)) L
def leftD (t : List UInt8) (s : Fo) (room : Int) (L : Nat) : Int := if 5000 < L then -1 else leftO s (room - 1 - t.length) (L + 1)
theorem leftO_neg (f : Fo) (room : Int) (L : Nat) (h : room < 0) : leftO f room L = room := by
  cases f with
  | nil => rfl
  | cons k n t s d r => simp only [leftO, if_pos h]
theorem leftO_le : ∀ (f : Fo) (room : Int) (L : Nat), -1 ≤ room → leftO f room L ≤ room
  | .nil, room, L, _ => Int.le_refl _
  | .cons k n t s d r, room, L, h => by
    simp only [leftO]
    split
    · omega
    · rename_i h0
      by_cases hL : 5000 < L
      · rw [if_pos hL, leftO_neg _ _ _ (by omega)]; omega
      · rw [if_neg hL]
        have key : leftO s (room - 1 - t.length) (L + 1) ≤ room - 1 - t.length := by
          by_cases hn : room - 1 - (t.length : Int) < 0
          · rw [leftO_neg _ _ _ hn]; exact Int.le_refl _
          · exact leftO_le s _ _ (by omega)
        by_cases hn : leftO s (room - 1 - t.length) (L + 1) < 0
        · rw [leftO_neg _ _ _ hn]; omega
        · have := leftO_le r (leftO s (room - 1 - t.length) (L + 1)) L (by omega)
          omega
theorem leftO_ge : ∀ (f : Fo) (room : Int) (L : Nat), f.st → -9223372036854775808 ≤ room → -9223372036854775808 ≤ leftO f room L
  | .nil, room, L, _, h => h
  | .cons k n t s d r, room, L, ⟨h1, h2, h3⟩, h => by
    simp only [leftO]
    split
    · exact h
    · rename_i h0
      have ht : (t.length : Int) ≤ 9223372036854775807 := by unfold maxLen at h1; omega
      refine leftO_ge r _ L h3 ?_
      split
      · omega
      · exact leftO_ge s _ _ h2 (by omega)
/-- What is left counts what there is. -/
theorem leftO_size : ∀ (f : Fo) (room : Int) (L : Nat), 0 ≤ leftO f room L → (f.size : Int) ≤ room - leftO f room L ∧ (room ≤ 281474976710656 → f.tx)
  | .nil, room, L, _ => ⟨by simp [Fo.size, leftO], fun _ => trivial⟩
  | .cons k n t s d r, room, L, h => by
    simp only [leftO] at h ⊢
    by_cases h0 : room < 0
    · rw [if_pos h0] at h; omega
    rw [if_neg h0] at h ⊢
    by_cases hL : 5000 < L
    · rw [if_pos hL, leftO_neg _ _ _ (by omega)] at h; omega
    rw [if_neg hL] at h ⊢
    have hs : 0 ≤ leftO s (room - 1 - t.length) (L + 1) := by
      rcases Int.lt_or_le (leftO s (room - 1 - t.length) (L + 1)) 0 with hn | hn
      · rw [leftO_neg _ _ _ hn] at h; exact h
      · exact hn
    obtain ⟨a1, a2⟩ := leftO_size s _ _ hs
    obtain ⟨b1, b2⟩ := leftO_size r _ _ h
    refine ⟨by simp only [Fo.size]; omega, fun hr => ⟨by omega, a2 (by omega), b2 (by omega)⟩⟩
def muchB (f : Fo) : Bool := decide (leftO f 200000 0 < 0)
theorem much_fits {f : Fo} (h : muchB f = false) : f.size ≤ 200000 ∧ f.tx := by
  unfold muchB at h
  rw [decide_eq_false_iff_not] at h
  obtain ⟨h1, h2⟩ := leftO_size f 200000 0 (by omega)
  exact ⟨by omega, h2 (by omega)⟩

def LeftC (N : Nat) : Prop := ∀ (k n : Int) (t : List UInt8) (s : Fo) (d : Bool) (rk : Option Addr) (ck L : Nat) (room : Int) (w : World), s.size ≤ N → s.len ≤ maxLen → t.length ≤ maxLen → s.st → RS w rk s → 0 ≤ room → room ≤ 200000 → L ≤ 5001 →
  Calls Tryz.prog 46 #[.agg #[.int .u8 k, .int .i64 n, S t, .slice rk s.len ck, .bool d], .int .i64 room, .int .i64 L] w fun e w' => e = .returned (.int .i64 (leftD t s room L)) ∧ Below w.heap.size w w'

set_option maxRecDepth 100000 in
set_option maxHeartbeats 4000000 in
theorem left_of {N : Nat} (h : ∀ M, M < N → LeftC M) : LeftC N := by
  intro k n t s d rk ck L room w hN hm ht hst hR hr0 hr1 hL
  have HC : Hid (∀ M, M < N → LeftC M) := h
  have HR : Hid (RS w rk s) := hR
  have HS : Hid (s.st) := hst
  have hal : Below w.heap.size w (w.alloc (.cells #[.int .u8 k, .int .i64 n, S t, .slice rk s.len ck, .bool d] 58)) := (Below.refl _ w).alloc (Nat.le_refl _) _
  have Hal : Hid _ := hal
  have HQ0 : Hid _ := World.alloc_heap_new w (.cells #[.int .u8 k, .int .i64 n, S t, .slice rk s.len ck, .bool d] 58)
  have htl : (t.length : Int) ≤ 9223372036854775807 := by unfold maxLen at ht; omega
  have hmm := hm
  unfold maxLen at hmm
  clear h hR hst hal
  unfold leftD
  by_cases h5 : 5000 < L
  · rw [if_pos h5]
    have h5' : (5000 : Int) < (L : Int) := by omega
    go_enter Tryz.func46, Tryz.ntmps46
    go_wp2
    go_ret
    exact ⟨rfl, Hal.out⟩
  · rw [if_neg h5]
    have h5' : ¬ (5000 : Int) < (L : Int) := by omega
    obtain ⟨b, o, hab, hRd⟩ := HR.out
    have HRd : Hid (Rd w b o s) := hRd
    have Hra : Hid (s.len ≠ 0 → rk = some ⟨b, o, none⟩) := fun h => hab.resolve_left h
    clear hRd hab
    go_enter Tryz.func46, Tryz.ntmps46
    go_wp2
    go_loopw [1, 7] (fun rv i wr => ∃ (j : Nat) (rm : Int) (fi : Fo), rv = .int .i64 rm ∧ i = .int .i64 j ∧ fi.len + j = s.len ∧ fi.size ≤ s.size ∧ rm ≤ 200000 ∧ Hid fi.st ∧ Hid (Rd w b (o + j * 5) fi) ∧ Hid (Below w.heap.size w wr) ∧ Hid (wr.heap[w.heap.size]? = some (.cells #[.int .u8 k, .int .i64 n, S t, .slice rk s.len ck, .bool d] 58 (0, 0))) ∧ Hid (leftO s (room - 1 - t.length) (L + 1) = leftO fi rm (L + 1))) (fun _ i _ => s.len - (intOf i).toNat)
    case atStart => exact ⟨0, _, s, rfl, rfl, by simp, Nat.le_refl _, by omega, HS, by simpa using HRd, Hal, HQ0, rfl⟩
    case round =>
      obtain ⟨j, rm, fi, rfl, rfl, hj, hsz, hrm, HSi, HF, HBj, HQj, HQ⟩ := hrel
      obtain ⟨z0, z1, z2, z3, z4, _⟩ := cells5 HQj.out
      have hws : w.heap.size < wr.heap.size := (Array.getElem?_eq_some_iff.1 HQj.out).1
      cases fi with
      | nil =>
        have hj' : j = s.len := by simpa [Fo.len] using hj
        have HJ : Hid _ := hj'
        have hjl : ¬ ((j : Int) < (s.len : Int)) := by omega
        clear hj hj'
        go_wp2
        go_ret
        exact ⟨by rw [HQ.out]; rfl, HBj.out⟩
      | cons k' n' t' s' d' r' =>
        simp only [Fo.len] at hj
        simp only [Fo.size] at hsz
        have i1 : (j : Int) < (s.len : Int) := by omega
        by_cases hn : rm < 0
        · have hn' : ¬ (0 ≤ rm) := by omega
          have HQ2 : Hid (leftO s (room - 1 - t.length) (L + 1) = rm) := by show _ = _; rw [HQ.out, leftO_neg _ _ _ hn]
          clear HQ
          go_wp2
          go_ret
          exact ⟨by rw [HQ2.out]; rfl, HBj.out⟩
        · have hn' : 0 ≤ rm := by omega
          obtain ⟨⟨g0, g1, g2, g3, g4, g5⟩, ⟨rk', ck', bk', ok', gk, gz, gs⟩, gr⟩ := HF.out
          have ec : ∀ o, wr.cell? ⟨b, o, none⟩ = w.cell? ⟨b, o, none⟩ := fun o => HBj.out.cell (p := ⟨b, o, none⟩) g0
          have h1 := (ec _).trans g1
          have h2 := (ec _).trans g2
          have h3 := (ec _).trans g3
          have h4 := (ec _).trans g4
          have hk := (ec _).trans gk
          have h0 : b < wr.heap.size := Nat.lt_of_lt_of_le g0 HBj.out.size
          have HRk : Hid (RS w rk' s') := ⟨bk', ok', gz, gs⟩
          have Hr : Hid _ := gr
          have hjs : j < s.len := by omega
          have hra := Hra.out (by omega)
          subst hra
          obtain ⟨st1, st2, st3⟩ := HSi.out
          have Hst2 : Hid s'.st := st2
          have Hst3 : Hid r'.st := st3
          clear ec g1 g2 g3 g4 gk gz gs gr st2 st3 HSi hn
          go_wp2_with fail
          have hcall := HC.out s'.size (by omega) k' n' t' s' d' rk' ck' (L + 1) rm wr (Nat.le_refl _) g5 st1 Hst2.out (HRk.out.below HBj.out) hn' hrm (by omega)
          rw [show ((L + 1 : Nat) : Int) = (L : Int) + 1 by omega] at hcall
          refine hcall.mono ?_
          rintro e w2 ⟨rfl, hb2⟩
          have HB2 : Hid (Below w.heap.size w w2) := HBj.out.trans (hb2.mono HBj.out.size)
          have HQ2 : Hid _ := (hb2.block _ hws).trans HQj.out
          have hle : leftD t' s' rm (L + 1) ≤ 200000 := by
            unfold leftD
            split
            · omega
            · by_cases hx : rm - 1 - (t'.length : Int) < 0
              · rw [leftO_neg _ _ _ hx]; omega
              · have := leftO_le s' (rm - 1 - t'.length) (L + 1 + 1) (by omega); omega
          have HQ3 : Hid (leftO s (room - 1 - t.length) (L + 1) = leftO r' (leftD t' s' rm (L + 1)) (L + 1)) := by
            show _ = _
            rw [HQ.out]
            simp only [leftO, leftD]
            rw [if_neg (by omega)]
          clear hcall hb2 h1 h2 h3 h4 hk z0 z1 z2 z3 z4 HQ
          go_wp2
          go_roundw
          case rel => exact ⟨j + 1, _, r', rfl, by go_num, by omega, by omega, hle, Hst3, by rw [show o + (j + 1) * 5 = o + j * 5 + 5 by omega]; exact Hr, HB2, HQ2, HQ3⟩
          case measure => simp [intOf]; omega
theorem left_all : ∀ N, LeftC N := fun N => by
  induction N using Nat.strongRecOn with
  | _ N ih => exact left_of ih

set_option maxRecDepth 100000 in
set_option maxHeartbeats 4000000 in
theorem much_any (ra : Option Addr) (ca : Nat) (f : Fo) (w : World) (hm : f.len ≤ maxLen) (hst : f.st) (hR : RS w ra f) :
    Calls Tryz.prog 11 #[.slice ra f.len ca] w fun e w' => e = .returned (.bool (muchB f)) ∧ Below w.heap.size w w' := by
  have HS : Hid (f.st) := hst
  obtain ⟨b, o, hab, hRd⟩ := hR
  have HRd : Hid (Rd w b o f) := hRd
  have Hra : Hid (f.len ≠ 0 → ra = some ⟨b, o, none⟩) := fun h => hab.resolve_left h
  have hmm := hm
  unfold maxLen at hmm
  clear hRd hab hst
  go_enter Tryz.func11, Tryz.ntmps11
  go_wp2
  go_loopw [3, 4] (fun rv i wr => ∃ (j : Nat) (rm : Int) (fi : Fo), rv = .int .i64 rm ∧ i = .int .i64 j ∧ fi.len + j = f.len ∧ rm ≤ 200000 ∧ Hid fi.st ∧ Hid (Rd w b (o + j * 5) fi) ∧ Hid (Below w.heap.size w wr) ∧ Hid (leftO f 200000 0 = leftO fi rm 0)) (fun _ i _ => f.len - (intOf i).toNat)
  case atStart => exact ⟨0, _, f, rfl, rfl, by simp, by omega, HS, by simpa using HRd, Below.refl _ _, rfl⟩
  case round =>
    obtain ⟨j, rm, fi, rfl, rfl, hj, hrm, HSi, HF, HBj, HQ⟩ := hrel
    cases fi with
    | nil =>
      have hj' : j = f.len := by simpa [Fo.len] using hj
      have HJ : Hid _ := hj'
      have hjl : ¬ ((j : Int) < (f.len : Int)) := by omega
      have HM : Hid (muchB f = decide (rm < 0)) := by show _ = _; unfold muchB; rw [HQ.out]; rfl
      clear hj hj'
      go_wp2
      go_ret
      exact ⟨by rw [HM.out]; rfl, HBj.out⟩
    | cons k' n' t' s' d' r' =>
      simp only [Fo.len] at hj
      have i1 : (j : Int) < (f.len : Int) := by omega
      by_cases hn : rm < 0
      · have hn' : ¬ (0 ≤ rm) := by omega
        have HM : Hid (muchB f = decide (rm < 0)) := by show _ = _; unfold muchB; rw [HQ.out, leftO_neg _ _ _ hn]
        clear HQ
        go_wp2
        go_ret
        exact ⟨by rw [HM.out, decide_eq_true hn]; rfl, HBj.out⟩
      · have hn' : 0 ≤ rm := by omega
        obtain ⟨⟨g0, g1, g2, g3, g4, g5⟩, ⟨rk', ck', bk', ok', gk, gz, gs⟩, gr⟩ := HF.out
        have ec : ∀ o, wr.cell? ⟨b, o, none⟩ = w.cell? ⟨b, o, none⟩ := fun o => HBj.out.cell (p := ⟨b, o, none⟩) g0
        have h1 := (ec _).trans g1
        have h2 := (ec _).trans g2
        have h3 := (ec _).trans g3
        have h4 := (ec _).trans g4
        have hk := (ec _).trans gk
        have h0 : b < wr.heap.size := Nat.lt_of_lt_of_le g0 HBj.out.size
        have HRk : Hid (RS w rk' s') := ⟨bk', ok', gz, gs⟩
        have Hr : Hid _ := gr
        have hjs : j < f.len := by omega
        have hra := Hra.out (by omega)
        subst hra
        obtain ⟨st1, st2, st3⟩ := HSi.out
        have Hst2 : Hid s'.st := st2
        have Hst3 : Hid r'.st := st3
        clear ec g1 g2 g3 g4 gk gz gs gr st2 st3 HSi hn
        go_wp2_with fail
        refine (left_all s'.size k' n' t' s' d' rk' ck' 0 rm wr (Nat.le_refl _) g5 st1 Hst2.out (HRk.out.below HBj.out) hn' hrm (by omega)).mono ?_
        rintro e w2 ⟨rfl, hb2⟩
        have HB2 : Hid (Below w.heap.size w w2) := HBj.out.trans (hb2.mono HBj.out.size)
        have hle : leftD t' s' rm 0 ≤ 200000 := by
          unfold leftD
          rw [if_neg (by omega)]
          by_cases hx : rm - 1 - (t'.length : Int) < 0
          · rw [leftO_neg _ _ _ hx]; omega
          · have := leftO_le s' (rm - 1 - t'.length) (0 + 1) (by omega); omega
        have HQ3 : Hid (leftO f 200000 0 = leftO r' (leftD t' s' rm 0) 0) := by
          show _ = _
          rw [HQ.out]
          simp only [leftO, leftD]
          rw [if_neg (by omega)]
        clear hb2 h1 h2 h3 h4 hk HQ
        go_wp2
        go_roundw
        case rel => exact ⟨j + 1, _, r', rfl, by go_num, by omega, hle, Hst3, by rw [show o + (j + 1) * 5 = o + j * 5 + 5 by omega]; exact Hr, HB2, HQ3⟩
        case measure => simp [intOf]; omega
end Go.Proofs.YtlpdfifjdlfpdaaGreatDoor
