/- The document's may of lists. -/
import Derived.Test.YtlpdfifjdlfpdaaGreatDoorHRefMay2
namespace Go.Proofs.YtlpdfifjdlfpdaaGreatDoor
open Go.RowKit

set_option maxRecDepth 100000 in
set_option maxHeartbeats 4000000 in
theorem may_list {N : Nat} (h : ∀ M, M < N → MayC M) (s : Fo) (d : Bool) (rk : Option Addr) (ck : Nat) (w : World) (hN : s.size ≤ N) (hm : s.len ≤ maxLen) (htx : s.tx) (hR : RS w rk s) :
    Calls Tryz.prog 47 #[.agg #[.int .u8 5, .int .i64 0, S [], .slice rk s.len ck, .bool d]] w fun e w' => e = .returned (.bool ((!d || hasT s) && allD s)) ∧ Below w.heap.size w w' := by
  have HC : Hid (∀ M, M < N → MayC M) := h
  have hal : Below w.heap.size w (w.alloc (.cells #[.int .u8 5, .int .i64 0, S [], .slice rk s.len ck, .bool d] 58)) := (Below.refl _ w).alloc (Nat.le_refl _) _
  have Hal : Hid _ := hal
  have HQ0 : Hid _ := World.alloc_heap_new w (.cells #[.int .u8 5, .int .i64 0, S [], .slice rk s.len ck, .bool d] 58)
  have Htx : Hid s.tx := htx
  have hmm := hm
  unfold maxLen at hmm
  obtain ⟨b, o, hab, hRd⟩ := hR
  have HRd : Hid (Rd w b o s) := hRd
  have Hra : Hid (s.len ≠ 0 → rk = some ⟨b, o, none⟩) := fun h => hab.resolve_left h
  clear h hRd hab hal htx hm
  go_enter Tryz.func47, Tryz.ntmps47
  go_wp2
  go_loopw [3, 4] (fun i q wr => ∃ (j : Nat) (fi : Fo), i = .int .i64 j ∧ fi.len + j = s.len ∧ fi.size ≤ s.size ∧ Hid fi.tx ∧ Hid (Rd w b (o + j * 5) fi) ∧ Hid (allD s = allD fi) ∧ Hid (Below w.heap.size w wr) ∧ Hid (wr.heap[w.heap.size]? = some (.cells #[.int .u8 5, .int .i64 0, S [], .slice rk s.len ck, .bool d] 58 (0, 0)))) (fun i _ _ => s.len - (intOf i).toNat)
  case atStart => exact ⟨0, s, rfl, by simp, Nat.le_refl _, Htx, by simpa using HRd, rfl, Hal, HQ0⟩
  case round =>
    obtain ⟨j, fi, rfl, hj, hsz, HT, HF, HA, HBj, HQj⟩ := hrel
    obtain ⟨z0, z1, z2, z3, z4, _⟩ := cells5 HQj.out
    have hws : w.heap.size < wr.heap.size := (Array.getElem?_eq_some_iff.1 HQj.out).1
    cases fi with
    | nil =>
      have hj' : j = s.len := by simpa [Fo.len] using hj
      have HJ : Hid _ := hj'
      have hjl : ¬ ((j : Int) < (s.len : Int)) := by omega
      have HA1 : Hid (allD s = true) := HA.out
      clear hj hj' hsz
      cases d with
      | false =>
        go_wp2
        go_ret
        exact ⟨by rw [HA1.out]; rfl, HBj.out⟩
      | true =>
        by_cases h2 : 2 ≤ s.len
        · have d2 : decide (2 ≤ s.len) = true := decide_eq_true h2
          obtain ⟨m, hfm⟩ : ∃ m, s.len = m + 1 := ⟨s.len - 1, by omega⟩
          have hb : b < w.heap.size := by
            cases s with
            | nil => simp [Fo.len] at h2
            | cons k1 n1 t1 s1 d1 r1 => exact HRd.out.1.1
          have hl := (HBj.out.cell (p := ⟨b, o + m * 5, none⟩) hb).trans (HRd.out.last 0 hfm)
          have hbr : b < wr.heap.size := Nat.lt_of_lt_of_le hb HBj.out.size
          have hra := Hra.out (by omega)
          subst hra
          obtain ⟨z, hzk⟩ : ∃ z, lastK 0 s = z := ⟨_, rfl⟩
          rw [hzk] at hl
          have HV : Hid ((hasT s && allD s) = (z != 5)) := by
            show _ = _
            rw [HA1.out]; unfold hasT; rw [d2, hzk]; simp
          rw [hfm] at z3 hjl h2 hmm
          have i1 : (m : Int) < (m : Int) + 1 := by omega
          have i2 : (2 : Int) ≤ (m : Int) + 1 := by omega
          clear hfm hzk d2
          go_wp2
          go_ret
          exact ⟨by rw [HV.out]; rfl, HBj.out⟩
        · have HV : Hid ((hasT s && allD s) = false) := by
            show _ = _
            unfold hasT; rw [decide_eq_false h2]; rfl
          have i2 : ¬ (2 : Int) ≤ (s.len : Int) := by omega
          go_wp2
          go_ret
          exact ⟨by rw [HV.out]; rfl, HBj.out⟩
    | cons k' n' t' s' d' r' =>
      simp only [Fo.len] at hj
      simp only [Fo.size] at hsz
      have i1 : (j : Int) < (s.len : Int) := by omega
      obtain ⟨⟨g0, g1, g2, g3, g4, g5⟩, ⟨rk', ck', bk', ok', gk, gz, gs⟩, gr⟩ := HF.out
      have ec : ∀ o, wr.cell? ⟨b, o, none⟩ = w.cell? ⟨b, o, none⟩ := fun o => HBj.out.cell (p := ⟨b, o, none⟩) g0
      have h1 := (ec _).trans g1
      have h2 := (ec _).trans g2
      have h3 := (ec _).trans g3
      have h4 := (ec _).trans g4
      have hk := (ec _).trans gk
      have h0 : b < wr.heap.size := Nat.lt_of_lt_of_le g0 HBj.out.size
      have HRk : Hid (RS w rk' s') := ⟨bk', ok', gz, gs⟩
      have Hr : Hid _ := gr
      have hjs : j < s.len := by omega
      have hra := Hra.out (by omega)
      subst hra
      clear ec g1 g2 g3 g4 gk gz gs gr
      go_wp2_with fail
      refine (HC.out s'.size (by omega) k' n' t' s' d' rk' ck' wr (Nat.le_refl _) g5 HT.out.1 HT.out.2.1 (HRk.out.below HBj.out)).mono ?_
      rintro e w2 ⟨rfl, hb2⟩
      have HB2 : Hid (Below w.heap.size w w2) := HBj.out.trans (hb2.mono HBj.out.size)
      have HQ2 : Hid _ := (hb2.block _ hws).trans HQj.out
      clear hb2 h1 h2 h3 h4 hk z0 z1 z2 z3 z4
      cases hv : (isDat k' n' t' s' d' && allD s')
      · have HV : Hid (allD s = false) := by
          show _ = _
          rw [HA.out, allD, ← Bool.and_assoc, hv]; rfl
        clear hv
        go_wp2
        go_ret
        exact ⟨by rw [HV.out, Bool.and_false]; rfl, HB2.out⟩
      · have HV : Hid (allD s = allD r') := by
          show _ = _
          rw [HA.out, allD, ← Bool.and_assoc, hv]; rfl
        clear hv
        go_wp2
        go_roundw
        case rel => exact ⟨j + 1, r', by go_num, by omega, by omega, HT.out.2.2, by rw [show o + (j + 1) * 5 = o + j * 5 + 5 by omega]; exact Hr, HV, HB2, HQ2⟩
        case measure => simp [intOf]; omega
theorem may_all : ∀ N, MayC N := fun N => by
  induction N using Nat.strongRecOn with
  | _ N ih =>
    intro k n t s d rk ck w hN hm ht htx hR
    by_cases h5 : k = 5
    · subst h5
      by_cases hn : n = 0
      · subst hn
        by_cases h0 : t = []
        · subst h0
          have e : isDat 5 0 [] s d = (!d || hasT s) := by simp [isDat]
          rw [e]
          exact may_list ih s d rk ck w hN hm htx hR
        · have e : isDat 5 0 t s d = false := by simp [isDat, h0]
          rw [e]
          exact may_bad5 0 t s.len hm d rk ck w (.inr ⟨rfl, h0⟩)
      · have e : isDat 5 n t s d = false := by simp [isDat, hn]
        rw [e]
        exact may_bad5 n t s.len hm d rk ck w (.inl (by simpa using hn))
    · cases s with
      | cons k1 n1 t1 s1 d1 r =>
        rw [isDat_more h5]
        exact may_kids k n t r.len hm d rk ck w h5
      | nil =>
        cases d with
        | true =>
          have e : isDat k n t .nil true = false := by
            cases hi : isDat k n t .nil true with
            | false => rfl
            | true =>
              rcases isDat_kind hi with rfl | rfl | rfl | rfl | rfl
              · exact absurd (isDat_num hi).2.2.2 (by simp)
              · exact absurd (isDat_sym hi).2.2.2 (by simp)
              · exact absurd (isDat_lf (.inl rfl) hi).2.2.2 (by simp)
              · exact absurd (isDat_lf (.inr rfl) hi).2.2.2 (by simp)
              · exact absurd rfl h5
          rw [e]
          exact may_dot k n t rk ck w h5
        | false =>
          rw [show (isDat k n t .nil false && allD .nil) = isDat k n t .nil false by simp [allD]]
          by_cases h1 : k = 1
          · subst h1; exact may_num n t rk ck w
          by_cases h2 : k = 2
          · subst h2; exact may_sym n t ht rk ck w
          by_cases h3 : k = 3
          · subst h3; exact may_lf 3 n t (.inl rfl) rk ck w
          by_cases h4 : k = 4
          · subst h4; exact may_lf 4 n t (.inr rfl) rk ck w
          have e : isDat k n t .nil false = false := by simp [isDat, h1, h2, h3, h4, h5]
          rw [e]
          exact may_none k n t h1 h2 h3 h4 h5 rk ck w
end Go.Proofs.YtlpdfifjdlfpdaaGreatDoor
