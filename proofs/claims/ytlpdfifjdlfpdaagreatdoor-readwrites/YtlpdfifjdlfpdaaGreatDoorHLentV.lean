/- LentData. -/
import Derived.Test.YtlpdfifjdlfpdaaGreatDoorHLentW
namespace Go.Proofs.YtlpdfifjdlfpdaaGreatDoor
open Go.RowKit

theorem grown_kept {w w' : World} {row : Nat} (h : w.grownBy w' (some row)) : ∀ g, row + 1 ≤ g → g < w.heap.size → w'.heap[g]? = w.heap[g]? := fun g h1 h2 => h.block g h2 (fun e => by cases e; omega)
theorem grown_below {w w' : World} {row B : Nat} (h : w.grownBy w' (some row)) (hB : B ≤ row) (hs : B ≤ w.heap.size) : Below B w w' := (Below.refl B w).grown h hs (fun k hk => by cases hk; exact hB)

set_option maxRecDepth 100000 in
set_option maxHeartbeats 4000000 in
theorem lent_of {N : Nat} (h : ∀ M, M < N → LentD M) : LentC N := by
  intro f ra ca w hN hb hm hR
  obtain ⟨i0, hi0, hz0, hz1, hz2⟩ := info_parts infoDat
  obtain ⟨b, o, hab, hRd⟩ := hR
  have HS : Hid (∀ M, M < N → LentD M) := h
  have HRd : Hid (Rd w b o f) := hRd
  have Hra : Hid (f.len ≠ 0 → ra = some ⟨b, o, none⟩) := fun h => hab.resolve_left h
  clear h hRd hab
  go_enter Tryz.func13, Tryz.ntmps13
  go_wp2_with (at_make; refine wpList_make_own _ rfl _ _ 23 rfl w.heap.size 58 i0 (.agg #[.int .u8 0, .int .i64 0, .string ⟨#[]⟩, .slice none 0 0, .bool false]) 5 Tryz.underlying23 hi0 hz0 hz1 .i64 .i64 _ (f.len + 1) rfl rfl (by first | rfl | omega) (by rw [hz2]; omega) (by unfold maxLen; omega) (Nat.le_refl _) ?_; intro w0 hown0 hgrow0)
  have HB0 : Hid (Below w.heap.size w w0) := (Below.refl _ w).grown hgrow0 (Nat.le_refl _) (fun k hk => by cases hk)
  have HO0 : Hid _ := hown0
  clear hown0 hgrow0
  go_loopw [3, 4] (fun x i wr => ∃ (j : Nat) (q fi : Fo) (cs : List Value), x = .slice (some ⟨w.heap.size, 0, none⟩) j (f.len + 1) ∧ i = .int .i64 j ∧ fi.len + j = f.len ∧ fi.size ≤ f.size ∧ Hid (q.app fi = f) ∧ Hid (q.len = j) ∧ Hid (Rd w b (o + j * 5) fi) ∧ Hid (wr.ownsRow w.heap.size 58 5 (.slice (some ⟨w.heap.size, 0, none⟩) j (f.len + 1)) j cs) ∧ Hid (CL wr (w.heap.size + 1) q cs) ∧ Hid (Below w.heap.size w wr)) (fun _ i _ => f.len - (intOf i).toNat)
  case atStart => exact ⟨0, .nil, f, [], rfl, rfl, by simp, Nat.le_refl _, rfl, rfl, by simpa using HRd, HO0, rfl, HB0⟩
  case round =>
    obtain ⟨j, q, fi, cs, rfl, rfl, hj, hsz, HQ, HL, HF, HO, HC, HBj⟩ := hrel
    have lt0 := (HO.out.lt w.heap.size rfl).2
    cases fi with
    | nil =>
      have hj' : j = f.len := by simpa [Fo.len] using hj
      subst hj'
      have hjl : ¬ ((f.len : Int) < (f.len : Int)) := by omega
      have hq : q = f := by have := HQ.out; rwa [Fo.app_nil] at this
      have Hq : Hid _ := hq
      clear hj hq
      go_wp2_with (at_builtin; refine stop_of ?_)
      unfold Hid
      refine wpList_append_fits _ rfl _ _ 23 rfl w.heap.size 58 i0 5 Tryz.underlying23 hi0 hz1 w.heap.size f.len (f.len + 1) cs rfl (HO.out.alloc _) ⟨_, 0, none⟩ 1 1 [.int .u8 0, .int .i64 (-77), S [], .slice none 0 0, .bool false] rfl rfl (cell_five_at _ _ (by simp) _ _ _ _ _ _) (five_one _ _ _ _ _ _ _) (Nat.le_refl _) ?_
      intro w2 hown2 hgr2
      have HB2 : Hid (Below w.heap.size w w2) := HBj.out.trans (((Below.refl _ wr).alloc (Nat.le_of_lt lt0) _).trans (grown_below hgr2 (Nat.le_refl _) (by simp; omega)))
      have HLn : Hid (Lent w2 w.heap.size (.slice (some ⟨w.heap.size, 0, none⟩) f.len (f.len + 1)) f) := by
        refine ⟨w.heap.size, cs, rfl, hown2, ?_⟩
        have hc := HC.out
        rw [Hq.out] at hc
        refine ((hc.kept fun g h1 h2 => ?_).mono (Nat.le_succ _))
        rw [grown_kept hgr2 g h1 (by simp; omega)]
        exact Below.heap_alloc _ _ _ h2
      clear hown2 hgr2
      go_wp2
      go_ret
      exact ⟨_, rfl, HLn.out, HB2.out⟩
    | cons k n t s d r =>
      simp only [Fo.len] at hj
      simp only [Fo.size] at hsz
      have i1 : (j : Int) < (f.len : Int) := by omega
      obtain ⟨⟨g0, g1, g2, g3, g4, g5⟩, ⟨rk, ck, bk, ok, gk, gz, gs⟩, gr⟩ := HF.out
      have ec : ∀ o, wr.cell? ⟨b, o, none⟩ = w.cell? ⟨b, o, none⟩ := fun o => HBj.out.cell (p := ⟨b, o, none⟩) g0
      have h1 := (ec _).trans g1
      have h2 := (ec _).trans g2
      have h3 := (ec _).trans g3
      have h4 := (ec _).trans g4
      have hk := (ec _).trans gk
      have h0 : b < wr.heap.size := Nat.lt_of_lt_of_le g0 HBj.out.size
      have HRk : Hid (RS w rk s) := ⟨bk, ok, gz, gs⟩
      have Hr : Hid _ := gr
      have hra := Hra.out (by omega)
      have hls := Fo.len_size s
      subst hra
      clear ec g1 g2 g3 g4 gk gz gs gr
      go_wp2_with fail
      refine (HS.out s.size (by omega) k n t s d rk ck wr (Nat.le_refl _) (by omega) (by omega) (HRk.out.below HBj.out)).mono ?_
      rintro e w1 ⟨v, rfl, hL1, hb1⟩
      obtain ⟨g', kcs, rfl, hok, hck⟩ := hL1
      have HB1 : Hid (Below w.heap.size w w1) := HBj.out.trans (hb1.mono HBj.out.size)
      have HO1 : Hid (w1.ownsRow w.heap.size 58 5 (.slice (some ⟨w.heap.size, 0, none⟩) j (f.len + 1)) j cs) := own_same HO.out (fun g hg => hb1.block g (HO.out.lt g hg).2)
      have HC1 : Hid (CL w1 (w.heap.size + 1) (q.app (.cons k n t s d .nil)) (cs ++ [.int .u8 k, .int .i64 n, S t, .slice (some ⟨g', 0, none⟩) s.len (s.len + 1), .bool d])) :=
        (HC.out.kept fun g _ h2 => hb1.block g h2).app ⟨g', kcs, [], rfl, own_mono hok lt0, hck.mono lt0, rfl⟩
      have l1 := Nat.lt_of_lt_of_le lt0 hb1.size
      clear hb1 h1 h2 h3 h4 hk hok hck
      go_wp2_with (at_builtin; refine stop_of ?_)
      unfold Hid
      refine wpList_append_fits _ rfl _ _ 23 rfl w.heap.size 58 i0 5 Tryz.underlying23 hi0 hz1 w.heap.size j (f.len + 1) cs rfl (HO1.out.alloc _) ⟨_, 0, none⟩ 1 1 [.int .u8 k, .int .i64 n, S t, .slice (some ⟨g', 0, none⟩) s.len (s.len + 1), .bool d] rfl rfl (cell_five_at _ _ (by simp) _ _ _ _ _ _) (five_one _ _ _ _ _ _ _) (by omega) ?_
      intro w2 hown2 hgr2
      have HB2 : Hid (Below w.heap.size w w2) := HB1.out.trans (((Below.refl _ w1).alloc (Nat.le_of_lt l1) _).trans (grown_below hgr2 (Nat.le_refl _) (by simp; omega)))
      have HC2 : Hid (CL w2 (w.heap.size + 1) (q.app (.cons k n t s d .nil)) (cs ++ [.int .u8 k, .int .i64 n, S t, .slice (some ⟨g', 0, none⟩) s.len (s.len + 1), .bool d])) :=
        HC1.out.kept fun g h1 h2 => (grown_kept hgr2 g h1 (by simp; omega)).trans (Below.heap_alloc _ _ _ h2)
      have HO2 : Hid _ := hown2
      clear hown2 hgr2
      go_wp2_with fail
      go_roundw
      case rel => exact ⟨j + 1, q.app (.cons k n t s d .nil), r, _, rfl, by go_num, by omega, by omega, by show _ = _; rw [Fo.app_assoc]; exact HQ.out, by show _ = _; rw [Fo.len_app, HL.out]; rfl, by rw [show o + (j + 1) * 5 = o + j * 5 + 5 by omega]; exact Hr, HO2, HC2, HB2⟩
      case measure => simp [intOf]; omega
theorem lent_all : ∀ N, LentC N := fun N => by
  induction N using Nat.strongRecOn with
  | _ N ih => exact lent_of (fun M hM => lentD_of (ih M hM))
end Go.Proofs.YtlpdfifjdlfpdaaGreatDoor
