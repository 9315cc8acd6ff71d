/- WholeData, WholeDatum: what was lent, looked at. -/
import Derived.Test.YtlpdfifjdlfpdaaGreatDoorHLent
import Derived.Test.YtlpdfifjdlfpdaaGreatDoorHSameD
namespace Go.Proofs.YtlpdfifjdlfpdaaGreatDoor
open Go.RowKit

def WholeC (N : Nat) : Prop := ∀ (f : Fo) (g base : Nat) (ra : Option Addr) (ca : Nat) (w : World), f.size ≤ N → f.size ≤ 1000000 → Lent w base (.slice (some ⟨g, 0, none⟩) f.len (f.len + 1)) f → RS w ra f →
  Calls Tryz.prog 17 #[.slice (some ⟨g, 0, none⟩) f.len (f.len + 1), .slice ra f.len ca] w fun e w' => e = .returned (.bool true) ∧ Below w.heap.size w w'
def WholeD (N : Nat) : Prop := ∀ (k n : Int) (t : List UInt8) (s : Fo) (d : Bool) (g base : Nat) (rk : Option Addr) (ck : Nat) (w : World), s.size ≤ N → s.size ≤ 1000000 → Lent w base (.slice (some ⟨g, 0, none⟩) s.len (s.len + 1)) s → RS w rk s →
  Calls Tryz.prog 56 #[.agg #[.int .u8 k, .int .i64 n, S t, .slice (some ⟨g, 0, none⟩) s.len (s.len + 1), .bool d], .agg #[.int .u8 k, .int .i64 n, S t, .slice rk s.len ck, .bool d]] w fun e w' => e = .returned (.bool true) ∧ Below w.heap.size w w'

set_option maxRecDepth 100000 in
set_option maxHeartbeats 4000000 in
theorem wholeD_of {N : Nat} (h : WholeC N) : WholeD N := by
  intro k n t s d g base rk ck w hN hm hL hR
  have HE : Hid (WholeC N) := h
  have HL : Hid (Lent w base (.slice (some ⟨g, 0, none⟩) s.len (s.len + 1)) s) := hL
  have HR : Hid (RS w rk s) := hR
  clear h hL hR
  go_enter Tryz.func56, Tryz.ntmps56
  go_wp2_with fail
  refine (HE.out s g base rk ck _ hN hm (HL.out.below (((Below.refl _ w).alloc (Nat.le_refl _) _).alloc (by simp) _)) (HR.out.below (((Below.refl _ w).alloc (Nat.le_refl _) _).alloc (by simp) _))).mono ?_
  rintro e w1 ⟨rfl, hb1⟩
  go_wp2
  go_ret
  exact ⟨rfl, ((((Below.refl _ w).alloc (Nat.le_refl _) _).alloc (by simp) _)).trans (hb1.mono (by simp; omega))⟩

set_option maxRecDepth 100000 in
set_option maxHeartbeats 4000000 in
theorem whole_of {N : Nat} (h : ∀ M, M < N → WholeD M) : WholeC N := by
  intro f g base ra ca w hN hm hL hR
  have HS : Hid (∀ M, M < N → WholeD M) := h
  have hm1 := Fo.len_size f
  obtain ⟨s0, s1, s2, s3, s4⟩ := hL.sent
  obtain ⟨g', cs, hv, ho, hc⟩ := hL
  cases hv
  obtain ⟨_, hgl, _, hmx1⟩ := own_max ho
  have HX : Hid (∀ j u, cs[j]? = some u → w.cell? ⟨g, 0 * 5 + j, none⟩ = some u) := fun j u hj => by
    rw [Nat.zero_mul, Nat.zero_add]
    exact own_cell ho j u (by rw [List.getElem?_append_left (List.getElem?_eq_some_iff.1 hj).1]; exact hj)
  have HCL : Hid (CL w base f cs) := hc
  obtain ⟨b, o, hab, hRd⟩ := hR
  have HRd : Hid (Rd w b o f) := hRd
  have Hra : Hid (f.len ≠ 0 → ra = some ⟨b, o, none⟩) := fun h => hab.resolve_left h
  have i3 : (f.len : Int) < (f.len : Int) + 1 := by omega
  have i4 : (f.len : Int) + 1 ≤ ((f.len + 1 : Nat) : Int) := by omega
  clear h ho hc hRd hab
  go_enter Tryz.func17, Tryz.ntmps17
  go_wp2
  clear s0 s1 s2 s3 s4
  go_loopw [6] (fun i wr => ∃ (j : Nat) (fi : Fo) (ci : List Value), i = .int .i64 j ∧ fi.len + j = f.len ∧ fi.size ≤ f.size ∧ Hid (∀ j' u, ci[j']? = some u → w.cell? ⟨g, j * 5 + j', none⟩ = some u) ∧ Hid (CL w base fi ci) ∧ Hid (Rd w b (o + j * 5) fi) ∧ Hid (Below w.heap.size w wr)) (fun i _ => f.len - (intOf i).toNat)
  case atStart => exact ⟨0, f, cs, rfl, by simp, Nat.le_refl _, HX, HCL, by simpa using HRd, Below.refl _ _⟩
  case round =>
    obtain ⟨j, fi, ci, rfl, hj, hsz, HXi, HCi, HF, HB⟩ := hrel
    cases fi with
    | nil =>
      have hj' : j = f.len := by simpa [Fo.len] using hj
      have HJ : Hid _ := hj'
      have hjl : ¬ ((j : Int) < (f.len : Int)) := by omega
      clear hj hj'
      go_wp2
      go_ret
      exact ⟨rfl, HB.out⟩
    | cons k n t s d r =>
      obtain ⟨⟨g0, g1, g2, g3, g4, g5⟩, ⟨rk, ck, bk, ok, gk, gz, gs⟩, gr⟩ := HF.out
      obtain ⟨gx, kcs, rest, hcs, hox, hcx, hcr⟩ := HCi.out
      have hx := HXi.out
      rw [hcs] at hx
      simp only [Fo.len] at hj
      simp only [Fo.size] at hsz
      have hlt : j < f.len := by omega
      have hra := Hra.out (by omega)
      subst hra
      have i1 : (j : Int) < (f.len : Int) := by omega
      have i0 : (0 : Int) ≤ (j : Int) := by omega
      have e1 : ∀ o, wr.cell? ⟨b, o, none⟩ = w.cell? ⟨b, o, none⟩ := fun o => HB.out.cell (p := ⟨b, o, none⟩) g0
      have e2 : ∀ o, wr.cell? ⟨g, o, none⟩ = w.cell? ⟨g, o, none⟩ := fun o => HB.out.cell (p := ⟨g, o, none⟩) hgl
      have f1 := (e2 _).trans (hx 0 _ rfl)
      have f2 := (e2 _).trans (hx 1 _ rfl)
      have f3 := (e2 _).trans (hx 2 _ rfl)
      have fk := (e2 _).trans (hx 3 _ rfl)
      have f4 := (e2 _).trans (hx 4 _ rfl)
      rw [Nat.add_zero] at f1
      have h1 := (e1 _).trans g1
      have h2 := (e1 _).trans g2
      have h3 := (e1 _).trans g3
      have h4 := (e1 _).trans g4
      have hk := (e1 _).trans gk
      have h0 : b < wr.heap.size := Nat.lt_of_lt_of_le g0 HB.out.size
      have h0' : g < wr.heap.size := Nat.lt_of_lt_of_le hgl HB.out.size
      have HRk : Hid (RS wr rk s) := RS.below ⟨bk, ok, gz, gs⟩ HB.out
      have HLk : Hid (Lent wr base (.slice (some ⟨gx, 0, none⟩) s.len (s.len + 1)) s) := Lent.below ⟨gx, kcs, rfl, hox, hcx⟩ HB.out
      have Hr : Hid _ := gr
      have Hcr : Hid _ := hcr
      have Hxr : Hid (∀ j' u, rest[j']? = some u → w.cell? ⟨g, (j + 1) * 5 + j', none⟩ = some u) := fun j' u hj' => by
        have := hx (j' + 5) u (by simpa using hj')
        rwa [show j * 5 + (j' + 5) = (j + 1) * 5 + j' by omega] at this
      have hls : s.size ≤ 1000000 := by omega
      have hmx : Tryz.prog.follows .mixedOrders = true := by kernel_rfl
      clear e1 e2 g1 g2 g3 g4 gk gz gs gr hx hcs hox hcx hcr
      go_wp2_with fail
      first
      | go_region_held3 (fun wx => ((wx.cell? ⟨g, j * 5, none⟩ = some (.int .u8 k) ∧ wx.cell? ⟨g, j * 5 + 1, none⟩ = some (.int .i64 n) ∧ wx.cell? ⟨g, j * 5 + 1 + 1, none⟩ = some (S t) ∧ wx.cell? ⟨g, j * 5 + 1 + 1 + 1, none⟩ = some (.slice (some ⟨gx, 0, none⟩) s.len (s.len + 1)) ∧ wx.cell? ⟨g, j * 5 + 1 + 1 + 1 + 1, none⟩ = some (.bool d)) ∧ g < wx.heap.size) ∧ (wx.cell? ⟨b, o + j * 5, none⟩ = some (.int .u8 k) ∧ wx.cell? ⟨b, o + j * 5 + 1, none⟩ = some (.int .i64 n) ∧ wx.cell? ⟨b, o + j * 5 + 1 + 1, none⟩ = some (S t) ∧ wx.cell? ⟨b, o + j * 5 + 1 + 1 + 1, none⟩ = some (.slice rk s.len ck) ∧ wx.cell? ⟨b, o + j * 5 + 1 + 1 + 1 + 1, none⟩ = some (.bool d)) ∧ b < wx.heap.size) (first | go_keep | exact keepT hb1 (by go_keep))
          (first | (go_at_call 56; refine (HS.out s.size (by omega) k n t s d gx base rk ck _ (Nat.le_refl _) hls (HLk.out.below (Below.refl _ _).drew) (HRk.out.below (Below.refl _ _).drew)).mono ?_; rintro e w1 ⟨rfl, hb1⟩))
      | fail
      have HB1 : Hid (Below w.heap.size w w1) := HB.out.trans (((Below.refl _ wr).drew.trans hb1).mono HB.out.size)
      clear hb1 h1 h2 h3 h4 hk f1 f2 f3 f4 fk
      go_wp2
      go_roundw
      case rel => exact ⟨j + 1, r, rest, by go_num, by omega, by omega, Hxr, Hcr, by rw [show o + (j + 1) * 5 = o + j * 5 + 5 by omega]; exact Hr, HB1⟩
      case measure => simp [intOf]; omega
theorem whole_all : ∀ N, WholeC N := fun N => by
  induction N using Nat.strongRecOn with
  | _ N ih => exact whole_of (fun M hM => wholeD_of (ih M hM))
end Go.Proofs.YtlpdfifjdlfpdaaGreatDoor
