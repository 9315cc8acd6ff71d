/- SameData, SameDatum. -/
import Derived.Test.YtlpdfifjdlfpdaaGreatDoorGK
namespace Go.Proofs.YtlpdfifjdlfpdaaGreatDoor
open Go.RowKit

def SameDC (N : Nat) : Prop := ∀ (k n : Int) (t : List UInt8) (s : Fo) (d : Bool) (rk : Option Addr) (ck : Nat) (k' n' : Int) (t' : List UInt8) (s' : Fo) (d' : Bool) (rk' : Option Addr) (ck' : Nat) (w : World), s.size ≤ N → s.len ≤ maxLen → s'.len ≤ maxLen → RS w rk s → RS w rk' s' →
  Calls Tryz.prog 27 #[.agg #[.int .u8 k, .int .i64 n, S t, .slice rk s.len ck, .bool d], .agg #[.int .u8 k', .int .i64 n', S t', .slice rk' s'.len ck', .bool d']] w fun e w' => e = .returned (.bool (sameB k n t s d k' n' t' s' d')) ∧ Below w.heap.size w w'
def DataC (N : Nat) : Prop := ∀ (f g : Fo) (ra : Option Addr) (ca : Nat) (rb : Option Addr) (cb : Nat) (w : World), f.size ≤ N → f.len ≤ maxLen → g.len ≤ maxLen → RS w ra f → RS w rb g →
  Calls Tryz.prog 8 #[.slice ra f.len ca, .slice rb g.len cb] w fun e w' => e = .returned (.bool (f.same g)) ∧ Below w.heap.size w w'

set_option maxRecDepth 100000 in
set_option maxHeartbeats 4000000 in
theorem sameD_of {N : Nat} (h : DataC N) : SameDC N := by
  intro k n t s d rk ck k' n' t' s' d' rk' ck' w hN hm hm' hR hR'
  have HE : Hid (DataC N) := h
  have HR : Hid (RS w rk s) := hR
  have HR' : Hid (RS w rk' s') := hR'
  clear h hR hR'
  unfold sameB
  cases h1 : (k == k')
  · go_enter Tryz.func27, Tryz.ntmps27
    go_wp2
    go_ret
    exact ⟨rfl, (((Below.refl _ w).alloc (Nat.le_refl _) _).alloc (by simp) _)⟩
  cases h2 : (n == n')
  · go_enter Tryz.func27, Tryz.ntmps27
    go_wp2
    go_ret
    exact ⟨rfl, (((Below.refl _ w).alloc (Nat.le_refl _) _).alloc (by simp) _)⟩
  by_cases h3 : t = t'
  · subst h3
    cases h4 : (d == d')
    · go_enter Tryz.func27, Tryz.ntmps27
      go_wp2
      go_ret
      exact ⟨by simp, (((Below.refl _ w).alloc (Nat.le_refl _) _).alloc (by simp) _)⟩
    · go_enter Tryz.func27, Tryz.ntmps27
      go_wp2_with fail
      refine (HE.out s s' rk ck rk' ck' _ hN hm hm' (HR.out.below (((Below.refl _ w).alloc (Nat.le_refl _) _).alloc (by simp) _)) (HR'.out.below (((Below.refl _ w).alloc (Nat.le_refl _) _).alloc (by simp) _))).mono ?_
      rintro e w1 ⟨rfl, hb1⟩
      go_wp2
      go_ret
      exact ⟨by simp, ((((Below.refl _ w).alloc (Nat.le_refl _) _).alloc (by simp) _)).trans (hb1.mono (by simp; omega))⟩
  · have h3' : decide (t = t') = false := decide_eq_false h3
    go_enter Tryz.func27, Tryz.ntmps27
    go_wp2
    go_ret
    exact ⟨by simp [h3], (((Below.refl _ w).alloc (Nat.le_refl _) _).alloc (by simp) _)⟩

theorem keepT {W w6 : World} {b o b' o' : Nat} {v0 v1 v2 v3 v4 u0 u1 u2 u3 u4 : Option Value} (hb : Below W.heap.size W w6)
    (h : ((W.cell? ⟨b, o, none⟩ = v0 ∧ W.cell? ⟨b, o + 1, none⟩ = v1 ∧ W.cell? ⟨b, o + 1 + 1, none⟩ = v2 ∧ W.cell? ⟨b, o + 1 + 1 + 1, none⟩ = v3 ∧ W.cell? ⟨b, o + 1 + 1 + 1 + 1, none⟩ = v4) ∧ b < W.heap.size) ∧ (W.cell? ⟨b', o', none⟩ = u0 ∧ W.cell? ⟨b', o' + 1, none⟩ = u1 ∧ W.cell? ⟨b', o' + 1 + 1, none⟩ = u2 ∧ W.cell? ⟨b', o' + 1 + 1 + 1, none⟩ = u3 ∧ W.cell? ⟨b', o' + 1 + 1 + 1 + 1, none⟩ = u4) ∧ b' < W.heap.size) :
    ((w6.cell? ⟨b, o, none⟩ = v0 ∧ w6.cell? ⟨b, o + 1, none⟩ = v1 ∧ w6.cell? ⟨b, o + 1 + 1, none⟩ = v2 ∧ w6.cell? ⟨b, o + 1 + 1 + 1, none⟩ = v3 ∧ w6.cell? ⟨b, o + 1 + 1 + 1 + 1, none⟩ = v4) ∧ b < w6.heap.size) ∧ (w6.cell? ⟨b', o', none⟩ = u0 ∧ w6.cell? ⟨b', o' + 1, none⟩ = u1 ∧ w6.cell? ⟨b', o' + 1 + 1, none⟩ = u2 ∧ w6.cell? ⟨b', o' + 1 + 1 + 1, none⟩ = u3 ∧ w6.cell? ⟨b', o' + 1 + 1 + 1 + 1, none⟩ = u4) ∧ b' < w6.heap.size := by
  obtain ⟨⟨⟨a0, a1, a2, a3, a4⟩, hg⟩, ⟨c0, c1, c2, c3, c4⟩, hg'⟩ := h
  have e : ∀ o, w6.cell? ⟨b, o, none⟩ = W.cell? ⟨b, o, none⟩ := fun o => hb.cell (p := ⟨b, o, none⟩) hg
  have e' : ∀ o, w6.cell? ⟨b', o, none⟩ = W.cell? ⟨b', o, none⟩ := fun o => hb.cell (p := ⟨b', o, none⟩) hg'
  exact ⟨⟨⟨(e _).trans a0, (e _).trans a1, (e _).trans a2, (e _).trans a3, (e _).trans a4⟩, Nat.lt_of_lt_of_le hg hb.size⟩, ⟨(e' _).trans c0, (e' _).trans c1, (e' _).trans c2, (e' _).trans c3, (e' _).trans c4⟩, Nat.lt_of_lt_of_le hg' hb.size⟩

set_option maxRecDepth 100000 in
set_option maxHeartbeats 4000000 in
theorem data_of_same {N : Nat} (h : ∀ M, M < N → SameDC M) : DataC N := by
  intro f g ra ca rb cb w hN hm hm' hR hR'
  have HS : Hid (∀ M, M < N → SameDC M) := h
  unfold maxLen at hm hm'
  by_cases hl : f.len = g.len
  · obtain ⟨b, o, hab, hRd⟩ := hR
    obtain ⟨b', o', hab', hRd'⟩ := hR'
    have HRd : Hid (Rd w b o f) := hRd
    have HRd' : Hid (Rd w b' o' g) := hRd'
    have HLL : Hid (g.len = f.len) := hl.symm
    clear h hRd hRd'
    have hra : f.len ≠ 0 → ra = some ⟨b, o, none⟩ := fun h => hab.resolve_left h
    have hrb : f.len ≠ 0 → rb = some ⟨b', o', none⟩ := fun h => hab'.resolve_left (by rw [← hl]; exact h)
    have Hra : Hid _ := hra
    have Hrb : Hid _ := hrb
    rw [← hl]
    clear hab hab' hra hrb hm' hl
    go_enter Tryz.func8, Tryz.ntmps8
    go_wp2
    go_loopw [5] (fun i wr => ∃ (j : Nat) (fi gi : Fo), i = .int .i64 j ∧ fi.len + j = f.len ∧ gi.len = fi.len ∧ fi.size ≤ N ∧ Hid (Rd wr b (o + j * 5) fi) ∧ Hid (Rd wr b' (o' + j * 5) gi) ∧ Hid (f.same g = fi.same gi) ∧ Hid (Below w.heap.size w wr)) (fun i _ => f.len - (intOf i).toNat)
    case atStart => exact ⟨0, f, g, rfl, by simp, HLL.out, hN, by simpa using HRd, by simpa using HRd', rfl, Below.refl _ _⟩
    case round =>
      obtain ⟨j, fi, gi, rfl, hj, hgl, hsz, HF, HG, HQ, HB⟩ := hrel
      cases fi with
      | nil =>
        have hg0 : gi = .nil := Fo.len0 (by simpa [Fo.len] using hgl)
        subst hg0
        have hj' : j = f.len := by simpa [Fo.len] using hj
        have HJ : Hid _ := hj'
        have hjl : ¬ ((j : Int) < (f.len : Int)) := by omega
        clear hj hj' hgl
        go_wp2
        go_ret
        exact ⟨by rw [HQ.out]; rfl, HB.out⟩
      | cons k n t s d r =>
        cases gi with
        | nil => simp [Fo.len] at hgl
        | cons k' n' t' s' d' r' =>
          obtain ⟨⟨h0, h1, h2, h3, h4, h5⟩, ⟨rk, ck, bk, ok, hk, hz, hs⟩, hr⟩ := HF.out
          obtain ⟨⟨h0', h1', h2', h3', h4', h5'⟩, ⟨rk', ck', bk', ok', hk', hz', hs'⟩, hr'⟩ := HG.out
          simp only [Fo.len] at hj hgl
          simp only [Fo.size] at hsz
          have hlt : j < f.len := by omega
          have hra := Hra.out (by omega)
          have hrb := Hrb.out (by omega)
          subst hra hrb
          have i1 : (j : Int) < (f.len : Int) := by omega
          have HRk : Hid (RS wr rk s) := ⟨bk, ok, hz, hs⟩
          have HRk' : Hid (RS wr rk' s') := ⟨bk', ok', hz', hs'⟩
          have Hr : Hid _ := hr
          have Hr' : Hid _ := hr'
          clear hs hs' hr hr' hz hz' HF HG
          have hmx : Tryz.prog.follows .mixedOrders = true := by kernel_rfl
          have i0 : (0 : Int) ≤ (j : Int) := by omega
          go_wp2_with fail
          first
          | go_region_held3 (fun wx => ((wx.cell? ⟨b, o + j * 5, none⟩ = some (.int .u8 k) ∧ wx.cell? ⟨b, o + j * 5 + 1, none⟩ = some (.int .i64 n) ∧ wx.cell? ⟨b, o + j * 5 + 1 + 1, none⟩ = some (S t) ∧ wx.cell? ⟨b, o + j * 5 + 1 + 1 + 1, none⟩ = some (.slice rk s.len ck) ∧ wx.cell? ⟨b, o + j * 5 + 1 + 1 + 1 + 1, none⟩ = some (.bool d)) ∧ b < wx.heap.size) ∧ (wx.cell? ⟨b', o' + j * 5, none⟩ = some (.int .u8 k') ∧ wx.cell? ⟨b', o' + j * 5 + 1, none⟩ = some (.int .i64 n') ∧ wx.cell? ⟨b', o' + j * 5 + 1 + 1, none⟩ = some (S t') ∧ wx.cell? ⟨b', o' + j * 5 + 1 + 1 + 1, none⟩ = some (.slice rk' s'.len ck') ∧ wx.cell? ⟨b', o' + j * 5 + 1 + 1 + 1 + 1, none⟩ = some (.bool d')) ∧ b' < wx.heap.size) (first | go_keep | exact keepT hb1 (by go_keep))
              (first | (go_at_call 27; refine (HS.out s.size (by omega) k n t s d rk ck k' n' t' s' d' rk' ck' _ (Nat.le_refl _) h5 h5' (HRk.out.below (Below.refl _ _).drew) (HRk'.out.below (Below.refl _ _).drew)).mono ?_; rintro e w1 ⟨rfl, hb1⟩))
          | fail
          have HW : Hid (Below wr.heap.size wr w1) := (Below.refl _ wr).drew.trans hb1
          have HB1 : Hid (Below w.heap.size w w1) := HB.out.trans (HW.out.mono HB.out.size)
          clear hb1 h1 h2 h3 h4 hk h1' h2' h3' h4' hk'
          cases hsb : sameB k n t s d k' n' t' s' d'
          · have HS2 : Hid _ := hsb
            clear hsb
            go_wp2
            go_ret
            exact ⟨by rw [HQ.out, same_cons, HS2.out]; rfl, HB1.out⟩
          · have HS2 : Hid _ := hsb
            clear hsb
            go_wp2
            go_roundw
            case rel => exact ⟨j + 1, r, r', by go_num, by omega, by omega, by omega, by rw [show o + (j + 1) * 5 = o + j * 5 + 5 by omega]; exact Hr.out.below HW.out, by rw [show o' + (j + 1) * 5 = o' + j * 5 + 5 by omega]; exact Hr'.out.below HW.out, by show _ = _; rw [HQ.out, same_cons, HS2.out]; rfl, HB1⟩
            case measure => simp [intOf]; omega
  · have hne : f.same g = false := by
      cases hs : f.same g with
      | false => rfl
      | true => exact absurd (by rw [(Fo.same_iff f g).1 hs]) hl
    rw [hne]
    have h2 : ((f.len : Int) == (g.len : Int)) = false := by simp; omega
    clear h hR hR' HS
    go_enter Tryz.func8, Tryz.ntmps8
    go_wp2
    go_ret
    exact ⟨rfl, Below.refl _ _⟩
theorem sameData_all : ∀ N, DataC N := fun N => by
  induction N using Nat.strongRecOn with
  | _ N ih => exact data_of_same (fun M hM => sameD_of (ih M hM))
/-- SameData, of any two lists of data. -/
theorem sameData_any (f g : Fo) (ra : Option Addr) (ca : Nat) (rb : Option Addr) (cb : Nat) (w : World) (hm : f.len ≤ maxLen) (hm' : g.len ≤ maxLen) (hR : RS w ra f) (hR' : RS w rb g) :
    Calls Tryz.prog 8 #[.slice ra f.len ca, .slice rb g.len cb] w fun e w' => e = .returned (.bool (f.same g)) ∧ Below w.heap.size w w' := sameData_all f.size f g ra ca rb cb w (Nat.le_refl _) hm hm' hR hR'
end Go.Proofs.YtlpdfifjdlfpdaaGreatDoor
