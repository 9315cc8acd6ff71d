/- OfDatum: how much a datum is. -/
import Derived.Test.YtkgnigloboajcabGreatDoorK41
namespace Go.Proofs.YtkgnigloboajcabGreatDoor
open Go.RowKit

/-- How much a row of data is. -/
def Fo.am : Fo → Nat
  | .nil => 0
  | .cons _ _ t s _ r => 1 + t.length + s.am + r.am
def Dt.am (x : Dt) : Nat := 1 + x.t.length + x.s.am
theorem Fo.am_app : ∀ f g : Fo, (f.app g).am = f.am + g.am
  | .nil, g => by simp [Fo.app, Fo.am]
  | .cons _ _ _ _ _ r, g => by simp only [Fo.app, Fo.am, Fo.am_app r g]; omega
theorem Fo.am_size : ∀ f : Fo, f.size ≤ f.am
  | .nil => Nat.le_refl _
  | .cons _ _ t s _ r => by have h1 := Fo.am_size s; have h2 := Fo.am_size r; simp only [Fo.size, Fo.am]; omega
theorem Fo.am_tx : ∀ {f : Fo} {n : Nat}, f.am ≤ n → n ≤ 281474976710656 → f.tx
  | .nil, _, _, _ => trivial
  | .cons _ _ t s _ r, n, h, hn => by
    simp only [Fo.am] at h
    exact ⟨by omega, Fo.am_tx (n := n) (by omega) hn, Fo.am_tx (n := n) (by omega) hn⟩
theorem Dt.am_ok {x : Dt} {n : Nat} (h : x.am ≤ n) (hn : n ≤ 1000000) : DOk x := by
  unfold Dt.am at h
  have := Fo.am_size x.s
  exact ⟨by omega, by omega, Fo.am_tx (n := n) (by omega) (by omega)⟩
/-- All texts are as long as a text may be. -/
def Fo.sl : Fo → Prop
  | .nil => True
  | .cons _ _ t s _ r => t.length ≤ 281474976710656 ∧ s.sl ∧ r.sl

def OfDC (N : Nat) : Prop := ∀ (x : Dt) (rk : Option Addr) (ck L : Nat) (w : World), x.s.size ≤ N → L ≤ 2001 → RS w rk x.s → x.s.len ≤ maxLen → x.t.length ≤ 281474976710656 → x.s.sl →
  Calls Tryz.prog 21 #[datV x (.slice rk x.s.len ck), .int .i64 L] w fun e w' => (∃ v : Nat, e = .returned (.int .i64 v) ∧ v ≤ 281474976710657 + (2001 - L) * 2147483648 ∧ (v ≤ 2147483647 → v = x.am)) ∧ Below w.heap.size w w'

set_option maxRecDepth 100000 in
set_option maxHeartbeats 4000000 in
theorem ofD_of {N : Nat} (h : ∀ M, M < N → OfDC M) : OfDC N := by
  intro x rk ck L w hN hL hR hm ht hst
  have HC : Hid (∀ M, M < N → OfDC M) := h
  have HS : Hid (x.s.sl) := hst
  have hal : Below w.heap.size w (w.alloc (boxD x (.slice rk x.s.len ck))) := (Below.refl _ w).alloc (Nat.le_refl _) _
  have Hal : Hid _ := hal
  have HQ0 : Hid _ := World.alloc_heap_new w (boxD x (.slice rk x.s.len ck))
  have htl : (x.t.length : Int) ≤ 281474976710656 := by omega
  have hmm := hm
  unfold maxLen at hmm
  have HAm : Hid (x.am = 1 + x.t.length + x.s.am) := rfl
  obtain ⟨c0, c1, c2, c3, c4, _⟩ := cells5 HQ0.out
  obtain ⟨b, o, hab, hRd⟩ := hR
  have HRd : Hid (Rd w b o x.s) := hRd
  have Hra : Hid (x.s.len ≠ 0 → rk = some ⟨b, o, none⟩) := fun h => hab.resolve_left h
  clear h hst hal hRd hab
  by_cases h5 : 2000 < L
  · have h5' : (2000 : Int) < (L : Int) := by omega
    go_enter Tryz.func21, Tryz.ntmps21
    go_wp2
    go_ret
    exact ⟨⟨2147483648, rfl, by omega, fun h => absurd h (by omega)⟩, Hal.out⟩
  · have h5' : ¬ (2000 : Int) < (L : Int) := by omega
    go_enter Tryz.func21, Tryz.ntmps21
    go_upto_region 5 with fail
    clear c0 c1 c2 c3 c4
    go_loopw [5, 6] (fun nv i wr => ∃ (j n : Nat) (q fi : Fo), nv = .int .i64 n ∧ i = .int .i64 j ∧ fi.len + j = x.s.len ∧ fi.size ≤ x.s.size ∧ n ≤ 281474976710657 + (2001 - L) * 2147483648 ∧ Hid (x.s = q.app fi) ∧ Hid fi.sl ∧ Hid (Rd w b (o + j * 5) fi) ∧ Hid (Below w.heap.size w wr) ∧ Hid (wr.heap[w.heap.size]? = some (.cells #[.int .u8 x.k, .int .i64 x.n, S x.t, .slice rk x.s.len ck, .bool x.d] 28 (0, 0))) ∧ Hid (n ≤ 2147483647 → n = 1 + x.t.length + q.am)) (fun _ i _ => x.s.len - (intOf i).toNat)
    case atStart => exact ⟨0, 1 + x.t.length, .nil, x.s, by simp, rfl, by simp, Nat.le_refl _, by omega, rfl, HS, by simpa using HRd, Hal, HQ0, fun _ => by simp [Fo.am]⟩
    case round =>
      obtain ⟨j, n, q, fi, rfl, rfl, hj, hsz, hnb, HQq, HSi, HF, HBj, HQj, HQ⟩ := hrel
      obtain ⟨z0, z1, z2, z3, z4, _⟩ := cells5 HQj.out
      cases fi with
      | nil =>
        have hj' : j = x.s.len := by simpa [Fo.len] using hj
        have hjl : ¬ ((j : Int) < (x.s.len : Int)) := by omega
        have HE : Hid (n ≤ 2147483647 → n = x.am) := fun h => by rw [HAm.out, HQq.out, Fo.app_nil]; exact HQ.out h
        clear hj hj'
        go_wp2
        go_ret
        exact ⟨⟨n, rfl, hnb, HE.out⟩, HBj.out⟩
      | cons k' n' t' s' d' r' =>
        simp only [Fo.len] at hj
        simp only [Fo.size] at hsz
        have i1 : (j : Int) < (x.s.len : Int) := by omega
        by_cases hn : n ≤ 2147483647
        case neg =>
          have hn' : ¬ (n : Int) ≤ 2147483647 := by omega
          go_wp2
          go_ret
          exact ⟨⟨n, rfl, hnb, fun h => absurd h hn⟩, HBj.out⟩
        have hn' : (n : Int) ≤ 2147483647 := by omega
        obtain ⟨⟨g0, g1, g2, g3, g4, g5⟩, ⟨rk', ck', bk', ok', gk, gz, gs⟩, gr⟩ := HF.out
        have ec : ∀ o, wr.cell? ⟨b, o, none⟩ = w.cell? ⟨b, o, none⟩ := fun o => HBj.out.cell (p := ⟨b, o, none⟩) g0
        have h1 := (ec _).trans g1
        have h2 := (ec _).trans g2
        have h3 := (ec _).trans g3
        have h4 := (ec _).trans g4
        have hk := (ec _).trans gk
        have HRk : Hid (RS wr rk' s') := RS.below ⟨bk', ok', gz, gs⟩ HBj.out
        have Hr : Hid (Rd w b (o + j * 5 + 5) r') := gr
        have hra := Hra.out (by omega)
        subst hra
        have HSs : Hid (t'.length ≤ 281474976710656 ∧ s'.sl ∧ r'.sl) := HSi.out
        have HCC : Hid (Calls Tryz.prog 21 #[.agg #[.int .u8 k', .int .i64 n', S t', .slice rk' s'.len ck', .bool d'], .int .i64 ((L : Int) + 1)] wr fun e w' => (∃ v : Nat, e = .returned (.int .i64 v) ∧ v ≤ 281474976710657 + (2001 - (L + 1)) * 2147483648 ∧ (v ≤ 2147483647 → v = Dt.am ⟨k', n', t', s', d'⟩)) ∧ Below wr.heap.size wr w') := HC.out s'.size (by omega) ⟨k', n', t', s', d'⟩ rk' ck' (L + 1) wr (Nat.le_refl _) (by omega) HRk.out g5 HSs.out.1 HSs.out.2.1
        clear ec g0 g1 g2 g3 g4 g5 gk gz gs gr
        go_wp2_with fail
        refine HCC.out.mono ?_
        rintro e w4 ⟨⟨v, rfl, hv1, hv2⟩, hb4⟩
        have HB4 : Hid (Below w.heap.size w w4) := HBj.out.trans (hb4.mono HBj.out.size)
        have HQ4 : Hid _ := (hb4.block _ (Array.getElem?_eq_some_iff.1 HQj.out).1).trans HQj.out
        have HE : Hid (n + v ≤ 2147483647 → n + v = 1 + x.t.length + (q.app (.cons k' n' t' s' d' .nil)).am) := fun h => by
          have e1 := HQ.out hn
          have e2 := hv2 (by omega)
          rw [Fo.am_app]
          simp only [Fo.am, Dt.am] at e2 ⊢
          omega
        have hvi : (v : Int) ≤ 281474976710657 + 2001 * 2147483648 := by omega
        have hnv : n + v ≤ 281474976710657 + (2001 - L) * 2147483648 := by omega
        clear hb4 HCC hv2 z0 z1 z2 z3 z4 h1 h2 h3 h4 hk
        go_wp2_with fail
        go_roundw
        case rel => exact ⟨j + 1, n + v, q.app (.cons k' n' t' s' d' .nil), r', by go_num, by go_num, by omega, by omega, hnv, by show _ = _; rw [HQq.out, Fo.app_assoc]; rfl, HSs.out.2.2, by have := Hr.out; show Rd w b (o + (j + 1) * 5) r'; rw [show o + (j + 1) * 5 = o + j * 5 + 5 by omega]; exact this, HB4, HQ4, HE⟩
        case measure => simp [intOf]; omega
theorem ofD_all : ∀ N, OfDC N := fun N => by
  induction N using Nat.strongRecOn with
  | _ N ih => exact ofD_of ih
end Go.Proofs.YtkgnigloboajcabGreatDoor
