/- extent.add: how many, how deep.; check: what cannot be written is given up.; strings.Builder: WriteByte and WriteString: the shelf's contracts, laid by hand.; isQuoted.; The text of data; a builder that holds a text. -/
import Derived.Test.YtlpdfifjdlfpdaaGreatDoorGI
/- extent.add: how many, how deep. -/
namespace Go.Proofs.YtlpdfifjdlfpdaaGreatDoor
open Go.RowKit

/-- How many data, and how deep the deepest one is; none: one of them is none. -/
def ext : Fo → Nat → Nat × Nat → Option (Nat × Nat)
  | .nil, _, x => some x
  | .cons k n t s d r, L, x => if isDat k n t s d then (ext s (if k = 5 then L + 1 else L) (x.1 + 1, if k = 5 then max x.2 (L + 1) else x.2)).bind (ext r L) else none
def Fo.tx : Fo → Prop
  | .nil => True
  | .cons _ _ t s _ r => t.length ≤ 281474976710656 ∧ s.tx ∧ r.tx
theorem ext_bound : ∀ (f : Fo) (L c p : Nat) {c' p' : Nat}, ext f L (c, p) = some (c', p') → c' = c + f.size ∧ p ≤ p' ∧ p' ≤ max p (L + f.size)
  | .nil, L, c, p, c', p', h => by
    simp only [ext, Option.some.injEq, Prod.mk.injEq] at h
    obtain ⟨rfl, rfl⟩ := h
    simp [Fo.size]; omega
  | .cons k n t s d r, L, c, p, c', p', h => by
    simp only [ext] at h
    split at h
    · rw [Option.bind_eq_some_iff] at h
      obtain ⟨⟨c1, p1⟩, h1, h2⟩ := h
      have e1 := ext_bound s _ _ _ h1
      have e2 := ext_bound r _ _ _ h2
      simp only [Fo.size]
      split at e1 <;> omega
    · cases h

theorem ext_cons (k n : Int) (t : List UInt8) (s : Fo) (d : Bool) (r : Fo) (L : Nat) (x : Nat × Nat) : ext (.cons k n t s d r) L x = (ext (.cons k n t s d .nil) L x).bind (ext r L) := by
  simp only [ext]
  split
  · cases ext s _ _ <;> rfl
  · rfl

structure Xb (W : World) (xb c p : Nat) : Prop where
  heap : W.heap[xb]? = some (.cells #[.int .i64 c, .int .i64 p] 154 (0, 0))
theorem Xb.lt {W : World} {xb c p : Nat} (h : Xb W xb c p) : xb < W.heap.size := (Array.getElem?_eq_some_iff.1 h.heap).1
theorem Xb.c0 {W : World} {xb c p : Nat} (h : Xb W xb c p) : W.cell? ⟨xb, 0, none⟩ = some (.int .i64 c) := by simp [World.cell?, h.heap]
theorem Xb.c1 {W : World} {xb c p : Nat} (h : Xb W xb c p) : W.cell? ⟨xb, 1, none⟩ = some (.int .i64 p) := by simp [World.cell?, h.heap]
theorem Xb.fr {W : World} {xb c p : Nat} (h : Xb W xb c p) (k : Nat) : W.frozen? ⟨xb, k, none⟩ = false := by simp [World.frozen?, h.heap]
theorem Xb.kept {W W' : World} {xb c p : Nat} (h : Xb W xb c p) (hb : W'.heap[xb]? = W.heap[xb]?) : Xb W' xb c p := ⟨hb.trans h.heap⟩
theorem Xb.set0 {W : World} {xb c p : Nat} (h : Xb W xb c p) (j : Nat) : Xb (W.setCell ⟨xb, 0, none⟩ (.int .i64 j)) xb j p := ⟨set_at h.heap _⟩
theorem Xb.set1 {W : World} {xb c p : Nat} (h : Xb W xb c p) (j : Nat) : Xb (W.setCell ⟨xb, 1, none⟩ (.int .i64 j)) xb c j := ⟨set_at h.heap _⟩

def PostX (xb : Nat) (w : World) : Option (Nat × Nat) → Ending → World → Prop
  | some (c, p), e, w' => (∃ v, e = .returned v) ∧ Xb w' xb c p ∧ But xb w w'
  | none, e, w' => e = .panicked (fault 60 0) ∧ But xb w w'

def AddC (N : Nat) : Prop := ∀ (k n : Int) (t : List UInt8) (s : Fo) (d : Bool) (rk : Option Addr) (ck L c p xb : Nat) (W w : World), s.size ≤ N → s.len ≤ maxLen → t.length ≤ 281474976710656 → s.tx → RS W rk s → EV W → Below W.heap.size W w → W.heap.size ≤ xb → Xb w xb c p →
  c + s.size + 1 ≤ 1152921504606846976 → L + s.size + 1 ≤ 1152921504606846976 → p ≤ 1152921504606846976 →
  Calls Tryz.prog 69 #[.pointer (some ⟨xb, 0, none⟩), .agg #[.int .u8 k, .int .i64 n, S t, .slice rk s.len ck, .bool d], .int .i64 L] w (PostX xb w (ext (.cons k n t s d .nil) L (c, p)))

set_option maxRecDepth 100000 in
set_option maxHeartbeats 4000000 in
theorem add_of {N : Nat} (h : ∀ M, M < N → AddC M) : AddC N := by
  intro k n t s d rk ck L c p xb W w hN hm ht htx hR hE hW hx hX hc hL hp
  have HR : Hid (RS W rk s) := hR
  have HE : Hid (EV W) := hE
  have HW : Hid (Below W.heap.size W w) := hW
  have HX : Hid (Xb w xb c p) := hX
  have HT : Hid (s.tx) := htx
  have Ht : Hid _ := ht
  have HC : Hid (∀ M, M < N → AddC M) := h
  have hal : Below w.heap.size w (w.alloc (.cells #[.int .u8 k, .int .i64 n, S t, .slice rk s.len ck, .bool d] 58)) := (Below.refl _ w).alloc (Nat.le_refl _) _
  have Hal : Hid _ := hal
  have q0 := World.alloc_heap_new w (.cells #[.int .u8 k, .int .i64 n, S t, .slice rk s.len ck, .bool d] 58)
  have HQ0 : Hid _ := q0
  clear hR hE hW hX htx ht h hal q0
  have hE' : ext (.cons k n t s d .nil) L (c, p) = if isDat k n t s d then ext s (if k = 5 then L + 1 else L) (c + 1, if k = 5 then max p (L + 1) else p) else none := by
    simp only [ext]
    split
    · cases ext s _ _ <;> rfl
    · rfl
  rw [hE']
  clear hE'
  cases hd : isDat k n t s d
  · have HD : Hid _ := hd
    clear hd
    go_enter Tryz.func69, Tryz.ntmps69
    go_wp2_with fail
    refine (isDatum_any k n t s d rk ck _ hm ((HR.out.below HW.out).below Hal.out) Ht.out ((HE.out.below HW.out HE.out.lt).below Hal.out (Nat.lt_of_lt_of_le HE.out.lt HW.out.size))).mono ?_
    rintro e w1 ⟨rfl, hb1⟩
    rw [HD.out]
    go_wp2
    exact ⟨rfl, rfl, (But.of_below Hal.out).trans (But.of_below hb1)⟩
  · have HD : Hid _ := hd
    clear hd
    by_cases h5 : k = 5
    · subst h5
      rw [if_pos rfl, if_pos rfl, if_pos rfl]
      go_enter Tryz.func69, Tryz.ntmps69
      go_wp2_with fail
      refine (isDatum_any 5 n t s d rk ck _ hm ((HR.out.below HW.out).below Hal.out) Ht.out ((HE.out.below HW.out HE.out.lt).below Hal.out (Nat.lt_of_lt_of_le HE.out.lt HW.out.size))).mono ?_
      rintro e w1 ⟨rfl, hb1⟩
      rw [HD.out]
      obtain ⟨z0, z1, z2, z3, z4, _⟩ := cells5 ((hb1.block _ (by simp)).trans HQ0.out)
      have HX1 : Hid (Xb w1 xb c p) := (HX.out.kept (Hal.out.block _ HX.out.lt)).kept (hb1.block _ (Nat.lt_of_lt_of_le HX.out.lt Hal.out.size))
      have x0 := HX1.out.c0
      have x1 := HX1.out.c1
      have f0 := HX1.out.fr 0
      have f1 := HX1.out.fr 1
      have hlt := HX.out.lt
      have hne : xb ≠ w.heap.size := by omega
      have hne' : w.heap.size ≠ xb := by omega
      have HB1 : Hid (But xb w w1) := (But.of_below Hal.out).trans (But.of_below hb1)
      clear hb1
      go_wp2
      obtain ⟨b, o, hab, hRd⟩ := HR.out
      have HRd : Hid (Rd W b o s) := hRd
      have Hra : Hid (s.len ≠ 0 → rk = some ⟨b, o, none⟩) := fun h => hab.resolve_left h
      clear hRd hab z0 z1 z2 z3 z4 x0 x1 f0 f1
      go_loopw [37] (fun i wr => ∃ (j cj pj : Nat) (fi : Fo), i = .int .i64 j ∧ fi.len + j = s.len ∧ fi.size ≤ s.size ∧ cj + fi.size ≤ 1152921504606846976 ∧ pj ≤ 1152921504606846976 ∧ Hid fi.tx ∧ Hid (Rd W b (o + j * 5) fi) ∧ Hid (Xb wr xb cj pj) ∧ Hid (But xb w wr) ∧ Hid (ext s (L + 1) (c + 1, (max p (L + 1))) = ext fi (L + 1) (cj, pj))) (fun i _ => s.len - (intOf i).toNat)
      case atStart => exact ⟨0, c + 1, (max p (L + 1)), s, rfl, by simp, Nat.le_refl _, by omega, by omega, HT, by simpa using HRd, (HX1.out.set0 (c + 1)).set1 (max p (L + 1)) |> fun h => by rw [show ((c + 1 : Nat) : Int) = (c : Int) + 1 by omega, show ((max p (L + 1) : Nat) : Int) = max (p : Int) ((L : Int) + 1) by omega] at h; exact h, (HB1.out.set _).set _, rfl⟩
      case round =>
        obtain ⟨j, cj, pj, fi, rfl, hj, hsz, hcj, hpj, HFt, HF, HXj, HBj, HQ⟩ := hrel
        cases fi with
        | nil =>
          have hj' : j = s.len := by simpa [Fo.len] using hj
          have HJ : Hid _ := hj'
          have hjl : ¬ ((j : Int) < (s.len : Int)) := by omega
          clear hj hj'
          go_wp2
          go_end0
          rw [HQ.out]
          exact ⟨⟨_, rfl⟩, HXj.out, HBj.out⟩
        | cons k' n' t' s' d' r' =>
          have HWr : Hid (Below W.heap.size W wr) := HW.out.trans (HBj.out.below hx HW.out.size)
          obtain ⟨⟨g0, g1, g2, g3, g4, g5⟩, ⟨rk', ck', bk', ok', gk, gz, gs⟩, gr⟩ := HF.out
          have ec : ∀ o, wr.cell? ⟨b, o, none⟩ = W.cell? ⟨b, o, none⟩ := fun o => HWr.out.cell (p := ⟨b, o, none⟩) g0
          have h1 := (ec _).trans g1
          have h2 := (ec _).trans g2
          have h3 := (ec _).trans g3
          have h4 := (ec _).trans g4
          have hk := (ec _).trans gk
          have h0 : b < wr.heap.size := Nat.lt_of_lt_of_le g0 HWr.out.size
          have hxr := HXj.out.lt
          simp only [Fo.len] at hj
          simp only [Fo.size] at hsz hcj
          obtain ⟨ft1, ft2, ft3⟩ := HFt.out
          have Hft1 : Hid _ := ft1
          have Hft2 : Hid _ := ft2
          have Hft3 : Hid _ := ft3
          have HRk : Hid (RS W rk' s') := ⟨bk', ok', gz, gs⟩
          have Hr : Hid _ := gr
          have hjs : j < s.len := by omega
          have hra := Hra.out (by omega)
          subst hra
          have i1 : (j : Int) < (s.len : Int) := by omega
          have hmm := hm
          unfold maxLen at hmm
          clear ft1 ft2 ft3 gz gs gr g1 g2 g3 g4 gk ec HFt
          go_wp2_with fail
          have HA : Hid (Below wr.heap.size wr (wr.alloc (.cells #[.int .u8 k', .int .i64 n', S t', .slice rk' s'.len ck', .bool d'] 58))) := (Below.refl _ wr).alloc (Nat.le_refl _) _
          have hcall := HC.out s'.size (by omega) k' n' t' s' d' rk' ck' (L + 1) cj pj xb W (wr.alloc (.cells #[.int .u8 k', .int .i64 n', S t', .slice rk' s'.len ck', .bool d'] 58)) (Nat.le_refl _) g5 Hft1.out Hft2.out HRk.out HE.out (HWr.out.trans (HA.out.mono HWr.out.size)) hx (HXj.out.kept (HA.out.block _ HXj.out.lt)) (by omega) (by omega) hpj
          rw [show ((L + 1 : Nat) : Int) = (L : Int) + 1 by omega] at hcall
          refine hcall.mono ?_
          intro e w2 hP
          clear hcall h1 h2 h3 h4 hk
          cases hk2 : ext (.cons k' n' t' s' d' .nil) (L + 1) (cj, pj) with
          | none =>
            rw [hk2] at hP
            obtain ⟨rfl, hB2⟩ := hP
            have HK2 : Hid _ := hk2
            have HB2 : Hid (But xb w w2) := (HBj.out.trans (But.of_below HA.out)).trans hB2
            clear hk2 hB2
            go_wp2
            refine ⟨rfl, ?_⟩
            rw [HQ.out, ext_cons, HK2.out]
            exact ⟨rfl, HB2.out⟩
          | some x =>
            obtain ⟨c1, p1⟩ := x
            rw [hk2] at hP
            obtain ⟨⟨v, rfl⟩, hX2, hB2⟩ := hP
            have hbd := ext_bound _ _ _ _ hk2
            simp only [Fo.size] at hbd
            have HK2 : Hid _ := hk2
            have HX2 : Hid _ := hX2
            have HB2 : Hid (But xb w w2) := (HBj.out.trans (But.of_below HA.out)).trans hB2
            clear hk2 hB2 hX2
            go_wp2
            go_roundw
            case rel => exact ⟨j + 1, c1, p1, r', by go_num, by omega, by omega, by omega, by omega, Hft3, by rw [show o + (j + 1) * 5 = o + j * 5 + 5 by omega]; exact Hr, HX2, HB2, by show _ = _; rw [HQ.out, ext_cons, HK2.out]; rfl⟩
            case measure => simp [intOf]; omega
    · have b5 : (k == 5) = false := beq_eq_false_iff_ne.2 h5
      rw [if_pos rfl, if_neg h5, if_neg h5]
      go_enter Tryz.func69, Tryz.ntmps69
      go_wp2_with fail
      refine (isDatum_any k n t s d rk ck _ hm ((HR.out.below HW.out).below Hal.out) Ht.out ((HE.out.below HW.out HE.out.lt).below Hal.out (Nat.lt_of_lt_of_le HE.out.lt HW.out.size))).mono ?_
      rintro e w1 ⟨rfl, hb1⟩
      rw [HD.out]
      obtain ⟨z0, z1, z2, z3, z4, _⟩ := cells5 ((hb1.block _ (by simp)).trans HQ0.out)
      have HX1 : Hid (Xb w1 xb c p) := (HX.out.kept (Hal.out.block _ HX.out.lt)).kept (hb1.block _ (Nat.lt_of_lt_of_le HX.out.lt Hal.out.size))
      have x0 := HX1.out.c0
      have x1 := HX1.out.c1
      have f0 := HX1.out.fr 0
      have f1 := HX1.out.fr 1
      have hlt := HX.out.lt
      have hne : xb ≠ w.heap.size := by omega
      have hne' : w.heap.size ≠ xb := by omega
      have HB1 : Hid (But xb w w1) := (But.of_below Hal.out).trans (But.of_below hb1)
      clear hb1
      go_wp2
      obtain ⟨b, o, hab, hRd⟩ := HR.out
      have HRd : Hid (Rd W b o s) := hRd
      have Hra : Hid (s.len ≠ 0 → rk = some ⟨b, o, none⟩) := fun h => hab.resolve_left h
      clear hRd hab z0 z1 z2 z3 z4 x0 x1 f0 f1
      go_loopw [37] (fun i wr => ∃ (j cj pj : Nat) (fi : Fo), i = .int .i64 j ∧ fi.len + j = s.len ∧ fi.size ≤ s.size ∧ cj + fi.size ≤ 1152921504606846976 ∧ pj ≤ 1152921504606846976 ∧ Hid fi.tx ∧ Hid (Rd W b (o + j * 5) fi) ∧ Hid (Xb wr xb cj pj) ∧ Hid (But xb w wr) ∧ Hid (ext s L (c + 1, p) = ext fi L (cj, pj))) (fun i _ => s.len - (intOf i).toNat)
      case atStart => exact ⟨0, c + 1, p, s, rfl, by simp, Nat.le_refl _, by omega, by omega, HT, by simpa using HRd, (HX1.out.set0 (c + 1)) |> fun h => by rw [show ((c + 1 : Nat) : Int) = (c : Int) + 1 by omega] at h; exact h, HB1.out.set _, rfl⟩
      case round =>
        obtain ⟨j, cj, pj, fi, rfl, hj, hsz, hcj, hpj, HFt, HF, HXj, HBj, HQ⟩ := hrel
        cases fi with
        | nil =>
          have hj' : j = s.len := by simpa [Fo.len] using hj
          have HJ : Hid _ := hj'
          have hjl : ¬ ((j : Int) < (s.len : Int)) := by omega
          clear hj hj'
          go_wp2
          go_end0
          rw [HQ.out]
          exact ⟨⟨_, rfl⟩, HXj.out, HBj.out⟩
        | cons k' n' t' s' d' r' =>
          have HWr : Hid (Below W.heap.size W wr) := HW.out.trans (HBj.out.below hx HW.out.size)
          obtain ⟨⟨g0, g1, g2, g3, g4, g5⟩, ⟨rk', ck', bk', ok', gk, gz, gs⟩, gr⟩ := HF.out
          have ec : ∀ o, wr.cell? ⟨b, o, none⟩ = W.cell? ⟨b, o, none⟩ := fun o => HWr.out.cell (p := ⟨b, o, none⟩) g0
          have h1 := (ec _).trans g1
          have h2 := (ec _).trans g2
          have h3 := (ec _).trans g3
          have h4 := (ec _).trans g4
          have hk := (ec _).trans gk
          have h0 : b < wr.heap.size := Nat.lt_of_lt_of_le g0 HWr.out.size
          have hxr := HXj.out.lt
          simp only [Fo.len] at hj
          simp only [Fo.size] at hsz hcj
          obtain ⟨ft1, ft2, ft3⟩ := HFt.out
          have Hft1 : Hid _ := ft1
          have Hft2 : Hid _ := ft2
          have Hft3 : Hid _ := ft3
          have HRk : Hid (RS W rk' s') := ⟨bk', ok', gz, gs⟩
          have Hr : Hid _ := gr
          have hjs : j < s.len := by omega
          have hra := Hra.out (by omega)
          subst hra
          have i1 : (j : Int) < (s.len : Int) := by omega
          have hmm := hm
          unfold maxLen at hmm
          clear ft1 ft2 ft3 gz gs gr g1 g2 g3 g4 gk ec HFt
          go_wp2_with fail
          have HA : Hid (Below wr.heap.size wr (wr.alloc (.cells #[.int .u8 k', .int .i64 n', S t', .slice rk' s'.len ck', .bool d'] 58))) := (Below.refl _ wr).alloc (Nat.le_refl _) _
          have hcall := HC.out s'.size (by omega) k' n' t' s' d' rk' ck' L cj pj xb W (wr.alloc (.cells #[.int .u8 k', .int .i64 n', S t', .slice rk' s'.len ck', .bool d'] 58)) (Nat.le_refl _) g5 Hft1.out Hft2.out HRk.out HE.out (HWr.out.trans (HA.out.mono HWr.out.size)) hx (HXj.out.kept (HA.out.block _ HXj.out.lt)) (by omega) (by omega) hpj
          refine hcall.mono ?_
          intro e w2 hP
          clear hcall h1 h2 h3 h4 hk
          cases hk2 : ext (.cons k' n' t' s' d' .nil) L (cj, pj) with
          | none =>
            rw [hk2] at hP
            obtain ⟨rfl, hB2⟩ := hP
            have HK2 : Hid _ := hk2
            have HB2 : Hid (But xb w w2) := (HBj.out.trans (But.of_below HA.out)).trans hB2
            clear hk2 hB2
            go_wp2
            refine ⟨rfl, ?_⟩
            rw [HQ.out, ext_cons, HK2.out]
            exact ⟨rfl, HB2.out⟩
          | some x =>
            obtain ⟨c1, p1⟩ := x
            rw [hk2] at hP
            obtain ⟨⟨v, rfl⟩, hX2, hB2⟩ := hP
            have hbd := ext_bound _ _ _ _ hk2
            simp only [Fo.size] at hbd
            have HK2 : Hid _ := hk2
            have HX2 : Hid _ := hX2
            have HB2 : Hid (But xb w w2) := (HBj.out.trans (But.of_below HA.out)).trans hB2
            clear hk2 hB2 hX2
            go_wp2
            go_roundw
            case rel => exact ⟨j + 1, c1, p1, r', by go_num, by omega, by omega, by omega, by omega, Hft3, by rw [show o + (j + 1) * 5 = o + j * 5 + 5 by omega]; exact Hr, HX2, HB2, by show _ = _; rw [HQ.out, ext_cons, HK2.out]; rfl⟩
            case measure => simp [intOf]; omega
theorem add_all : ∀ N, AddC N := fun N => by
  induction N using Nat.strongRecOn with
  | _ N ih => exact add_of ih
end Go.Proofs.YtlpdfifjdlfpdaaGreatDoor

/- check: what cannot be written is given up. -/
namespace Go.Proofs.YtlpdfifjdlfpdaaGreatDoor
open Go.RowKit

/-- The error of data that cannot be written; 0: they can. -/
def chk (f : Fo) : Int :=
  match ext f 0 (0, 0) with
  | none => 60
  | some (c, p) => if 100 < p then 61 else if 10000 < c then 62 else 0

set_option maxRecDepth 100000 in
set_option maxHeartbeats 4000000 in
theorem check_any (ra : Option Addr) (ca : Nat) (f : Fo) (w : World) (hm : f.len ≤ maxLen) (hs : f.size + 1 ≤ 1152921504606846976) (ht : f.tx) (hR : RS w ra f) (hE : EV w) :
    Calls Tryz.prog 53 #[.slice ra f.len ca] w fun e w' => ((chk f = 0 ∧ ∃ v, e = .returned v) ∨ (chk f ≠ 0 ∧ e = .panicked (fault (chk f) 0))) ∧ Below w.heap.size w w' := by
  obtain ⟨b, o, hab, hRd⟩ := hR
  have HRd : Hid (Rd w b o f) := hRd
  have Hra : Hid (f.len ≠ 0 → ra = some ⟨b, o, none⟩) := fun h => hab.resolve_left h
  have HE : Hid (EV w) := hE
  have HT : Hid (f.tx) := ht
  clear hRd hab hE ht
  have hmm := hm
  unfold maxLen at hmm
  go_enter Tryz.func53, Tryz.ntmps53
  go_wp2
  have HX0 : Hid (Xb (w.alloc (.cells #[.int .i64 0, .int .i64 0] 154)) w.heap.size 0 0) := ⟨World.alloc_heap_new w _⟩
  have HB0 : Hid (Below w.heap.size w (w.alloc (.cells #[.int .i64 0, .int .i64 0] 154))) := (Below.refl _ w).alloc (Nat.le_refl _) _
  go_loopw [7] (fun i wr => ∃ (j cj pj : Nat) (fi : Fo), i = .int .i64 j ∧ fi.len + j = f.len ∧ fi.size ≤ f.size ∧ cj + fi.size ≤ 1152921504606846976 ∧ pj ≤ 1152921504606846976 ∧ Hid fi.tx ∧ Hid (Rd w b (o + j * 5) fi) ∧ Hid (Xb wr w.heap.size cj pj) ∧ Hid (Below w.heap.size w wr) ∧ Hid (ext f 0 (0, 0) = ext fi 0 (cj, pj))) (fun i _ => f.len - (intOf i).toNat)
  case atStart => exact ⟨0, 0, 0, f, rfl, by simp, Nat.le_refl _, by omega, by omega, HT, by simpa using HRd, HX0, HB0, rfl⟩
  case round =>
    obtain ⟨j, cj, pj, fi, rfl, hj, hsz, hcj, hpj, HFt, HF, HXj, HBj, HQ⟩ := hrel
    cases fi with
    | nil =>
      have hj' : j = f.len := by simpa [Fo.len] using hj
      have HJ : Hid _ := hj'
      have hjl : ¬ ((j : Int) < (f.len : Int)) := by omega
      have HK : Hid (chk f = if 100 < pj then 61 else if 10000 < cj then 62 else 0) := by
        show chk f = _
        unfold chk
        rw [HQ.out]
        rfl
      have x0 := HXj.out.c0
      have x1 := HXj.out.c1
      clear hj hj'
      by_cases hp : 100 < pj
      · have hp' : (100 : Int) < (pj : Int) := by omega
        go_wp2
        refine ⟨rfl, .inr ?_, HBj.out⟩
        rw [HK.out, if_pos hp]
        exact ⟨by decide, rfl⟩
      · have hp' : ¬ (100 : Int) < (pj : Int) := by omega
        by_cases hc : 10000 < cj
        · have hc' : (10000 : Int) < (cj : Int) := by omega
          go_wp2
          refine ⟨rfl, .inr ?_, HBj.out⟩
          rw [HK.out, if_neg hp, if_pos hc]
          exact ⟨by decide, rfl⟩
        · have hc' : ¬ (10000 : Int) < (cj : Int) := by omega
          go_wp2
          go_end0
          refine ⟨.inl ?_, HBj.out⟩
          rw [HK.out, if_neg hp, if_neg hc]
          exact ⟨rfl, _, rfl⟩
    | cons k' n' t' s' d' r' =>
      obtain ⟨⟨g0, g1, g2, g3, g4, g5⟩, ⟨rk', ck', bk', ok', gk, gz, gs⟩, gr⟩ := HF.out
      have ec : ∀ o, wr.cell? ⟨b, o, none⟩ = w.cell? ⟨b, o, none⟩ := fun o => HBj.out.cell (p := ⟨b, o, none⟩) g0
      have h1 := (ec _).trans g1
      have h2 := (ec _).trans g2
      have h3 := (ec _).trans g3
      have h4 := (ec _).trans g4
      have hk := (ec _).trans gk
      have h0 : b < wr.heap.size := Nat.lt_of_lt_of_le g0 HBj.out.size
      have hxr := HXj.out.lt
      simp only [Fo.len] at hj
      simp only [Fo.size] at hsz hcj
      obtain ⟨ft1, ft2, ft3⟩ := HFt.out
      have Hft1 : Hid _ := ft1
      have Hft2 : Hid _ := ft2
      have Hft3 : Hid _ := ft3
      have HRk : Hid (RS w rk' s') := ⟨bk', ok', gz, gs⟩
      have Hr : Hid _ := gr
      have hjs : j < f.len := by omega
      have hra := Hra.out (by omega)
      subst hra
      have i1 : (j : Int) < (f.len : Int) := by omega
      clear ft1 ft2 ft3 gz gs gr g1 g2 g3 g4 gk ec HFt
      go_wp2_with fail
      have HA : Hid (Below wr.heap.size wr (wr.alloc (.cells #[.int .u8 k', .int .i64 n', S t', .slice rk' s'.len ck', .bool d'] 58))) := (Below.refl _ wr).alloc (Nat.le_refl _) _
      have hcall := add_all s'.size k' n' t' s' d' rk' ck' 0 cj pj w.heap.size w (wr.alloc (.cells #[.int .u8 k', .int .i64 n', S t', .slice rk' s'.len ck', .bool d'] 58)) (Nat.le_refl _) g5 Hft1.out Hft2.out HRk.out HE.out (HBj.out.trans (HA.out.mono HBj.out.size)) (Nat.le_refl _) (HXj.out.kept (HA.out.block _ HXj.out.lt)) (by omega) (by omega) hpj
      refine hcall.mono ?_
      intro e w2 hP
      clear hcall h1 h2 h3 h4 hk
      cases hk2 : ext (.cons k' n' t' s' d' .nil) 0 (cj, pj) with
      | none =>
        rw [hk2] at hP
        obtain ⟨rfl, hB2⟩ := hP
        have HK : Hid (chk f = 60) := by
          show chk f = _
          unfold chk
          rw [HQ.out, ext_cons, hk2]
          rfl
        have HB2 : Hid (Below w.heap.size w w2) := (HBj.out.trans (HA.out.mono HBj.out.size)).trans (hB2.below (Nat.le_refl _) (Nat.le_trans HBj.out.size HA.out.size))
        clear hk2 hB2
        go_wp2
        refine ⟨rfl, .inr ?_, HB2.out⟩
        rw [HK.out]
        exact ⟨by decide, rfl⟩
      | some x =>
        obtain ⟨c1, p1⟩ := x
        rw [hk2] at hP
        obtain ⟨⟨v, rfl⟩, hX2, hB2⟩ := hP
        have hbd := ext_bound _ _ _ _ hk2
        simp only [Fo.size] at hbd
        have HK2 : Hid _ := hk2
        have HX2 : Hid _ := hX2
        have HB2 : Hid (Below w.heap.size w w2) := (HBj.out.trans (HA.out.mono HBj.out.size)).trans (hB2.below (Nat.le_refl _) (Nat.le_trans HBj.out.size HA.out.size))
        clear hk2 hB2 hX2
        go_wp2
        go_roundw
        case rel => exact ⟨j + 1, c1, p1, r', by go_num, by omega, by omega, by omega, by omega, Hft3, by rw [show o + (j + 1) * 5 = o + j * 5 + 5 by omega]; exact Hr, HX2, HB2, by show _ = _; rw [HQ.out, ext_cons, HK2.out]; rfl⟩
        case measure => simp [intOf]; omega
end Go.Proofs.YtlpdfifjdlfpdaaGreatDoor

/- strings.Builder: WriteByte and WriteString: the shelf's contracts, laid by hand. -/
namespace Go.Proofs.YtlpdfifjdlfpdaaGreatDoor
open Go.RowKit

def bren : Go.Shelf.Ren := ⟨fun | 167 => 70 | 166 => 88 | 240 => 87 | 276 => 102 | n => n, fun | 0 => 0 | 3 => 3 | 4 => 4 | 5 => 5 | 9 => 9 | 20 => 20 | 37 => 114 | 70 => 156 | 72 => 158 | 75 => 160 | 80 => 163 | 164 => 182 | n => n, fun | n => n⟩
theorem blays167 : Lays.n167 Tryz.prog bren := {
  mixed := by kernel_rfl
  f167 := Tryz.func70.trans (congrArg some (by kernel_rfl))
  f240 := Tryz.func87.trans (congrArg some (by kernel_rfl))
  f276 := Tryz.func102.trans (congrArg some (by kernel_rfl))
  t0 := Tryz.underlying0
  a0 := Tryz.isAgg0
  z0 := Tryz.sizeOf0
  v0 := Tryz.zeroValue0
  t4 := Tryz.underlying4
  a4 := Tryz.isAgg4
  z4 := Tryz.sizeOf4
  v4 := Tryz.zeroValue4
  t5 := Tryz.underlying5
  a5 := Tryz.isAgg5
  z5 := Tryz.sizeOf5
  v5 := Tryz.zeroValue5
  t9 := Tryz.underlying9
  a9 := Tryz.isAgg9
  z9 := Tryz.sizeOf9
  v9 := Tryz.zeroValue9
  t20 := Tryz.underlying20
  a20 := Tryz.isAgg20
  z20 := Tryz.sizeOf20
  v20 := Tryz.zeroValue20
  t37 := Tryz.underlying114
  a37 := Tryz.isAgg114
  z37 := Tryz.sizeOf114
  v37 := Tryz.zeroValue114
  t70 := Tryz.underlying156
  a70 := Tryz.isAgg156
  z70 := Tryz.sizeOf156
  v70 := Tryz.zeroValue156
  t72 := Tryz.underlying158
  a72 := Tryz.isAgg158
  z72 := Tryz.sizeOf158
  v72 := Tryz.zeroValue158
  t75 := Tryz.underlying160
  a75 := Tryz.isAgg160
  z75 := Tryz.sizeOf160
  v75 := Tryz.zeroValue160
  t164 := Tryz.underlying182
  a164 := Tryz.isAgg182
  z164 := Tryz.sizeOf182
  v164 := Tryz.zeroValue182 }
theorem blays166 : Lays.n166 Tryz.prog bren := {
  mixed := by kernel_rfl
  f166 := Tryz.func88.trans (congrArg some (by kernel_rfl))
  f240 := Tryz.func87.trans (congrArg some (by kernel_rfl))
  f276 := Tryz.func102.trans (congrArg some (by kernel_rfl))
  t0 := Tryz.underlying0
  a0 := Tryz.isAgg0
  z0 := Tryz.sizeOf0
  v0 := Tryz.zeroValue0
  t3 := Tryz.underlying3
  a3 := Tryz.isAgg3
  z3 := Tryz.sizeOf3
  v3 := Tryz.zeroValue3
  t4 := Tryz.underlying4
  a4 := Tryz.isAgg4
  z4 := Tryz.sizeOf4
  v4 := Tryz.zeroValue4
  t9 := Tryz.underlying9
  a9 := Tryz.isAgg9
  z9 := Tryz.sizeOf9
  v9 := Tryz.zeroValue9
  t20 := Tryz.underlying20
  a20 := Tryz.isAgg20
  z20 := Tryz.sizeOf20
  v20 := Tryz.zeroValue20
  t37 := Tryz.underlying114
  a37 := Tryz.isAgg114
  z37 := Tryz.sizeOf114
  v37 := Tryz.zeroValue114
  t70 := Tryz.underlying156
  a70 := Tryz.isAgg156
  z70 := Tryz.sizeOf156
  v70 := Tryz.zeroValue156
  t72 := Tryz.underlying158
  a72 := Tryz.isAgg158
  z72 := Tryz.sizeOf158
  v72 := Tryz.zeroValue158
  t75 := Tryz.underlying160
  a75 := Tryz.isAgg160
  z75 := Tryz.sizeOf160
  v75 := Tryz.zeroValue160
  t164 := Tryz.underlying182
  a164 := Tryz.isAgg182
  z164 := Tryz.sizeOf182
  v164 := Tryz.zeroValue182 }
theorem bextra : Builder.Extra Tryz.prog bren := {
  sizeBuilder := by kernel_rfl
  liesBuilder := by kernel_rfl
  t5 := Tryz.underlying5
  a5 := Tryz.isAgg5
  z5 := Tryz.sizeOf5
  v5 := Tryz.zeroValue5
  infoByte := by kernel_rfl
  cellsByte := by kernel_rfl
  sizeByte := by kernel_rfl
  neB5 := by decide }
theorem writeByte_any (B b : Nat) (bs : List Value) (c : Int) (w : World) (h : Lib.IsBuilderF 158 5 B b bs w) (hlen : bs.length + 1 ≤ 140737488355328) (hBw : B ≤ w.heap.size) :
    Calls Tryz.prog 70 #[.pointer (some ⟨b, 0, none⟩), .int .u8 c] w fun e w' => e = .returned .nilIface ∧ (Lib.BuilderAtF 158 5 B b (.pointer (some ⟨b, 0, none⟩)) (bs ++ [.int .u8 c]) w' ∧ Below B w w' ∧ Lib.OthersKept 5 (some b) w w') :=
  Any.Builder_WriteByte_k blays167 bextra B b bs c w h hlen hBw
theorem writeString_any (B b : Nat) (bs : List Value) (s : ByteArray) (w : World) (h : Lib.IsBuilderF 158 5 B b bs w) (hlen : bs.length + s.size ≤ 140737488355328) (hBw : B ≤ w.heap.size) :
    Calls Tryz.prog 88 #[.pointer (some ⟨b, 0, none⟩), .string s] w fun e w' => e = .returned (.tuple #[.int .i64 s.size, .nilIface]) ∧ (Lib.BuilderAtF 158 5 B b (.pointer (some ⟨b, 0, none⟩)) (bs ++ Lib.strCells s) w' ∧ Below B w w' ∧ Lib.OthersKept 5 (some b) w w') :=
  Any.Builder_WriteString_k blays166 bextra B b bs s w h hlen hBw
end Go.Proofs.YtlpdfifjdlfpdaaGreatDoor

/- isQuoted. -/
namespace Go.Proofs.YtlpdfifjdlfpdaaGreatDoor
open Go.RowKit

def quoteB : List UInt8 := [113, 117, 111, 116, 101]
/-- Is a list written with a quote? -/
def isQ (s : Fo) (d : Bool) : Bool := match s with
  | .cons k n t s1 d1 (.cons _ _ _ _ _ .nil) => !d && sameB k n t s1 d1 2 0 quoteB .nil false
  | _ => false

theorem keepQ {W w6 : World} {g b o : Nat} {v0 v1 v2 v3 v4 u0 u1 u2 u3 u4 : Option Value} (hb : Below W.heap.size W w6)
    (h : ((W.cell? ⟨g, 0, none⟩ = v0 ∧ W.cell? ⟨g, 1, none⟩ = v1 ∧ W.cell? ⟨g, 2, none⟩ = v2 ∧ W.cell? ⟨g, 3, none⟩ = v3 ∧ W.cell? ⟨g, 4, none⟩ = v4) ∧ g < W.heap.size) ∧ (W.cell? ⟨b, o, none⟩ = u0 ∧ W.cell? ⟨b, o + 1, none⟩ = u1 ∧ W.cell? ⟨b, o + 1 + 1, none⟩ = u2 ∧ W.cell? ⟨b, o + 1 + 1 + 1, none⟩ = u3 ∧ W.cell? ⟨b, o + 1 + 1 + 1 + 1, none⟩ = u4) ∧ b < W.heap.size) :
    ((w6.cell? ⟨g, 0, none⟩ = v0 ∧ w6.cell? ⟨g, 1, none⟩ = v1 ∧ w6.cell? ⟨g, 2, none⟩ = v2 ∧ w6.cell? ⟨g, 3, none⟩ = v3 ∧ w6.cell? ⟨g, 4, none⟩ = v4) ∧ g < w6.heap.size) ∧ (w6.cell? ⟨b, o, none⟩ = u0 ∧ w6.cell? ⟨b, o + 1, none⟩ = u1 ∧ w6.cell? ⟨b, o + 1 + 1, none⟩ = u2 ∧ w6.cell? ⟨b, o + 1 + 1 + 1, none⟩ = u3 ∧ w6.cell? ⟨b, o + 1 + 1 + 1 + 1, none⟩ = u4) ∧ b < w6.heap.size := by
  obtain ⟨h1, ⟨a0, a1, a2, a3, a4⟩, hg⟩ := h
  have e : ∀ o, w6.cell? ⟨b, o, none⟩ = W.cell? ⟨b, o, none⟩ := fun o => hb.cell (p := ⟨b, o, none⟩) hg
  exact ⟨keep5 hb h1, ⟨(e _).trans a0, (e _).trans a1, (e _).trans a2, (e _).trans a3, (e _).trans a4⟩, Nat.lt_of_lt_of_le hg hb.size⟩

set_option maxRecDepth 100000 in
set_option maxHeartbeats 4000000 in
theorem isQuoted_n (k n : Int) (t : List UInt8) (s : Fo) (d : Bool) (rk : Option Addr) (ck : Nat) (w : World) (_ : s.len ≤ maxLen) (hR : RS w rk s) (h2 : s.len ≠ 2) :
    Calls Tryz.prog 90 #[.agg #[.int .u8 k, .int .i64 n, S t, .slice rk s.len ck, .bool d]] w fun e w' => e = .returned (.bool false) ∧ Below w.heap.size w w' := by
  have HR : Hid (RS w rk s) := hR
  have hal : Below w.heap.size w (w.alloc (.cells #[.int .u8 k, .int .i64 n, S t, .slice rk s.len ck, .bool d] 58)) := (Below.refl _ w).alloc (Nat.le_refl _) _
  have Hal : Hid _ := hal
  clear hR hal
  have hmx : Tryz.prog.follows .mixedOrders = true := by kernel_rfl
  have hw0 : w.heap.size < w.heap.size + 1 := by omega
  have b2 : ((s.len : Int) == 2) = false := by rw [beq_eq_false_iff_ne]; omega
  go_enter Tryz.func90, Tryz.ntmps90
  go_wp2_with fail
  go_quiet (fail)
  go_wp2
  go_ret
  exact ⟨rfl, Hal.out.trans ⟨rfl, rfl, rfl, Nat.le_refl _, fun _ _ => rfl⟩⟩

set_option maxRecDepth 100000 in
set_option maxHeartbeats 4000000 in
theorem isQuoted_d (k n : Int) (t : List UInt8) (s : Fo) (d : Bool) (rk : Option Addr) (ck : Nat) (w : World) (_ : s.len ≤ maxLen) (hR : RS w rk s) (h2 : s.len = 2) (hd : d = true) :
    Calls Tryz.prog 90 #[.agg #[.int .u8 k, .int .i64 n, S t, .slice rk s.len ck, .bool d]] w fun e w' => e = .returned (.bool false) ∧ Below w.heap.size w w' := by
  have HR : Hid (RS w rk s) := hR
  have hal : Below w.heap.size w (w.alloc (.cells #[.int .u8 k, .int .i64 n, S t, .slice rk s.len ck, .bool d] 58)) := (Below.refl _ w).alloc (Nat.le_refl _) _
  have Hal : Hid _ := hal
  clear hR hal
  have hmx : Tryz.prog.follows .mixedOrders = true := by kernel_rfl
  have hw0 : w.heap.size < w.heap.size + 1 := by omega
  subst hd
  have b2 : ((s.len : Int) == 2) = true := by rw [beq_iff_eq]; omega
  go_enter Tryz.func90, Tryz.ntmps90
  go_wp2_with fail
  go_quiet (fail)
  go_wp2
  go_ret
  have hl := Hal.out
  rw [h2] at hl
  exact ⟨rfl, hl.trans ⟨rfl, rfl, rfl, Nat.le_refl _, fun _ _ => rfl⟩⟩

set_option maxRecDepth 100000 in
set_option maxHeartbeats 4000000 in
theorem isQuoted_t (k n : Int) (t : List UInt8) (k1 n1 : Int) (t1 : List UInt8) (s1 : Fo) (d1 : Bool) (rk : Option Addr) (ck : Nat) (w : World) (r : Fo) (hR : RS w rk (.cons k1 n1 t1 s1 d1 r)) :
    Calls Tryz.prog 90 #[.agg #[.int .u8 k, .int .i64 n, S t, .slice rk 2 ck, .bool false]] w fun e w' => e = .returned (.bool (sameB k1 n1 t1 s1 d1 2 0 quoteB .nil false)) ∧ Below w.heap.size w w' := by
  obtain ⟨b, o, hz, ⟨g0, g1, g2, g3, g4, g5⟩, ⟨rk', ck', bk', ok', gk, gz, gs⟩, gr⟩ := hR
  have hra : rk = some ⟨b, o, none⟩ := hz.resolve_left (by simp [Fo.len])
  subst hra
  have HRk : Hid (RS w rk' s1) := ⟨bk', ok', gz, gs⟩
  have hal : Below w.heap.size w (w.alloc (.cells #[.int .u8 k, .int .i64 n, S t, .slice (some ⟨b, o, none⟩) 2 ck, .bool false] 58)) := (Below.refl _ w).alloc (Nat.le_refl _) _
  have Hal : Hid _ := hal
  clear hal hz gz gs gr
  have hmx : Tryz.prog.follows .mixedOrders = true := by kernel_rfl
  have hw0 : w.heap.size < w.heap.size + 1 := by omega
  have hb0 : b < w.heap.size + 1 := by omega
  have hbn : b ≠ w.heap.size := by omega
  go_enter Tryz.func90, Tryz.ntmps90
  go_wp2_with fail
  first
  | go_region_held3 (fun wx => ((wx.cell? ⟨w.heap.size, 0, none⟩ = some (.int .u8 k) ∧ wx.cell? ⟨w.heap.size, 1, none⟩ = some (.int .i64 n) ∧ wx.cell? ⟨w.heap.size, 2, none⟩ = some (S t) ∧ wx.cell? ⟨w.heap.size, 3, none⟩ = some (.slice (some ⟨b, o, none⟩) 2 ck) ∧ wx.cell? ⟨w.heap.size, 4, none⟩ = some (.bool false)) ∧ w.heap.size < wx.heap.size) ∧ (wx.cell? ⟨b, o, none⟩ = some (.int .u8 k1) ∧ wx.cell? ⟨b, o + 1, none⟩ = some (.int .i64 n1) ∧ wx.cell? ⟨b, o + 1 + 1, none⟩ = some (S t1) ∧ wx.cell? ⟨b, o + 1 + 1 + 1, none⟩ = some (.slice rk' s1.len ck') ∧ wx.cell? ⟨b, o + 1 + 1 + 1 + 1, none⟩ = some (.bool d1)) ∧ b < wx.heap.size) (first | go_keep | exact keepQ hb6 (by go_keep) | exact keepQ hb7 (by go_keep))
      (first | (go_at_call 85; refine (symbol_any _ _).mono ?_; rintro e w6 ⟨rfl, hb6⟩) | (go_at_call 15; refine (same_any k1 n1 t1 s1 d1 rk' ck' 2 0 quoteB .nil false none 0 _ g5 (by simp [Fo.len]) (((HRk.out.below Hal.out).below (Below.refl _ _).drew).below hb6) (rs_nil _ _)).mono ?_; rintro e w7 ⟨rfl, hb7⟩))
  | fail
  go_wp2
  go_ret
  exact ⟨rfl, Hal.out.drew.trans ((hb6.mono (by simp)).trans (hb7.mono (Nat.le_trans (by simp) hb6.size)))⟩
/-- isQuoted, of any datum. -/
theorem isQuoted_any (k n : Int) (t : List UInt8) (s : Fo) (d : Bool) (rk : Option Addr) (ck : Nat) (w : World) (hm : s.len ≤ maxLen) (hR : RS w rk s) :
    Calls Tryz.prog 90 #[.agg #[.int .u8 k, .int .i64 n, S t, .slice rk s.len ck, .bool d]] w fun e w' => e = .returned (.bool (isQ s d)) ∧ Below w.heap.size w w' := by
  match s, hm, hR with
  | .nil, hm, hR => exact isQuoted_n k n t .nil d rk ck w hm hR (by simp [Fo.len])
  | .cons k1 n1 t1 s1 d1 .nil, hm, hR => exact isQuoted_n k n t _ d rk ck w hm hR (by simp [Fo.len])
  | .cons k1 n1 t1 s1 d1 (.cons _ _ _ _ _ (.cons _ _ _ _ _ _)), hm, hR => exact isQuoted_n k n t _ d rk ck w hm hR (by simp [Fo.len])
  | .cons k1 n1 t1 s1 d1 (.cons k2 n2 t2 s2 d2 .nil), hm, hR =>
    cases d with
    | true => exact isQuoted_d k n t _ true rk ck w hm hR (by simp [Fo.len]) rfl
    | false => exact isQuoted_t k n t k1 n1 t1 s1 d1 rk ck w _ hR
end Go.Proofs.YtlpdfifjdlfpdaaGreatDoor

/- The text of data; a builder that holds a text. -/
namespace Go.Proofs.YtlpdfifjdlfpdaaGreatDoor
open Go.RowKit

/-- What stands between the brackets: the kids' texts. -/
def kidsT (d : Bool) : Bool → List (List UInt8) → List UInt8
  | _, [] => []
  | fst, x :: r => (if fst then [] else [32]) ++ ((if d && r.isEmpty then [46, 32] else []) ++ (x ++ kidsT d false r))
/-- The text of a datum, out of its kids' texts. -/
def oneT (k n : Int) (t : List UInt8) (s : Fo) (d : Bool) (ts : List (List UInt8)) : List UInt8 :=
  if k = 1 then Lib.itoa n else if k = 2 then t else if k = 3 then [35, 102] else if k = 4 then [35, 116]
  else if isQ s d then 39 :: ts.getD 1 [] else 40 :: (kidsT d true ts ++ [41])
/-- The texts of a row of data. -/
def textsT : Fo → List (List UInt8)
  | .nil => []
  | .cons k n t s d r => oneT k n t s d (textsT s) :: textsT r
/-- The text of data: one a line. -/
def linesT : List (List UInt8) → List UInt8
  | [] => []
  | [x] => x
  | x :: y :: r => x ++ 10 :: linesT (y :: r)

/-- A builder in block b that holds a text. -/
def Bu (B b : Nat) (l : List UInt8) (w : World) : Prop := Lib.IsBuilderF 158 5 B b (Lib.byteCells l) w
/-- What writing turns: the builder, and rows of bytes from B on. -/
def Kp (B b : Nat) (w w' : World) : Prop := Below B w w' ∧ Lib.OthersKept 5 (some b) w w'
theorem Kp.refl (B b : Nat) (w : World) : Kp B b w w := ⟨Below.refl _ _, Lib.OthersKept.refl _ _ _⟩
theorem Kp.trans {B b : Nat} {u v w : World} (h : Kp B b u v) (k : Kp B b v w) : Kp B b u w := ⟨h.1.trans k.1, h.2.trans k.2⟩
theorem Kp.below {B b : Nat} {w w' : World} (h : Below w.heap.size w w') (hB : B ≤ w.heap.size) : Kp B b w w' := ⟨h.mono hB, fun k _ hk _ _ => (h.block k (Array.getElem?_eq_some_iff.1 hk).1).trans hk⟩

theorem Bu.kept {B b : Nat} {l : List UInt8} {w w' : World} (h : Bu B b l w) (hb : Below w.heap.size w w') : Bu B b l w' := by
  have go : ∀ p, Lib.BuilderAtF 158 5 B b p (Lib.byteCells l) w → Lib.BuilderAtF 158 5 B b p (Lib.byteCells l) w' := fun p h =>
    ⟨h.1, h.2.choose, (hb.block b h.lt).trans h.2.choose_spec.1, h.2.choose_spec.2.1.kept (row := none) ⟨hb.os, hb.tape, hb.output, hb.size, fun k hk _ => hb.block k hk⟩ (Classical.em _), h.2.choose_spec.2.2⟩
  exact h.imp (go _) (go _)

theorem putB (B b : Nat) (l : List UInt8) (c : Nat) (hc : c < 256) (w : World) (h : Bu B b l w) (hlen : l.length + 1 ≤ 140737488355328) (hBw : B ≤ w.heap.size) :
    Calls Tryz.prog 70 #[.pointer (some ⟨b, 0, none⟩), .int .u8 c] w fun e w' => e = .returned .nilIface ∧ Bu B b (l ++ [c.toUInt8]) w' ∧ Kp B b w w' := by
  refine (writeByte_any B b (Lib.byteCells l) c w h (by rw [Lib.byteCells_length]; exact hlen) hBw).mono ?_
  rintro e w' ⟨rfl, h1, h2, h3⟩
  refine ⟨rfl, .inr ?_, h2, h3⟩
  rw [Lib.byteCells_append]
  have : Lib.byteCells [c.toUInt8] = [Value.int .u8 (c : Int)] := by
    have e : c.toUInt8.toNat = c := by rw [Nat.toUInt8_eq, UInt8.toNat_ofNat']; exact Nat.mod_eq_of_lt hc
    simp only [Lib.byteCells, List.map_cons, List.map_nil, e]
  rw [this]
  exact h1
theorem putS (B b : Nat) (l m : List UInt8) (w : World) (h : Bu B b l w) (hlen : l.length + m.length ≤ 140737488355328) (hBw : B ≤ w.heap.size) :
    Calls Tryz.prog 88 #[.pointer (some ⟨b, 0, none⟩), .string ⟨m.toArray⟩] w fun e w' => (∃ v, e = .returned v) ∧ Bu B b (l ++ m) w' ∧ Kp B b w w' := by
  refine (writeString_any B b (Lib.byteCells l) ⟨m.toArray⟩ w h (by rw [Lib.byteCells_length]; show l.length + m.toArray.size ≤ _; simpa using hlen) hBw).mono ?_
  rintro e w' ⟨rfl, h1, h2, h3⟩
  refine ⟨⟨_, rfl⟩, .inr ?_, h2, h3⟩
  rw [Lib.byteCells_append]
  exact h1

set_option maxRecDepth 100000 in
set_option maxHeartbeats 4000000 in
theorem write_2 (n : Int) (t : List UInt8) (s : Fo) (d : Bool) (rk : Option Addr) (ck B b : Nat) (l : List UInt8) (w : World) (h : Bu B b l w) (hlen : l.length + t.length ≤ 140737488355328) (hBw : B ≤ w.heap.size) :
    Calls Tryz.prog 71 #[.pointer (some ⟨b, 0, none⟩), .agg #[.int .u8 2, .int .i64 n, S t, .slice rk s.len ck, .bool d]] w fun e w' => (∃ v, e = .returned v) ∧ Bu B b (l ++ t) w' ∧ Kp B b w w' := by
  have H : Hid (Bu B b l w) := h
  clear h
  have hal : Below w.heap.size w (w.alloc (.cells #[.int .u8 2, .int .i64 n, S t, .slice rk s.len ck, .bool d] 58)) := (Below.refl _ w).alloc (Nat.le_refl _) _
  have Hal : Hid _ := hal
  clear hal
  go_enter Tryz.func71, Tryz.ntmps71
  go_wp2_with fail
  refine (putS B b l t _ (Bu.kept H.out Hal.out) hlen (Nat.le_trans hBw Hal.out.size)).mono ?_
  rintro e w1 ⟨⟨v, rfl⟩, hB1, hK1⟩
  have HB1 : Hid (Bu B b _ w1) := hB1
  have HK1 : Hid (Kp B b _ w1) := hK1
  clear hB1 hK1
  go_wp2
  go_end0
  exact ⟨⟨_, rfl⟩, HB1.out, (Kp.below Hal.out hBw).trans HK1.out⟩

set_option maxRecDepth 100000 in
set_option maxHeartbeats 4000000 in
theorem write_3 (n : Int) (t : List UInt8) (s : Fo) (d : Bool) (rk : Option Addr) (ck B b : Nat) (l : List UInt8) (w : World) (h : Bu B b l w) (hlen : l.length + 2 ≤ 140737488355328) (hBw : B ≤ w.heap.size) :
    Calls Tryz.prog 71 #[.pointer (some ⟨b, 0, none⟩), .agg #[.int .u8 3, .int .i64 n, S t, .slice rk s.len ck, .bool d]] w fun e w' => (∃ v, e = .returned v) ∧ Bu B b (l ++ [35, 102]) w' ∧ Kp B b w w' := by
  have H : Hid (Bu B b l w) := h
  clear h
  have hal : Below w.heap.size w (w.alloc (.cells #[.int .u8 3, .int .i64 n, S t, .slice rk s.len ck, .bool d] 58)) := (Below.refl _ w).alloc (Nat.le_refl _) _
  have Hal : Hid _ := hal
  clear hal
  go_enter Tryz.func71, Tryz.ntmps71
  go_wp2_with fail
  refine (putS B b l [35, 102] _ (Bu.kept H.out Hal.out) hlen (Nat.le_trans hBw Hal.out.size)).mono ?_
  rintro e w1 ⟨⟨v, rfl⟩, hB1, hK1⟩
  have HB1 : Hid (Bu B b _ w1) := hB1
  have HK1 : Hid (Kp B b _ w1) := hK1
  clear hB1 hK1
  go_wp2
  go_end0
  exact ⟨⟨_, rfl⟩, HB1.out, (Kp.below Hal.out hBw).trans HK1.out⟩

set_option maxRecDepth 100000 in
set_option maxHeartbeats 4000000 in
theorem write_4 (n : Int) (t : List UInt8) (s : Fo) (d : Bool) (rk : Option Addr) (ck B b : Nat) (l : List UInt8) (w : World) (h : Bu B b l w) (hlen : l.length + 2 ≤ 140737488355328) (hBw : B ≤ w.heap.size) :
    Calls Tryz.prog 71 #[.pointer (some ⟨b, 0, none⟩), .agg #[.int .u8 4, .int .i64 n, S t, .slice rk s.len ck, .bool d]] w fun e w' => (∃ v, e = .returned v) ∧ Bu B b (l ++ [35, 116]) w' ∧ Kp B b w w' := by
  have H : Hid (Bu B b l w) := h
  clear h
  have hal : Below w.heap.size w (w.alloc (.cells #[.int .u8 4, .int .i64 n, S t, .slice rk s.len ck, .bool d] 58)) := (Below.refl _ w).alloc (Nat.le_refl _) _
  have Hal : Hid _ := hal
  clear hal
  go_enter Tryz.func71, Tryz.ntmps71
  go_wp2_with fail
  refine (putS B b l [35, 116] _ (Bu.kept H.out Hal.out) hlen (Nat.le_trans hBw Hal.out.size)).mono ?_
  rintro e w1 ⟨⟨v, rfl⟩, hB1, hK1⟩
  have HB1 : Hid (Bu B b _ w1) := hB1
  have HK1 : Hid (Kp B b _ w1) := hK1
  clear hB1 hK1
  go_wp2
  go_end0
  exact ⟨⟨_, rfl⟩, HB1.out, (Kp.below Hal.out hBw).trans HK1.out⟩

end Go.Proofs.YtlpdfifjdlfpdaaGreatDoor
