/- The document's Same. -/
import Derived.Test.YtlpdfifjdlfpdaaGreatDoorHSameD
namespace Go.Proofs.YtlpdfifjdlfpdaaGreatDoor
open Go.RowKit

theorem keep2 {W w6 : World} {g : Nat} {v v' : Option Value} (hb : Below W.heap.size W w6) (h : (W.cell? ⟨g, 3, none⟩ = v ∧ W.cell? ⟨g + 1, 3, none⟩ = v') ∧ g + 1 < W.heap.size) :
    (w6.cell? ⟨g, 3, none⟩ = v ∧ w6.cell? ⟨g + 1, 3, none⟩ = v') ∧ g + 1 < w6.heap.size :=
  ⟨⟨(hb.cell (p := ⟨g, 3, none⟩) (Nat.lt_of_succ_lt h.2)).trans h.1.1, (hb.cell (p := ⟨g + 1, 3, none⟩) h.2).trans h.1.2⟩, Nat.lt_of_lt_of_le h.2 hb.size⟩

def SameRC (N : Nat) : Prop := ∀ (k n : Int) (t : List UInt8) (s : Fo) (d : Bool) (rk : Option Addr) (ck : Nat) (k' n' : Int) (t' : List UInt8) (s' : Fo) (d' : Bool) (rk' : Option Addr) (ck' : Nat) (w : World), s.size ≤ N → s.len ≤ maxLen → s'.len ≤ maxLen → RS w rk s → RS w rk' s' →
  Calls Tryz.prog 16 #[.agg #[.int .u8 k, .int .i64 n, S t, .slice rk s.len ck, .bool d], .agg #[.int .u8 k', .int .i64 n', S t', .slice rk' s'.len ck', .bool d']] w fun e w' => e = .returned (.bool (sameB k n t s d k' n' t' s' d')) ∧ Below w.heap.size w w'

set_option maxRecDepth 100000 in
set_option maxHeartbeats 4000000 in
theorem sameR_head (k n : Int) (t : List UInt8) (s : Fo) (d : Bool) (rk : Option Addr) (ck : Nat) (k' n' : Int) (t' : List UInt8) (s' : Fo) (d' : Bool) (rk' : Option Addr) (ck' : Nat) (w : World) (hm0 : s.len ≤ maxLen) (hm1 : s'.len ≤ maxLen)
    (h : (k == k') = false ∨ ((k == k') = true ∧ (n == n') = false) ∨ (k = k' ∧ n = n' ∧ t ≠ t') ∨ (k = k' ∧ n = n' ∧ t = t' ∧ (d == d') = false) ∨ (k = k' ∧ n = n' ∧ t = t' ∧ d = d' ∧ s.len ≠ s'.len)) :
    Calls Tryz.prog 16 #[.agg #[.int .u8 k, .int .i64 n, S t, .slice rk s.len ck, .bool d], .agg #[.int .u8 k', .int .i64 n', S t', .slice rk' s'.len ck', .bool d']] w fun e w' => e = .returned (.bool false) ∧ Below w.heap.size w w' := by
  have hm := hm0
  have hm' := hm1
  unfold maxLen at hm hm'
  have hal : Below w.heap.size w ((w.alloc (.cells #[.int .u8 k, .int .i64 n, S t, .slice rk s.len ck, .bool d] 58)).alloc (.cells #[.int .u8 k', .int .i64 n', S t', .slice rk' s'.len ck', .bool d'] 58)) := ((Below.refl _ w).alloc (Nat.le_refl _) _).alloc (by simp) _
  rcases h with h1 | ⟨h1, h2⟩ | ⟨rfl, rfl, h3⟩ | ⟨rfl, rfl, rfl, h4⟩ | ⟨rfl, rfl, rfl, rfl, h5⟩
  · have h1' : (k != k') = true := by simp [bne, h1]
    go_enter Tryz.func16, Tryz.ntmps16
    go_wp2
    go_ret
    exact ⟨rfl, hal⟩
  · have h1' : (k != k') = false := by simp [bne, h1]
    have h2' : (n != n') = true := by simp [bne, h2]
    go_enter Tryz.func16, Tryz.ntmps16
    go_wp2
    go_ret
    exact ⟨rfl, hal⟩
  · go_enter Tryz.func16, Tryz.ntmps16
    go_wp2
    go_ret
    exact ⟨rfl, hal⟩
  · have h4' : (d != d') = true := by simp [bne, h4]
    go_enter Tryz.func16, Tryz.ntmps16
    go_wp2
    go_ret
    exact ⟨rfl, hal⟩
  · have h5' : ((s.len : Int) == (s'.len : Int)) = false := by rw [beq_eq_false_iff_ne]; omega
    have h5'' : ((s.len : Int) != (s'.len : Int)) = true := by simp [bne, h5']
    clear h5
    go_enter Tryz.func16, Tryz.ntmps16
    go_wp2
    go_ret
    exact ⟨rfl, hal⟩

set_option maxRecDepth 100000 in
set_option maxHeartbeats 4000000 in
theorem sameR_body {N : Nat} (h : ∀ M, M < N → SameRC M) (k n : Int) (t : List UInt8) (s : Fo) (d : Bool) (rk : Option Addr) (ck : Nat) (s' : Fo) (rk' : Option Addr) (ck' : Nat) (w : World) (hN : s.size ≤ N) (hm : s.len ≤ maxLen) (hl : s'.len = s.len) (hR : RS w rk s) (hR' : RS w rk' s') :
    Calls Tryz.prog 16 #[.agg #[.int .u8 k, .int .i64 n, S t, .slice rk s.len ck, .bool d], .agg #[.int .u8 k, .int .i64 n, S t, .slice rk' s.len ck', .bool d]] w fun e w' => e = .returned (.bool (s.same s')) ∧ Below w.heap.size w w' := by
  have HS : Hid (∀ M, M < N → SameRC M) := h
  unfold maxLen at hm
  obtain ⟨b, o, hab, hRd⟩ := hR
  obtain ⟨b', o', hab', hRd'⟩ := hR'
  have HRd : Hid (Rd w b o s) := hRd
  have HRd' : Hid (Rd w b' o' s') := hRd'
  have HLL : Hid (s'.len = s.len) := hl
  have Hra : Hid (s.len ≠ 0 → rk = some ⟨b, o, none⟩) := fun h => hab.resolve_left h
  have Hrb : Hid (s.len ≠ 0 → rk' = some ⟨b', o', none⟩) := fun h => hab'.resolve_left (by rw [hl]; exact h)
  have Hal : Hid (Below w.heap.size w ((w.alloc (.cells #[.int .u8 k, .int .i64 n, S t, .slice rk s.len ck, .bool d] 58)).alloc (.cells #[.int .u8 k, .int .i64 n, S t, .slice rk' s.len ck', .bool d] 58))) := ((Below.refl _ w).alloc (Nat.le_refl _) _).alloc (by simp) _
  have HQ0 : Hid (((w.alloc (.cells #[.int .u8 k, .int .i64 n, S t, .slice rk s.len ck, .bool d] 58)).alloc (.cells #[.int .u8 k, .int .i64 n, S t, .slice rk' s.len ck', .bool d] 58)).heap[w.heap.size]? = some (.cells #[.int .u8 k, .int .i64 n, S t, .slice rk s.len ck, .bool d] 58 (0, 0))) := (Below.heap_alloc _ _ _ (by simp)).trans (World.alloc_heap_new w _)
  have HQ1 : Hid (((w.alloc (.cells #[.int .u8 k, .int .i64 n, S t, .slice rk s.len ck, .bool d] 58)).alloc (.cells #[.int .u8 k, .int .i64 n, S t, .slice rk' s.len ck', .bool d] 58)).heap[w.heap.size + 1]? = some (.cells #[.int .u8 k, .int .i64 n, S t, .slice rk' s.len ck', .bool d] 58 (0, 0))) := by
    have := World.alloc_heap_new (w.alloc (.cells #[.int .u8 k, .int .i64 n, S t, .slice rk s.len ck, .bool d] 58)) (.cells #[.int .u8 k, .int .i64 n, S t, .slice rk' s.len ck', .bool d] 58)
    rwa [World.size_alloc] at this
  have hmx : Tryz.prog.follows .mixedOrders = true := by kernel_rfl
  clear h hRd hRd' hab hab' hl
  go_enter Tryz.func16, Tryz.ntmps16
  go_wp2
  go_loopw [5, 6] (fun i q wr => ∃ (j : Nat) (fi gi : Fo), i = .int .i64 j ∧ fi.len + j = s.len ∧ gi.len = fi.len ∧ fi.size ≤ s.size ∧ Hid (Rd w b (o + j * 5) fi) ∧ Hid (Rd w b' (o' + j * 5) gi) ∧ Hid (s.same s' = fi.same gi) ∧ Hid (Below w.heap.size w wr) ∧ Hid (wr.heap[w.heap.size]? = some (.cells #[.int .u8 k, .int .i64 n, S t, .slice rk s.len ck, .bool d] 58 (0, 0))) ∧ Hid (wr.heap[w.heap.size + 1]? = some (.cells #[.int .u8 k, .int .i64 n, S t, .slice rk' s.len ck', .bool d] 58 (0, 0)))) (fun i _ _ => s.len - (intOf i).toNat)
  case atStart => exact ⟨0, s, s', rfl, by simp, HLL.out, Nat.le_refl _, by simpa using HRd, by simpa using HRd', rfl, Hal, HQ0, HQ1⟩
  case round =>
    obtain ⟨j, fi, gi, rfl, hj, hgl, hsz, HF, HG, HQ, HB, HX, HY⟩ := hrel
    obtain ⟨z0, z1, z2, z3, z4, _⟩ := cells5 HX.out
    obtain ⟨y0, y1, y2, y3, y4, _⟩ := cells5 HY.out
    have hws : w.heap.size + 1 < wr.heap.size := (Array.getElem?_eq_some_iff.1 HY.out).1
    have hws' : w.heap.size < wr.heap.size := by omega
    cases fi with
    | nil =>
      have hg0 : gi = .nil := Fo.len0 (by simpa [Fo.len] using hgl)
      subst hg0
      have hj' : j = s.len := by simpa [Fo.len] using hj
      have HJ : Hid _ := hj'
      have hjl : ¬ ((j : Int) < (s.len : Int)) := by omega
      clear hj hj' hgl
      go_wp2
      go_ret
      exact ⟨by rw [HQ.out]; rfl, HB.out⟩
    | cons k1 n1 t1 s1 d1 r1 =>
      cases gi with
      | nil => simp [Fo.len] at hgl
      | cons k2 n2 t2 s2 d2 r2 =>
        obtain ⟨⟨p0, p1, p2, p3, p4, p5⟩, ⟨ra, ca, ba, oa, pk, pz, ps⟩, pr⟩ := HF.out
        obtain ⟨⟨q0, q1, q2, q3, q4, q5⟩, ⟨rb, cb, bb, ob, qk, qz, qs⟩, qr⟩ := HG.out
        simp only [Fo.len] at hj hgl
        simp only [Fo.size] at hsz
        have hlt : j < s.len := by omega
        have hra := Hra.out (by omega)
        have hrb := Hrb.out (by omega)
        subst hra hrb
        have i1 : (j : Int) < (s.len : Int) := by omega
        have i0 : (0 : Int) ≤ (j : Int) := by omega
        have e1 : ∀ o, wr.cell? ⟨b, o, none⟩ = w.cell? ⟨b, o, none⟩ := fun o => HB.out.cell (p := ⟨b, o, none⟩) p0
        have e2 : ∀ o, wr.cell? ⟨b', o, none⟩ = w.cell? ⟨b', o, none⟩ := fun o => HB.out.cell (p := ⟨b', o, none⟩) q0
        have f1 := (e1 _).trans p1
        have f2 := (e1 _).trans p2
        have f3 := (e1 _).trans p3
        have f4 := (e1 _).trans p4
        have fk := (e1 _).trans pk
        have g1 := (e2 _).trans q1
        have g2 := (e2 _).trans q2
        have g3 := (e2 _).trans q3
        have g4 := (e2 _).trans q4
        have gk := (e2 _).trans qk
        have f0 : b < wr.heap.size := Nat.lt_of_lt_of_le p0 HB.out.size
        have g0 : b' < wr.heap.size := Nat.lt_of_lt_of_le q0 HB.out.size
        have HRa : Hid (RS wr ra s1) := RS.below ⟨ba, oa, pz, ps⟩ HB.out
        have HRb : Hid (RS wr rb s2) := RS.below ⟨bb, ob, qz, qs⟩ HB.out
        have Hr : Hid _ := pr
        have Hr' : Hid _ := qr
        clear e1 e2 p1 p2 p3 p4 pk pz ps pr q1 q2 q3 q4 qk qz qs qr z0 z1 z2 z4 y0 y1 y2 y4
        go_wp2_with fail
        first
        | go_region_held3 (fun wx => ((wx.cell? ⟨w.heap.size, 3, none⟩ = some (.slice (some ⟨b, o, none⟩) s.len ck) ∧ wx.cell? ⟨w.heap.size + 1, 3, none⟩ = some (.slice (some ⟨b', o', none⟩) s.len ck')) ∧ w.heap.size + 1 < wx.heap.size) ∧ ((wx.cell? ⟨b, o + j * 5, none⟩ = some (.int .u8 k1) ∧ wx.cell? ⟨b, o + j * 5 + 1, none⟩ = some (.int .i64 n1) ∧ wx.cell? ⟨b, o + j * 5 + 1 + 1, none⟩ = some (S t1) ∧ wx.cell? ⟨b, o + j * 5 + 1 + 1 + 1, none⟩ = some (.slice ra s1.len ca) ∧ wx.cell? ⟨b, o + j * 5 + 1 + 1 + 1 + 1, none⟩ = some (.bool d1)) ∧ b < wx.heap.size) ∧ (wx.cell? ⟨b', o' + j * 5, none⟩ = some (.int .u8 k2) ∧ wx.cell? ⟨b', o' + j * 5 + 1, none⟩ = some (.int .i64 n2) ∧ wx.cell? ⟨b', o' + j * 5 + 1 + 1, none⟩ = some (S t2) ∧ wx.cell? ⟨b', o' + j * 5 + 1 + 1 + 1, none⟩ = some (.slice rb s2.len cb) ∧ wx.cell? ⟨b', o' + j * 5 + 1 + 1 + 1 + 1, none⟩ = some (.bool d2)) ∧ b' < wx.heap.size) (first | go_keep | exact ⟨keep2 hb1 (by go_keep), keepT hb1 (by go_keep)⟩)
            (first | (go_at_call 16; refine (HS.out s1.size (by omega) k1 n1 t1 s1 d1 ra ca k2 n2 t2 s2 d2 rb cb _ (Nat.le_refl _) p5 q5 (HRa.out.below (Below.refl _ _).drew) (HRb.out.below (Below.refl _ _).drew)).mono ?_; rintro e w1 ⟨rfl, hb1⟩))
        | fail
        have HW : Hid (Below wr.heap.size wr w1) := (Below.refl _ wr).drew.trans hb1
        have HB1 : Hid (Below w.heap.size w w1) := HB.out.trans (HW.out.mono HB.out.size)
        have HX1 : Hid _ := (HW.out.block _ hws').trans HX.out
        have HY1 : Hid _ := (HW.out.block _ hws).trans HY.out
        clear hb1 f1 f2 f3 f4 fk g1 g2 g3 g4 gk z3 y3
        cases hsb : sameB k1 n1 t1 s1 d1 k2 n2 t2 s2 d2
        · have HS2 : Hid _ := hsb
          clear hsb
          go_wp2
          go_ret
          exact ⟨by rw [HQ.out, same_cons, HS2.out]; rfl, HB1.out⟩
        · have HS2 : Hid _ := hsb
          clear hsb
          go_wp2
          go_roundw
          case rel => exact ⟨j + 1, r1, r2, by go_num, by omega, by omega, by omega, by rw [show o + (j + 1) * 5 = o + j * 5 + 5 by omega]; exact Hr, by rw [show o' + (j + 1) * 5 = o' + j * 5 + 5 by omega]; exact Hr', by show _ = _; rw [HQ.out, same_cons, HS2.out]; rfl, HB1, HX1, HY1⟩
          case measure => simp [intOf]; omega
theorem sameR_all : ∀ N, SameRC N := fun N => by
  induction N using Nat.strongRecOn with
  | _ N ih =>
    intro k n t s d rk ck k' n' t' s' d' rk' ck' w hN hm hm' hR hR'
    by_cases h1 : k = k'
    · by_cases h2 : n = n'
      · by_cases h3 : t = t'
        · by_cases h4 : d = d'
          · subst h1 h2 h3 h4
            by_cases h5 : s'.len = s.len
            · have e : sameB k n t s d k n t s' d = s.same s' := by simp [sameB]
              rw [e, h5]
              exact sameR_body ih k n t s d rk ck s' rk' ck' w hN hm h5 hR hR'
            · have e : sameB k n t s d k n t s' d = false := by
                cases hs : s.same s' with
                | false => simp [sameB, hs]
                | true => exact absurd (by rw [(Fo.same_iff s s').1 hs]) h5
              rw [e]
              exact sameR_head k n t s d rk ck k n t s' d rk' ck' w hm hm' (.inr (.inr (.inr (.inr ⟨rfl, rfl, rfl, rfl, fun h => h5 h.symm⟩))))
          · have e : sameB k n t s d k' n' t' s' d' = false := by simp [sameB, h4]
            rw [e]
            exact sameR_head k n t s d rk ck k' n' t' s' d' rk' ck' w hm hm' (.inr (.inr (.inr (.inl ⟨h1, h2, h3, by simpa using h4⟩))))
        · have e : sameB k n t s d k' n' t' s' d' = false := by simp [sameB, h3]
          rw [e]
          exact sameR_head k n t s d rk ck k' n' t' s' d' rk' ck' w hm hm' (.inr (.inr (.inl ⟨h1, h2, h3⟩)))
      · have e : sameB k n t s d k' n' t' s' d' = false := by simp [sameB, h2]
        rw [e]
        exact sameR_head k n t s d rk ck k' n' t' s' d' rk' ck' w hm hm' (.inr (.inl ⟨by simpa using h1, by simpa using h2⟩))
    · have e : sameB k n t s d k' n' t' s' d' = false := by simp [sameB, h1]
      rw [e]
      exact sameR_head k n t s d rk ck k' n' t' s' d' rk' ck' w hm hm' (.inl (by simpa using h1))
end Go.Proofs.YtlpdfifjdlfpdaaGreatDoor
