/- SweepDoes. -/
import Derived.Test.YtjbfpklbgefacaaHWDoes0
namespace Go.Proofs.Ytjbfpklbgefacaa
open Go.RowKit

/-- How the loop stands. -/
structure LpS (w0 w : World) (hb ab sl rl g n : Nat) (s r : Nat → Nat) (h : List Cl) (A F : Nat → Nat) : Prop where
  t : DT w0 w hb ab sl rl g s r h h A F A F
  len : h.length = n
  f : ∀ x ∈ h, Wf x
  a : ∀ k, k < 2 → A k ≤ n ∧ F k ≤ A k
theorem DT.oks {w0 w : World} {hb ab sl rl g : Nat} {s r : Nat → Nat} {h H : List Cl} {A F B G : Nat → Nat} (T : DT w0 w hb ab sl rl g s r h H A F B G) (hf : ∀ x ∈ h, Wf x) : ∀ x ∈ h, OkK x ∧ Wf x := fun x hx => ⟨T.c.ok x hx, hf x hx⟩
theorem heap_drewN (w : World) : ∀ m, (w.drewN m).heap = w.heap
  | 0 => rfl
  | m + 1 => heap_drewN w m
theorem LpS.quiet {w0 w : World} {hb ab sl rl g n : Nat} {s r : Nat → Nat} {h : List Cl} {A F : Nat → Nat} (L : LpS w0 w hb ab sl rl g n s r h A F) (m : Nat) : LpS w0 (w.drewN m) hb ab sl rl g n s r h A F :=
  ⟨L.t.below (below_drewN (Below.refl _ w) m), L.len, L.f, L.a⟩
theorem LpS.below {w0 w w' : World} {hb ab sl rl g n : Nat} {s r : Nat → Nat} {h : List Cl} {A F : Nat → Nat} (L : LpS w0 w hb ab sl rl g n s r h A F) (hB : Below w.heap.size w w') : LpS w0 w' hb ab sl rl g n s r h A F :=
  ⟨L.t.below hB, L.len, L.f, L.a⟩
set_option maxRecDepth 100000 in
set_option maxHeartbeats 64000000 in
theorem sweepDoes_walk (l : List Cl) (ra : Option Addr) (ca : Nat) (sc : List OpS) (rb : Option Addr) (cb : Nat) (w : World) (hH : HR w ra l) (hR : OR w rb sc) (hll : l.length ≤ 281474976710656) (hsl : sc.length ≤ 281474976710656) :
    Calls Try.prog 4 #[.slice ra l.length ca, .slice rb sc.length cb] w fun e w' => e = .returned (.bool true) ∧ Below w.heap.size w w' := by
  have qP : ∀ (g : Nat) (W : World), (binOp .eql 25 (.pointer (some ⟨g, 0, none⟩)) (.pointer none)).run Try.prog W = .ok (.bool false) W := fun g W => by simp [go_sem]
  have qN : ∀ (W : World), (binOp .eql 25 (.pointer none) (.pointer none)).run Try.prog W = .ok (.bool true) W := fun W => by simp [go_sem]
  have qS : ∀ (g : Nat) (W : World), (binOp .eql 28 (.pointer (some ⟨g, 0, none⟩)) (.pointer none)).run Try.prog W = .ok (.bool false) W := fun g W => by simp [go_sem]
  have HL : Hid (HR w ra l) := hH
  have HO : Hid (OR w rb sc) := hR
  clear hH hR
  by_cases hbig : 4096 < l.length
  · have k3 : decide ((l.length : Int) > 4096) = true := by simp; omega
    have k4 : decide (4096 < (l.length : Int)) = true := by simp; omega
    go_enter Try.func4, Try.ntmps4
    go_wp2_with fail
    go_ret
    exact ⟨rfl, Below.refl _ _⟩
  · have k3 : decide ((l.length : Int) > 4096) = false := by simp; omega
    have k4 : decide (4096 < (l.length : Int)) = false := by simp; omega
    have hl : l.length ≤ 4096 := by omega
    by_cases hbig2 : 3000 < sc.length
    · have k5 : decide ((sc.length : Int) > 3000) = true := by simp; omega
      have k6 : decide (3000 < (sc.length : Int)) = true := by simp; omega
      go_enter Try.func4, Try.ntmps4
      go_wp2_with fail
      go_ret
      exact ⟨rfl, Below.refl _ _⟩
    · have k5 : decide ((sc.length : Int) > 3000) = false := by simp; omega
      have k6 : decide (3000 < (sc.length : Int)) = false := by simp; omega
      have hs : sc.length ≤ 3000 := by omega
      have hm1 : (l.length : Int) * (sc.length : Int) ≤ 12288000 := by
        have : l.length * sc.length ≤ 4096 * 3000 := Nat.mul_le_mul hl hs
        have h2 : ((l.length * sc.length : Nat) : Int) ≤ 12288000 := by omega
        rwa [Int.natCast_mul] at h2
      have hm0 : 0 ≤ (l.length : Int) * (sc.length : Int) := Int.mul_nonneg (by omega) (by omega)
      by_cases hbig3 : (l.length : Int) * (sc.length : Int) > 4000000
      · have k7 : decide ((l.length : Int) * (sc.length : Int) > 4000000) = true := by simpa using hbig3
        have k8 : decide (4000000 < (l.length : Int) * (sc.length : Int)) = true := by simpa using hbig3
        go_enter Try.func4, Try.ntmps4
        go_wp2_with fail
        go_ret
        exact ⟨rfl, Below.refl _ _⟩
      · have k7 : decide ((l.length : Int) * (sc.length : Int) > 4000000) = false := by simpa using hbig3
        have k8 : decide (4000000 < (l.length : Int) * (sc.length : Int)) = false := by simpa using hbig3
        go_enter Try.func4, Try.ntmps4
        go_wp2_with fail
        refine Calls.mono (known_any w) ?_
        rintro e w1 ⟨rfl, b1⟩
        have HB1 : Hid (Below w.heap.size w w1) := b1
        have HL1 : Hid (HR w1 ra l) := HL.out.below b1
        clear b1 k3 k5 k6 k7 k8 hbig hbig2 hbig3 hm1 hm0 HL
        by_cases h4 : l.length < 4
        · have HBad : Hid (Calls Try.prog 8 #[.slice ra l.length ca] w1 fun e w' => e = .returned (.tuple #[.pointer none, .slice none 0 0]) ∧ w' = w1) := heap_bad l ra ca w1 (.inl h4)
          have z4 : decide ((l.length : Int) < 4) = true := by simp; omega
          go_wp2_with fail
          refine Calls.mono HBad.out ?_
          rintro e w' ⟨rfl, hw'⟩
          rw [hw']
          clear hw'
          go_wp2_with fail
          go_ret
          exact ⟨rfl, HB1.out⟩
        · have HHp : Hid (Calls Try.prog 8 #[.slice ra l.length ca] w1 fun e w' => HpR l w1 e w') := heap_any l ra ca w1 HL1.out (by omega) hl
          go_wp2_with fail
          refine Calls.mono HHp.out ?_
          rintro e w3 ⟨hb, ab, g, rfl, c3, q3, lg3⟩
          have HC3 : Hid (CN w w3 hb ab (l.map plX)) := c3.from HB1.out
          have HQ3 : Hid (KR w3 g (l.map plX) (l.map plX).length) := q3
          have lg : w.heap.size ≤ g := Nat.le_trans HB1.out.size lg3
          clear c3 q3 lg3 HHp
          go_wp2_with fail
          refine Calls.mono (snew_any w3 HC3.out.c) ?_
          rintro e w4 ⟨s0, rfl, s4, b4, l4⟩
          have HC4 : Hid (CN w w4 hb ab (l.map plX)) := HC3.out.below b4
          have HS4 : Hid (SW w4 s0 hb (l.map plX).length 0) := s4
          have HQ4 : Hid (KR w4 g (l.map plX) (l.map plX).length) := HQ3.out.kept (b4.block _ (DR.lt HQ3.out))
          have ls0 : w.heap.size ≤ s0 := Nat.le_trans HC3.out.b.size l4
          clear s4 b4 l4 HC3 HQ3
          go_wp2_with fail
          refine Calls.mono (snew_any w4 HC4.out.c) ?_
          rintro e w5 ⟨s1, rfl, s5, b5, l5⟩
          have HC5 : Hid (CN w w5 hb ab (l.map plX)) := HC4.out.below b5
          have HS5 : Hid (SW w5 s0 hb (l.map plX).length 0 ∧ SW w5 s1 hb (l.map plX).length 0) := ⟨HS4.out.kept (b5.block _ HS4.out.lt), s5⟩
          have HQ5 : Hid (KR w5 g (l.map plX) (l.map plX).length) := HQ4.out.kept (b5.block _ (DR.lt HQ4.out))
          have ls1 : w.heap.size ≤ s1 := Nat.le_trans HC4.out.b.size l5
          have n01 : s0 ≠ s1 := by have := HS4.out.lt; omega
          clear s5 b5 l5 HC4 HQ4 HS4
          obtain ⟨w6, hw6⟩ : ∃ w6, w6 = w5.alloc (.cells #[.pointer (some ⟨s0, 0, none⟩), .pointer (some ⟨s1, 0, none⟩)] 28) := ⟨_, rfl⟩
          have b6 : Below w5.heap.size w5 w6 := hw6 ▸ (Below.refl _ w5).alloc (Nat.le_refl _) _
          have HC6 : Hid (CN w w6 hb ab (l.map plX)) := HC5.out.below b6
          have HS6 : Hid (SW w6 s0 hb (l.map plX).length 0 ∧ SW w6 s1 hb (l.map plX).length 0) := ⟨HS5.out.1.kept (b6.block _ HS5.out.1.lt), HS5.out.2.kept (b6.block _ HS5.out.2.lt)⟩
          have HQ6 : Hid (KR w6 g (l.map plX) (l.map plX).length) := HQ5.out.kept (b6.block _ (DR.lt HQ5.out))
          obtain ⟨sl, hsl6⟩ : ∃ sl, sl = w5.heap.size := ⟨_, rfl⟩
          have HF6 : Hid (w6.heap[sl]? = some (.cells #[.pointer (some ⟨s0, 0, none⟩), .pointer (some ⟨s1, 0, none⟩)] 28 (0, 0))) := by show _ = _; rw [hw6, hsl6]; exact heap_alloc_new w5 _
          have HW6 : Hid (w5.alloc (.cells #[.pointer (some ⟨s0, 0, none⟩), .pointer (some ⟨s1, 0, none⟩)] 28) = w6) := hw6.symm
          have HSL : Hid (w5.heap.size = sl) := hsl6.symm
          clear b6 HC5 HS5 HQ5 hw6 hsl6
          go_upto_region 8 with fail
          rw [HW6.out, HSL.out]
          clear HW6 HSL
          go_wp2_with fail
          refine Calls.mono (rnew_any (l.length : Int) w6) ?_
          rintro e w7 ⟨r0, rfl, r7, b7, l7⟩
          have HC7 : Hid (CN w w7 hb ab (l.map plX)) := HC6.out.below b7
          have HS7 : Hid (SW w7 s0 hb (l.map plX).length 0 ∧ SW w7 s1 hb (l.map plX).length 0) := ⟨HS6.out.1.kept (b7.block _ HS6.out.1.lt), HS6.out.2.kept (b7.block _ HS6.out.2.lt)⟩
          have HQ7 : Hid (KR w7 g (l.map plX) (l.map plX).length) := HQ6.out.kept (b7.block _ (DR.lt HQ6.out))
          have HF7 : Hid (w7.heap[sl]? = some (.cells #[.pointer (some ⟨s0, 0, none⟩), .pointer (some ⟨s1, 0, none⟩)] 28 (0, 0))) := (b7.block _ (heap_lt HF6.out)).trans HF6.out
          have HR7 : Hid (RW w7 r0 l.length 0) := r7
          have lr0 : w.heap.size ≤ r0 := Nat.le_trans HC6.out.b.size l7
          clear r7 b7 l7 HC6 HS6 HQ6 HF6
          go_wp2_with fail
          refine Calls.mono (rnew_any (l.length : Int) w7) ?_
          rintro e w8 ⟨r1, rfl, r8, b8, l8⟩
          have HC8 : Hid (CN w w8 hb ab (l.map plX)) := HC7.out.below b8
          have HS8 : Hid (SW w8 s0 hb (l.map plX).length 0 ∧ SW w8 s1 hb (l.map plX).length 0) := ⟨HS7.out.1.kept (b8.block _ HS7.out.1.lt), HS7.out.2.kept (b8.block _ HS7.out.2.lt)⟩
          have HQ8 : Hid (KR w8 g (l.map plX) (l.map plX).length) := HQ7.out.kept (b8.block _ (DR.lt HQ7.out))
          have HF8 : Hid (w8.heap[sl]? = some (.cells #[.pointer (some ⟨s0, 0, none⟩), .pointer (some ⟨s1, 0, none⟩)] 28 (0, 0))) := (b8.block _ (heap_lt HF7.out)).trans HF7.out
          have HR8 : Hid (RW w8 r0 l.length 0 ∧ RW w8 r1 l.length 0) := ⟨HR7.out.kept (b8.block _ HR7.out.lt), r8⟩
          have lr1 : w.heap.size ≤ r1 := Nat.le_trans HC7.out.b.size l8
          have m01 : r0 ≠ r1 := by have := HR7.out.lt; omega
          clear r8 b8 l8 HC7 HS7 HQ7 HF7 HR7
          have hpl : (l.map plX).length = l.length := by simp
          have b9 : Below w8.heap.size w8 (w8.alloc (.cells #[.pointer (some ⟨r0, 0, none⟩), .pointer (some ⟨r1, 0, none⟩)] 31)) := (Below.refl _ w8).alloc (Nat.le_refl _) _
          have HLp : Hid (LpS w (w8.alloc (.cells #[.pointer (some ⟨r0, 0, none⟩), .pointer (some ⟨r1, 0, none⟩)] 31)) hb ab sl w8.heap.size g l.length (fun k => if k = 0 then s0 else s1) (fun k => if k = 0 then r0 else r1) (l.map plX) (fun _ => l.length) (fun _ => 0)) := by
            have HC9 := HC8.out.below b9
            refine ⟨⟨HC9.c, (b9.block _ (heap_lt HF8.out)).trans HF8.out, heap_alloc_new w8 _, fun k hk => ?_, fun k hk => ?_, fun i j hi hj hij => ?_, fun i j hi hj hij => ?_, HQ8.out.kept (b9.block _ (DR.lt HQ8.out)), HC9.b, HC9.ab, lg, fun k hk => ?_, fun k hk => ?_⟩, hpl, fun x hx => ?_, fun k hk => ⟨Nat.le_refl _, Nat.zero_le _⟩⟩
            · have := HS8.out
              rw [hpl] at this
              match k, hk with
              | 0, _ => exact this.1.kept (b9.block _ this.1.lt)
              | 1, _ => exact this.2.kept (b9.block _ this.2.lt)
            · match k, hk with
              | 0, _ => exact HR8.out.1.kept (b9.block _ HR8.out.1.lt)
              | 1, _ => exact HR8.out.2.kept (b9.block _ HR8.out.2.lt)
            · match i, j, hi, hj, hij with
              | 0, 1, _, _, _ => exact n01
              | 1, 0, _, _, _ => exact fun e => n01 e.symm
              | 0, 0, _, _, h => exact absurd rfl h
              | 1, 1, _, _, h => exact absurd rfl h
            · match i, j, hi, hj, hij with
              | 0, 1, _, _, _ => exact m01
              | 1, 0, _, _, _ => exact fun e => m01 e.symm
              | 0, 0, _, _, h => exact absurd rfl h
              | 1, 1, _, _, h => exact absurd rfl h
            · match k, hk with
              | 0, _ => exact ls0
              | 1, _ => exact ls1
            · match k, hk with
              | 0, _ => exact lr0
              | 1, _ => exact lr1
            · obtain ⟨y, _, rfl⟩ := List.mem_map.1 hx
              exact plX_wf
          clear b9 HC8 HS8 HQ8 HF8 HR8 hpl HL1 HB1 h4
          have cs0 : (w8.alloc (.cells #[.pointer (some ⟨r0, 0, none⟩), .pointer (some ⟨r1, 0, none⟩)] 31)).cell? ⟨sl, 0, none⟩ = some (.pointer (some ⟨s0, 0, none⟩)) := (HLp.out.t.cells (k := 0) (by omega)).1
          have cs1 : (w8.alloc (.cells #[.pointer (some ⟨r0, 0, none⟩), .pointer (some ⟨r1, 0, none⟩)] 31)).cell? ⟨sl, 1, none⟩ = some (.pointer (some ⟨s1, 0, none⟩)) := (HLp.out.t.cells (k := 1) (by omega)).1
          obtain ⟨w9, hw9⟩ : ∃ w9, w9 = w8.alloc (.cells #[.pointer (some ⟨r0, 0, none⟩), .pointer (some ⟨r1, 0, none⟩)] 31) := ⟨_, rfl⟩
          obtain ⟨rl, hrl⟩ : ∃ rl, rl = w8.heap.size := ⟨_, rfl⟩
          rw [← hw9] at cs0 cs1 HLp
          rw [← hrl] at HLp
          have HW9 : Hid (w8.alloc (.cells #[.pointer (some ⟨r0, 0, none⟩), .pointer (some ⟨r1, 0, none⟩)] 31) = w9) := hw9.symm
          have HRL : Hid (w8.heap.size = rl) := hrl.symm
          clear hw9 hrl
          go_upto_region 9 with fail
          rw [HW9.out, HRL.out]
          clear HW9 HRL
          go_wp2_with fail
          obtain ⟨n, hn⟩ : ∃ n, n = l.length := ⟨_, rfl⟩
          rw [← hn] at HLp ⊢
          have hn1 : n ≤ 4096 := by omega
          generalize (fun k : Nat => if k = 0 then s0 else s1) = s at HLp
          generalize (fun k : Nat => if k = 0 then r0 else r1) = r at HLp
          generalize l.map plX = h0 at HLp
          obtain ⟨bo, oo, hor, hoc⟩ := HO.out
          have HOR : Hid (sc.length = 0 ∨ rb = some ⟨bo, oo, none⟩) := hor
          have HOC : Hid (∀ (j : Nat) (x : OpS), sc[j]? = some x → bo < w.heap.size ∧ (w.cell? ⟨bo, oo + j * 7, none⟩ = some (.int .i64 x.k) ∧ w.cell? ⟨bo, oo + j * 7 + 1, none⟩ = some (.int .i64 x.n) ∧ w.cell? ⟨bo, oo + j * 7 + 1 + 1, none⟩ = some (.int .u8 x.y.k) ∧ w.cell? ⟨bo, oo + j * 7 + 1 + 1 + 1, none⟩ = some (.int .u8 x.y.c) ∧ w.cell? ⟨bo, oo + j * 7 + 1 + 1 + 1 + 1, none⟩ = some (.int .u64 x.y.a) ∧ w.cell? ⟨bo, oo + j * 7 + 1 + 1 + 1 + 1 + 1, none⟩ = some (.int .u64 x.y.b) ∧ w.cell? ⟨bo, oo + j * 7 + 1 + 1 + 1 + 1 + 1 + 1, none⟩ = some (.int .u8 x.b)) ∧ OpI x) := hoc
          clear hor hoc HO hn cs0 cs1 n01 m01 ls0 ls1 lr0 lr1 lg k4
          go_loopw [7, 10, 11] (fun wv kv iv wr => ∃ (i k g : Nat) (h : List Cl) (A F : Nat → Nat), iv = .int .i64 i ∧ i ≤ sc.length ∧ kv = .int .i64 k ∧ k < 2 ∧ wv = .slice (some ⟨g, 0, none⟩) n n ∧ Hid (LpS w wr hb ab sl rl g n s r h A F)) (fun _ _ iv _ => sc.length - (intOf iv).toNat)
          case atStart => exact ⟨0, 0, g, h0, _, _, rfl, Nat.zero_le _, rfl, by omega, rfl, HLp⟩
          case round =>
            clear HLp h0
            obtain ⟨i, k, g1, h, A, F, rfl, hi, rfl, hk, rfl, HL⟩ := hrel
            by_cases hil : i < sc.length
            · have i1 : (i : Int) < (sc.length : Int) := by omega
              have i1' : decide ((i : Int) < (sc.length : Int)) = true := by simpa using hil
              obtain ⟨o, ho⟩ : ∃ o, sc[i]? = some o := ⟨_, List.getElem?_eq_getElem hil⟩
              obtain ⟨gb, ⟨y1, y2, y3, y4, y5, y6, y7⟩, hoi⟩ := HOC.out i o ho
              have hrb : rb = some ⟨bo, oo, none⟩ := HOR.out.resolve_left (by omega)
              subst hrb
              have bw := HL.out.t.b
              have u1 := (bw.cell (p := ⟨bo, oo + i * 7, none⟩) gb).trans y1
              have u2 := (bw.cell (p := ⟨bo, oo + i * 7 + 1, none⟩) gb).trans y2
              have u3 := (bw.cell (p := ⟨bo, oo + i * 7 + 1 + 1, none⟩) gb).trans y3
              have u4 := (bw.cell (p := ⟨bo, oo + i * 7 + 1 + 1 + 1, none⟩) gb).trans y4
              have u5 := (bw.cell (p := ⟨bo, oo + i * 7 + 1 + 1 + 1 + 1, none⟩) gb).trans y5
              have u6 := (bw.cell (p := ⟨bo, oo + i * 7 + 1 + 1 + 1 + 1 + 1, none⟩) gb).trans y6
              have u7 := (bw.cell (p := ⟨bo, oo + i * 7 + 1 + 1 + 1 + 1 + 1 + 1, none⟩) gb).trans y7
              have HOI : Hid (OpI o) := hoi
              have gl : bo < wr.heap.size := Nat.lt_of_lt_of_le gb bw.size
              have HL1 : Hid (LpS w (wr.alloc (oO o)) hb ab sl rl g1 n s r h A F) := HL.out.below ((Below.refl _ wr).alloc (Nat.le_refl _) _)
              have k2i : (k : Int) < 2 := by omega
              have t1 := heap_alloc_new wr (oO o)
              clear y1 y2 y3 y4 y5 y6 y7 bw hoi ho HL gb
              obtain ⟨d1, d2, d3, d4⟩ := HL1.out.t.cells hk
              by_cases e1 : o.k = 1
              · have z1 : (o.k == 1) = true := by simpa using e1
                clear e1
                go_wp2_with fail
                refine Calls.mono (begin_any _ (HL1.out.t.ss k hk)) ?_
                rintro e w5 ⟨rfl, s5, f5⟩
                have HT5 : Hid (DT w w5 hb ab sl rl g1 s r h h (upd A k 0) (upd F k 0) A F) := HL1.out.t.sBegin hk s5 f5
                have HN5 : Hid (h.length = n ∧ (∀ x ∈ h, Wf x) ∧ ∀ k, k < 2 → A k ≤ n ∧ F k ≤ A k) := ⟨HL1.out.len, HL1.out.f, HL1.out.a⟩
                clear s5 f5 HL1 d1 d2 d3 d4 u1 u2 u3 u4 u5 u6 u7 t1
                obtain ⟨d1, d2, d3, d4⟩ := HT5.out.cells hk
                go_wp2_with fail
                refine Calls.mono (rbegin_any w5 (HT5.out.rs k hk)) ?_
                rintro e w6 ⟨rfl, s6, f6⟩
                have HLs : Hid (LpS w w6 hb ab sl rl g1 n s r h (upd A k 0) (upd F k 0)) := ⟨HT5.out.rBegin hk s6 f6, HN5.out.1, HN5.out.2.1, fun j hj => by
                  by_cases e : j = k
                  · subst e; rw [upd_at, upd_at]; exact ⟨Nat.zero_le _, Nat.le_refl _⟩
                  · rw [upd_ne e, upd_ne e]; exact HN5.out.2.2 j hj⟩
                clear s6 f6 HT5 HN5 d1 d2 d3 d4
                obtain ⟨d1, d2, d3, d4⟩ := HLs.out.t.cells (k := k) hk
                have HQ1 : Hid (∀ X : World, X.heap = w6.heap → Calls Try.prog 18 #[.pointer (some ⟨s k, 1, none⟩)] X fun e w' => e = .returned (.int .i64 (((upd A k 0) k : Nat) : Int)) ∧ w' = X) := fun X hW => at_any X ((HLs.out.t.ss k hk).kept (by rw [hW]))
                have HQ2 : Hid (∀ X : World, X.heap = w6.heap → Calls Try.prog 19 #[.pointer (some ⟨s k, 1, none⟩)] X fun e w' => e = .returned (.int .i64 (((upd F k 0) k : Nat) : Int)) ∧ w' = X) := fun X hW => freed_any X ((HLs.out.t.ss k hk).kept (by rw [hW]))
                have HQ3 : Hid (∀ X : World, X.heap = w6.heap → Calls Try.prog 20 #[.pointer (some ⟨s k, 0, none⟩)] X fun e w' => e = .returned (.bool ((((upd A k 0) k : Nat) : Int) == (n : Int))) ∧ ∃ m, w' = X.drewN m) := fun X hW => by
                  have hd := done_q X ((HLs.out.t.ss k hk).kept (w' := X) (by rw [hW])) (HLs.out.t.c.kept (w' := X) (by rw [hW]) (by rw [hW]) (fun q cs _ => by rw [hW]))
                  rw [HLs.out.len] at hd
                  exact hd
                generalize hAk : (upd A k 0) k = Ak at d3 HQ1 HQ3
                generalize hFk : (upd F k 0) k = Fk at d4 HQ2
                clear hAk hFk
                go_wp2_with fail
                go_quiet (first | (go_at_call 18; exact Calls.quiet_of_same (HQ1.out _ rfl)) | (go_at_call 19; exact Calls.quiet_of_same (HQ2.out _ rfl)) | (go_at_call 20; exact Calls.quiet_of (HQ3.out _ rfl)))
                go_wp2_with fail
                refine ⟨⟨i + 1, k, g1, h, (upd A k 0), (upd F k 0), by go_num, by omega, rfl, by omega, rfl, HLs.out.quiet _⟩, by simp [intOf]; omega⟩
              · have y1 : (o.k == 1) = false := by simpa using e1
                by_cases e2 : o.k = 2
                · have z2 : (o.k == 2) = true := by simpa using e2
                  have hkk : o.k = 2 ∨ o.k = 3 ∨ o.k = 4 ∨ o.k = 5 := by omega
                  have HCh : Hid (Calls Try.prog 13 #[.pointer (some ⟨hb, 0, none⟩), oV o] (wr.alloc (oO o)) fun e w' => e = .returned (.tuple #[]) ∧ ExR hb ab (chgH h o) (wr.alloc (oO o)) w') := chg_any o HL1.out.t.c HOI.out hkk
                  clear e2 hkk d1 d2 d3 d4
                  go_wp2_with fail
                  refine Calls.mono HCh.out ?_
                  rintro e w5 ⟨rfl, e5⟩
                  have HT5 : Hid (DT w w5 hb ab sl rl g1 s r (chgH h o) h A F A F) := HL1.out.t.ex e5
                  have HN5 : Hid ((chgH h o).length = n ∧ (∀ x ∈ chgH h o, Wf x) ∧ ∀ k, k < 2 → A k ≤ n ∧ F k ≤ A k) := ⟨(chgH_len h o).trans HL1.out.len, chgH_wf HL1.out.f, HL1.out.a⟩
                  generalize chgH h o = h2 at HT5 HN5
                  clear e5 HL1 HCh u1 u2 u3 u4 u5 u6 u7 t1
                  go_wp2_with fail
                  refine Calls.mono (snapshot_any HT5.out.c) ?_
                  rintro e w6 ⟨g6, rfl, q6, b6, l6⟩
                  rw [HN5.out.1]
                  have HLs : Hid (LpS w w6 hb ab sl rl g6 n s r h2 A F) := ⟨HT5.out.row b6 q6 l6, HN5.out.1, HN5.out.2.1, HN5.out.2.2⟩
                  clear q6 b6 l6 HT5 HN5
                  obtain ⟨d1, d2, d3, d4⟩ := HLs.out.t.cells (k := k) hk
                  have HQ1 : Hid (∀ X : World, X.heap = w6.heap → Calls Try.prog 18 #[.pointer (some ⟨s k, 1, none⟩)] X fun e w' => e = .returned (.int .i64 ((A k : Nat) : Int)) ∧ w' = X) := fun X hW => at_any X ((HLs.out.t.ss k hk).kept (by rw [hW]))
                  have HQ2 : Hid (∀ X : World, X.heap = w6.heap → Calls Try.prog 19 #[.pointer (some ⟨s k, 1, none⟩)] X fun e w' => e = .returned (.int .i64 ((F k : Nat) : Int)) ∧ w' = X) := fun X hW => freed_any X ((HLs.out.t.ss k hk).kept (by rw [hW]))
                  have HQ3 : Hid (∀ X : World, X.heap = w6.heap → Calls Try.prog 20 #[.pointer (some ⟨s k, 0, none⟩)] X fun e w' => e = .returned (.bool (((A k : Nat) : Int) == (n : Int))) ∧ ∃ m, w' = X.drewN m) := fun X hW => by
                    have hd := done_q X ((HLs.out.t.ss k hk).kept (w' := X) (by rw [hW])) (HLs.out.t.c.kept (w' := X) (by rw [hW]) (by rw [hW]) (fun q cs _ => by rw [hW]))
                    rw [HLs.out.len] at hd
                    exact hd
                  generalize hAk : A k = Ak at d3 HQ1 HQ3
                  generalize hFk : F k = Fk at d4 HQ2
                  clear hAk hFk
                  go_wp2_with fail
                  go_quiet (first | (go_at_call 18; exact Calls.quiet_of_same (HQ1.out _ rfl)) | (go_at_call 19; exact Calls.quiet_of_same (HQ2.out _ rfl)) | (go_at_call 20; exact Calls.quiet_of (HQ3.out _ rfl)))
                  go_wp2_with fail
                  refine ⟨⟨i + 1, k, g6, h2, A, F, by go_num, by omega, rfl, by omega, rfl, HLs.out.quiet _⟩, by simp [intOf]; omega⟩
                · have z2 : (o.k == 2) = false := by simpa using e2
                  by_cases e3 : o.k = 3
                  · have z3 : (o.k == 3) = true := by simpa using e3
                    have hkk : o.k = 2 ∨ o.k = 3 ∨ o.k = 4 ∨ o.k = 5 := by omega
                    have HCh : Hid (Calls Try.prog 13 #[.pointer (some ⟨hb, 0, none⟩), oV o] (wr.alloc (oO o)) fun e w' => e = .returned (.tuple #[]) ∧ ExR hb ab (chgH h o) (wr.alloc (oO o)) w') := chg_any o HL1.out.t.c HOI.out hkk
                    clear e3 hkk d1 d2 d3 d4
                    go_wp2_with fail
                    refine Calls.mono HCh.out ?_
                    rintro e w5 ⟨rfl, e5⟩
                    have HT5 : Hid (DT w w5 hb ab sl rl g1 s r (chgH h o) h A F A F) := HL1.out.t.ex e5
                    have HN5 : Hid ((chgH h o).length = n ∧ (∀ x ∈ chgH h o, Wf x) ∧ ∀ k, k < 2 → A k ≤ n ∧ F k ≤ A k) := ⟨(chgH_len h o).trans HL1.out.len, chgH_wf HL1.out.f, HL1.out.a⟩
                    generalize chgH h o = h2 at HT5 HN5
                    clear e5 HL1 HCh u1 u2 u3 u4 u5 u6 u7 t1
                    go_wp2_with fail
                    refine Calls.mono (snapshot_any HT5.out.c) ?_
                    rintro e w6 ⟨g6, rfl, q6, b6, l6⟩
                    rw [HN5.out.1]
                    have HLs : Hid (LpS w w6 hb ab sl rl g6 n s r h2 A F) := ⟨HT5.out.row b6 q6 l6, HN5.out.1, HN5.out.2.1, HN5.out.2.2⟩
                    clear q6 b6 l6 HT5 HN5
                    obtain ⟨d1, d2, d3, d4⟩ := HLs.out.t.cells (k := k) hk
                    have HQ1 : Hid (∀ X : World, X.heap = w6.heap → Calls Try.prog 18 #[.pointer (some ⟨s k, 1, none⟩)] X fun e w' => e = .returned (.int .i64 ((A k : Nat) : Int)) ∧ w' = X) := fun X hW => at_any X ((HLs.out.t.ss k hk).kept (by rw [hW]))
                    have HQ2 : Hid (∀ X : World, X.heap = w6.heap → Calls Try.prog 19 #[.pointer (some ⟨s k, 1, none⟩)] X fun e w' => e = .returned (.int .i64 ((F k : Nat) : Int)) ∧ w' = X) := fun X hW => freed_any X ((HLs.out.t.ss k hk).kept (by rw [hW]))
                    have HQ3 : Hid (∀ X : World, X.heap = w6.heap → Calls Try.prog 20 #[.pointer (some ⟨s k, 0, none⟩)] X fun e w' => e = .returned (.bool (((A k : Nat) : Int) == (n : Int))) ∧ ∃ m, w' = X.drewN m) := fun X hW => by
                      have hd := done_q X ((HLs.out.t.ss k hk).kept (w' := X) (by rw [hW])) (HLs.out.t.c.kept (w' := X) (by rw [hW]) (by rw [hW]) (fun q cs _ => by rw [hW]))
                      rw [HLs.out.len] at hd
                      exact hd
                    generalize hAk : A k = Ak at d3 HQ1 HQ3
                    generalize hFk : F k = Fk at d4 HQ2
                    clear hAk hFk
                    go_wp2_with fail
                    go_quiet (first | (go_at_call 18; exact Calls.quiet_of_same (HQ1.out _ rfl)) | (go_at_call 19; exact Calls.quiet_of_same (HQ2.out _ rfl)) | (go_at_call 20; exact Calls.quiet_of (HQ3.out _ rfl)))
                    go_wp2_with fail
                    refine ⟨⟨i + 1, k, g6, h2, A, F, by go_num, by omega, rfl, by omega, rfl, HLs.out.quiet _⟩, by simp [intOf]; omega⟩
                  · have z3 : (o.k == 3) = false := by simpa using e3
                    by_cases e4 : o.k = 4
                    · have z4 : (o.k == 4) = true := by simpa using e4
                      have hkk : o.k = 2 ∨ o.k = 3 ∨ o.k = 4 ∨ o.k = 5 := by omega
                      have HCh : Hid (Calls Try.prog 13 #[.pointer (some ⟨hb, 0, none⟩), oV o] (wr.alloc (oO o)) fun e w' => e = .returned (.tuple #[]) ∧ ExR hb ab (chgH h o) (wr.alloc (oO o)) w') := chg_any o HL1.out.t.c HOI.out hkk
                      clear e4 hkk d1 d2 d3 d4
                      go_wp2_with fail
                      refine Calls.mono HCh.out ?_
                      rintro e w5 ⟨rfl, e5⟩
                      have HT5 : Hid (DT w w5 hb ab sl rl g1 s r (chgH h o) h A F A F) := HL1.out.t.ex e5
                      have HN5 : Hid ((chgH h o).length = n ∧ (∀ x ∈ chgH h o, Wf x) ∧ ∀ k, k < 2 → A k ≤ n ∧ F k ≤ A k) := ⟨(chgH_len h o).trans HL1.out.len, chgH_wf HL1.out.f, HL1.out.a⟩
                      generalize chgH h o = h2 at HT5 HN5
                      clear e5 HL1 HCh u1 u2 u3 u4 u5 u6 u7 t1
                      go_wp2_with fail
                      refine Calls.mono (snapshot_any HT5.out.c) ?_
                      rintro e w6 ⟨g6, rfl, q6, b6, l6⟩
                      rw [HN5.out.1]
                      have HLs : Hid (LpS w w6 hb ab sl rl g6 n s r h2 A F) := ⟨HT5.out.row b6 q6 l6, HN5.out.1, HN5.out.2.1, HN5.out.2.2⟩
                      clear q6 b6 l6 HT5 HN5
                      obtain ⟨d1, d2, d3, d4⟩ := HLs.out.t.cells (k := k) hk
                      have HQ1 : Hid (∀ X : World, X.heap = w6.heap → Calls Try.prog 18 #[.pointer (some ⟨s k, 1, none⟩)] X fun e w' => e = .returned (.int .i64 ((A k : Nat) : Int)) ∧ w' = X) := fun X hW => at_any X ((HLs.out.t.ss k hk).kept (by rw [hW]))
                      have HQ2 : Hid (∀ X : World, X.heap = w6.heap → Calls Try.prog 19 #[.pointer (some ⟨s k, 1, none⟩)] X fun e w' => e = .returned (.int .i64 ((F k : Nat) : Int)) ∧ w' = X) := fun X hW => freed_any X ((HLs.out.t.ss k hk).kept (by rw [hW]))
                      have HQ3 : Hid (∀ X : World, X.heap = w6.heap → Calls Try.prog 20 #[.pointer (some ⟨s k, 0, none⟩)] X fun e w' => e = .returned (.bool (((A k : Nat) : Int) == (n : Int))) ∧ ∃ m, w' = X.drewN m) := fun X hW => by
                        have hd := done_q X ((HLs.out.t.ss k hk).kept (w' := X) (by rw [hW])) (HLs.out.t.c.kept (w' := X) (by rw [hW]) (by rw [hW]) (fun q cs _ => by rw [hW]))
                        rw [HLs.out.len] at hd
                        exact hd
                      generalize hAk : A k = Ak at d3 HQ1 HQ3
                      generalize hFk : F k = Fk at d4 HQ2
                      clear hAk hFk
                      go_wp2_with fail
                      go_quiet (first | (go_at_call 18; exact Calls.quiet_of_same (HQ1.out _ rfl)) | (go_at_call 19; exact Calls.quiet_of_same (HQ2.out _ rfl)) | (go_at_call 20; exact Calls.quiet_of (HQ3.out _ rfl)))
                      go_wp2_with fail
                      refine ⟨⟨i + 1, k, g6, h2, A, F, by go_num, by omega, rfl, by omega, rfl, HLs.out.quiet _⟩, by simp [intOf]; omega⟩
                    · have z4 : (o.k == 4) = false := by simpa using e4
                      by_cases e5 : o.k = 5
                      · have z5 : (o.k == 5) = true := by simpa using e5
                        have hkk : o.k = 2 ∨ o.k = 3 ∨ o.k = 4 ∨ o.k = 5 := by omega
                        have HCh : Hid (Calls Try.prog 13 #[.pointer (some ⟨hb, 0, none⟩), oV o] (wr.alloc (oO o)) fun e w' => e = .returned (.tuple #[]) ∧ ExR hb ab (chgH h o) (wr.alloc (oO o)) w') := chg_any o HL1.out.t.c HOI.out hkk
                        clear e5 hkk d1 d2 d3 d4
                        go_wp2_with fail
                        refine Calls.mono HCh.out ?_
                        rintro e w5 ⟨rfl, e5⟩
                        have HT5 : Hid (DT w w5 hb ab sl rl g1 s r (chgH h o) h A F A F) := HL1.out.t.ex e5
                        have HN5 : Hid ((chgH h o).length = n ∧ (∀ x ∈ chgH h o, Wf x) ∧ ∀ k, k < 2 → A k ≤ n ∧ F k ≤ A k) := ⟨(chgH_len h o).trans HL1.out.len, chgH_wf HL1.out.f, HL1.out.a⟩
                        generalize chgH h o = h2 at HT5 HN5
                        clear e5 HL1 HCh u1 u2 u3 u4 u5 u6 u7 t1
                        go_wp2_with fail
                        refine Calls.mono (snapshot_any HT5.out.c) ?_
                        rintro e w6 ⟨g6, rfl, q6, b6, l6⟩
                        rw [HN5.out.1]
                        have HLs : Hid (LpS w w6 hb ab sl rl g6 n s r h2 A F) := ⟨HT5.out.row b6 q6 l6, HN5.out.1, HN5.out.2.1, HN5.out.2.2⟩
                        clear q6 b6 l6 HT5 HN5
                        obtain ⟨d1, d2, d3, d4⟩ := HLs.out.t.cells (k := k) hk
                        have HQ1 : Hid (∀ X : World, X.heap = w6.heap → Calls Try.prog 18 #[.pointer (some ⟨s k, 1, none⟩)] X fun e w' => e = .returned (.int .i64 ((A k : Nat) : Int)) ∧ w' = X) := fun X hW => at_any X ((HLs.out.t.ss k hk).kept (by rw [hW]))
                        have HQ2 : Hid (∀ X : World, X.heap = w6.heap → Calls Try.prog 19 #[.pointer (some ⟨s k, 1, none⟩)] X fun e w' => e = .returned (.int .i64 ((F k : Nat) : Int)) ∧ w' = X) := fun X hW => freed_any X ((HLs.out.t.ss k hk).kept (by rw [hW]))
                        have HQ3 : Hid (∀ X : World, X.heap = w6.heap → Calls Try.prog 20 #[.pointer (some ⟨s k, 0, none⟩)] X fun e w' => e = .returned (.bool (((A k : Nat) : Int) == (n : Int))) ∧ ∃ m, w' = X.drewN m) := fun X hW => by
                          have hd := done_q X ((HLs.out.t.ss k hk).kept (w' := X) (by rw [hW])) (HLs.out.t.c.kept (w' := X) (by rw [hW]) (by rw [hW]) (fun q cs _ => by rw [hW]))
                          rw [HLs.out.len] at hd
                          exact hd
                        generalize hAk : A k = Ak at d3 HQ1 HQ3
                        generalize hFk : F k = Fk at d4 HQ2
                        clear hAk hFk
                        go_wp2_with fail
                        go_quiet (first | (go_at_call 18; exact Calls.quiet_of_same (HQ1.out _ rfl)) | (go_at_call 19; exact Calls.quiet_of_same (HQ2.out _ rfl)) | (go_at_call 20; exact Calls.quiet_of (HQ3.out _ rfl)))
                        go_wp2_with fail
                        refine ⟨⟨i + 1, k, g6, h2, A, F, by go_num, by omega, rfl, by omega, rfl, HLs.out.quiet _⟩, by simp [intOf]; omega⟩
                      · have z5 : (o.k == 5) = false := by simpa using e5
                        by_cases e6 : o.k = 6
                        · have z6 : (o.k == 6) = true := by simpa using e6
                          clear e6
                          have hk01 : k = 0 ∨ k = 1 := by omega
                          rcases hk01 with rfl | rfl
                          · obtain ⟨wX, hwX⟩ : ∃ wX, wX = wr.alloc (oO o) := ⟨_, rfl⟩
                            have HLs : Hid (LpS w wX hb ab sl rl g1 n s r h A F) := by rw [hwX]; exact HL1
                            have HWX : Hid (wr.alloc (oO o) = wX) := hwX.symm
                            clear d1 d2 d3 d4 HL1 hwX
                            obtain ⟨d1, d2, d3, d4⟩ := HLs.out.t.cells (k := 1) (by omega)
                            have HQ1 : Hid (∀ X : World, X.heap = wX.heap → Calls Try.prog 18 #[.pointer (some ⟨s 1, 1, none⟩)] X fun e w' => e = .returned (.int .i64 ((A 1 : Nat) : Int)) ∧ w' = X) := fun X hW => at_any X ((HLs.out.t.ss 1 (by omega)).kept (by rw [hW]))
                            have HQ2 : Hid (∀ X : World, X.heap = wX.heap → Calls Try.prog 19 #[.pointer (some ⟨s 1, 1, none⟩)] X fun e w' => e = .returned (.int .i64 ((F 1 : Nat) : Int)) ∧ w' = X) := fun X hW => freed_any X ((HLs.out.t.ss 1 (by omega)).kept (by rw [hW]))
                            have HQ3 : Hid (∀ X : World, X.heap = wX.heap → Calls Try.prog 20 #[.pointer (some ⟨s 1, 0, none⟩)] X fun e w' => e = .returned (.bool (((A 1 : Nat) : Int) == (n : Int))) ∧ ∃ m, w' = X.drewN m) := fun X hW => by
                              have hd := done_q X ((HLs.out.t.ss 1 (by omega)).kept (w' := X) (by rw [hW])) (HLs.out.t.c.kept (w' := X) (by rw [hW]) (by rw [hW]) (fun q cs _ => by rw [hW]))
                              rw [HLs.out.len] at hd
                              exact hd
                            generalize hAk : A 1 = Ak at d3 HQ1 HQ3
                            generalize hFk : F 1 = Fk at d4 HQ2
                            clear hAk hFk
                            go_upto_region 34 with fail
                            rw [HWX.out]
                            clear HWX u1 u2 u3 u4 u5 u6 u7 t1
                            go_quiet (first | (go_at_call 18; exact Calls.quiet_of_same (HQ1.out _ rfl)) | (go_at_call 19; exact Calls.quiet_of_same (HQ2.out _ rfl)) | (go_at_call 20; exact Calls.quiet_of (HQ3.out _ rfl)))
                            go_wp2_with fail
                            refine ⟨⟨i + 1, 1, g1, h, A, F, by go_num, by omega, by go_num, by omega, rfl, HLs.out.quiet _⟩, by simp [intOf]; omega⟩
                          · obtain ⟨wX, hwX⟩ : ∃ wX, wX = wr.alloc (oO o) := ⟨_, rfl⟩
                            have HLs : Hid (LpS w wX hb ab sl rl g1 n s r h A F) := by rw [hwX]; exact HL1
                            have HWX : Hid (wr.alloc (oO o) = wX) := hwX.symm
                            clear d1 d2 d3 d4 HL1 hwX
                            obtain ⟨d1, d2, d3, d4⟩ := HLs.out.t.cells (k := 0) (by omega)
                            have HQ1 : Hid (∀ X : World, X.heap = wX.heap → Calls Try.prog 18 #[.pointer (some ⟨s 0, 1, none⟩)] X fun e w' => e = .returned (.int .i64 ((A 0 : Nat) : Int)) ∧ w' = X) := fun X hW => at_any X ((HLs.out.t.ss 0 (by omega)).kept (by rw [hW]))
                            have HQ2 : Hid (∀ X : World, X.heap = wX.heap → Calls Try.prog 19 #[.pointer (some ⟨s 0, 1, none⟩)] X fun e w' => e = .returned (.int .i64 ((F 0 : Nat) : Int)) ∧ w' = X) := fun X hW => freed_any X ((HLs.out.t.ss 0 (by omega)).kept (by rw [hW]))
                            have HQ3 : Hid (∀ X : World, X.heap = wX.heap → Calls Try.prog 20 #[.pointer (some ⟨s 0, 0, none⟩)] X fun e w' => e = .returned (.bool (((A 0 : Nat) : Int) == (n : Int))) ∧ ∃ m, w' = X.drewN m) := fun X hW => by
                              have hd := done_q X ((HLs.out.t.ss 0 (by omega)).kept (w' := X) (by rw [hW])) (HLs.out.t.c.kept (w' := X) (by rw [hW]) (by rw [hW]) (fun q cs _ => by rw [hW]))
                              rw [HLs.out.len] at hd
                              exact hd
                            generalize hAk : A 0 = Ak at d3 HQ1 HQ3
                            generalize hFk : F 0 = Fk at d4 HQ2
                            clear hAk hFk
                            go_upto_region 34 with fail
                            rw [HWX.out]
                            clear HWX u1 u2 u3 u4 u5 u6 u7 t1
                            go_quiet (first | (go_at_call 18; exact Calls.quiet_of_same (HQ1.out _ rfl)) | (go_at_call 19; exact Calls.quiet_of_same (HQ2.out _ rfl)) | (go_at_call 20; exact Calls.quiet_of (HQ3.out _ rfl)))
                            go_wp2_with fail
                            refine ⟨⟨i + 1, 0, g1, h, A, F, by go_num, by omega, by go_num, by omega, rfl, HLs.out.quiet _⟩, by simp [intOf]; omega⟩
                        · have z6 : (o.k == 6) = false := by simpa using e6
                          have HOKh : Hid (∀ x ∈ h, OkK x) := HL1.out.t.c.ok
                          have HST : Hid (Calls Try.prog 15 #[.pointer (some ⟨s k, 0, none⟩)] (wr.alloc (oO o)) fun e w' => StR (s k) hb ab h (A k) (F k) (wr.alloc (oO o)) e w') := step_any _ ⟨HL1.out.t.c, HL1.out.t.ss k hk⟩ (by have := HL1.out.len; have := (HL1.out.a k hk).1; omega) (by have := HL1.out.a k hk; omega)
                          have HN5 : Hid (h.length = n ∧ (∀ x ∈ h, Wf x) ∧ ∀ k, k < 2 → A k ≤ n ∧ F k ≤ A k) := ⟨HL1.out.len, HL1.out.f, HL1.out.a⟩
                          go_wp2_with fail
                          refine Calls.mono HST.out ?_
                          rintro e w5 ⟨rfl, s5, f5⟩
                          have HT5 : Hid (DT w w5 hb ab sl rl g1 s r (swH h (A k)) h (upd A k (swA h (A k))) (upd F k (F k + (swB h (A k)).toNat)) A F) := HL1.out.t.sStep hk s5 f5
                          clear s5 f5 HL1 d1 d2 d3 d4 u1 u2 u3 u4 u5 u6 u7 t1 HST
                          obtain ⟨d1, d2, d3, d4⟩ := HT5.out.cells hk
                          have HRS : Hid (Calls Try.prog 16 #[.pointer (some ⟨r k, 0, none⟩), .slice (some ⟨g1, 0, none⟩) n n] w5 fun e w' => RsR (r k) g1 h (A k) (F k) w5 e w') := by
                            have hh := rstep_any (ca := n) w5 (HT5.out.rs k hk) HT5.out.k (by have := HN5.out.1; have := (HN5.out.2.2 k hk).1; omega) (by have := HN5.out.1; omega) (by have := HN5.out.2.2 k hk; omega) (fun x hx => ⟨HOKh.out x hx, HN5.out.2.1 x hx⟩)
                            rw [HN5.out.1] at hh
                            exact hh
                          go_wp2_with fail
                          refine Calls.mono HRS.out ?_
                          rintro e w6 ⟨rfl, r6, q6, f6⟩
                          have HT6 : Hid (DT w w6 hb ab sl rl g1 s r (swH h (A k)) (swH h (A k)) (upd A k (swA h (A k))) (upd F k (F k + (swB h (A k)).toNat)) (upd A k (swA h (A k))) (upd F k (F k + (swB h (A k)).toNat))) := HT5.out.rStep hk r6 q6 f6
                          clear r6 q6 f6 HRS HT5 d1 d2 d3 d4
                          have HN6 : Hid ((swH h (A k)).length = n ∧ (∀ x ∈ swH h (A k), Wf x) ∧ ∀ j, j < 2 → upd A k (swA h (A k)) j ≤ n ∧ upd F k (F k + (swB h (A k)).toNat) j ≤ upd A k (swA h (A k)) j) := ⟨(swH_len _ _).trans HN5.out.1, swH_wf HN5.out.2.1, fun j hj => by
                            by_cases e : j = k
                            · subst e; rw [upd_at, upd_at]; exact sw_bounds HN5.out.1 (HN5.out.2.2 j hj).1 (HN5.out.2.2 j hj).2
                            · rw [upd_ne e, upd_ne e]; exact HN5.out.2.2 j hj⟩
                          generalize swH h (A k) = h2 at HT6 HN6
                          generalize upd A k (swA h (A k)) = A2 at HT6 HN6
                          generalize upd F k (F k + (swB h (A k)).toNat) = F2 at HT6 HN6
                          generalize swN h (A k) = v1
                          generalize swB h (A k) = v2
                          generalize swE h (A k) = v3
                          clear HN5
                          go_wp2_with fail
                          refine Calls.mono (snapshot_any HT6.out.c) ?_
                          rintro e w7 ⟨g7, rfl, q7, b7, l7⟩
                          rw [HN6.out.1]
                          have HSm : Hid (Calls Try.prog 17 #[.slice (some ⟨g7, 0, none⟩) n n, .slice (some ⟨g1, 0, none⟩) n n] w7 fun e w' => e = .returned (.bool true) ∧ Below w7.heap.size w7 w') := by
                            have ok2 : ∀ x ∈ h2, OkK x := HT6.out.c.ok
                            have T7 := HT6.out.below b7
                            have hh := sameK_any h2 h2 (some ⟨g7, 0, none⟩) (some ⟨g1, 0, none⟩) n n w7 (by unfold maxLen; have := HN6.out.1; omega) (by unfold maxLen; have := HN6.out.1; omega) (KR.hr q7 ok2).hx (KR.hr T7.k ok2).hx
                            rw [HN6.out.1] at hh
                            have e : decide (h2 = h2) = true := by simp
                            rw [e] at hh
                            exact hh
                          have HLt : Hid (LpS w w7 hb ab sl rl g1 n s r h2 A2 F2) := ⟨HT6.out.below b7, HN6.out.1, HN6.out.2.1, HN6.out.2.2⟩
                          clear q7 b7 l7 HT6 HN6
                          go_wp2_with fail
                          refine Calls.mono HSm.out ?_
                          rintro e w8 ⟨rfl, b8⟩
                          have HLs : Hid (LpS w w8 hb ab sl rl g1 n s r h2 A2 F2) := HLt.out.below b8
                          clear b8 HLt HSm
                          have zz1 : ((v1 : Int) != (v1 : Int)) = false := by simp
                          have zz2 : (v2 != v2) = false := by simp
                          have zz3 : (v3 != v3) = false := by simp
                          obtain ⟨d1, d2, d3, d4⟩ := HLs.out.t.cells (k := k) hk
                          have HQ1 : Hid (∀ X : World, X.heap = w8.heap → Calls Try.prog 18 #[.pointer (some ⟨s k, 1, none⟩)] X fun e w' => e = .returned (.int .i64 ((A2 k : Nat) : Int)) ∧ w' = X) := fun X hW => at_any X ((HLs.out.t.ss k hk).kept (by rw [hW]))
                          have HQ2 : Hid (∀ X : World, X.heap = w8.heap → Calls Try.prog 19 #[.pointer (some ⟨s k, 1, none⟩)] X fun e w' => e = .returned (.int .i64 ((F2 k : Nat) : Int)) ∧ w' = X) := fun X hW => freed_any X ((HLs.out.t.ss k hk).kept (by rw [hW]))
                          have HQ3 : Hid (∀ X : World, X.heap = w8.heap → Calls Try.prog 20 #[.pointer (some ⟨s k, 0, none⟩)] X fun e w' => e = .returned (.bool (((A2 k : Nat) : Int) == (n : Int))) ∧ ∃ m, w' = X.drewN m) := fun X hW => by
                            have hd := done_q X ((HLs.out.t.ss k hk).kept (w' := X) (by rw [hW])) (HLs.out.t.c.kept (w' := X) (by rw [hW]) (by rw [hW]) (fun q cs _ => by rw [hW]))
                            rw [HLs.out.len] at hd
                            exact hd
                          generalize hAk : A2 k = Ak at d3 HQ1 HQ3
                          generalize hFk : F2 k = Fk at d4 HQ2
                          clear hAk hFk
                          go_wp2_with fail
                          go_quiet (first | (go_at_call 18; exact Calls.quiet_of_same (HQ1.out _ rfl)) | (go_at_call 19; exact Calls.quiet_of_same (HQ2.out _ rfl)) | (go_at_call 20; exact Calls.quiet_of (HQ3.out _ rfl)))
                          go_wp2_with fail
                          refine ⟨⟨i + 1, k, g1, h2, A2, F2, by go_num, by omega, rfl, by omega, rfl, HLs.out.quiet _⟩, by simp [intOf]; omega⟩
            · have e : i = sc.length := by omega
              subst e
              have i1 : ¬ ((sc.length : Int) < (sc.length : Int)) := by omega
              go_wp2_with fail
              go_ret
              exact ⟨rfl, HL.out.t.b⟩
end Go.Proofs.Ytjbfpklbgefacaa
