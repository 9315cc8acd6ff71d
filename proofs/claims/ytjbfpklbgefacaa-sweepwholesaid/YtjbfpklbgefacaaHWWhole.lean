/- SweepWhole. -/
import Derived.Test.YtjbfpklbgefacaaHWWhole0
namespace Go.Proofs.Ytjbfpklbgefacaa
open Go.RowKit

set_option maxRecDepth 100000 in
set_option maxHeartbeats 64000000 in
theorem sweepWhole_walk (l : List Cl) (ra : Option Addr) (ca : Nat) (w : World) (hH : HR w ra l) :
    Calls Try.prog 5 #[.slice ra l.length ca] w fun e w' => e = .returned (.bool true) ∧ Below w.heap.size w w' := by
  have qP : ∀ (g : Nat) (W : World), (binOp .eql 25 (.pointer (some ⟨g, 0, none⟩)) (.pointer none)).run Try.prog W = .ok (.bool false) W := fun g W => by simp [go_sem]
  have qN : ∀ (W : World), (binOp .eql 25 (.pointer none) (.pointer none)).run Try.prog W = .ok (.bool true) W := fun W => by simp [go_sem]
  have qS : ∀ (g : Nat) (W : World), (binOp .eql 28 (.pointer (some ⟨g, 0, none⟩)) (.pointer none)).run Try.prog W = .ok (.bool false) W := fun g W => by simp [go_sem]
  have HL : Hid (HR w ra l) := hH
  clear hH
  by_cases hbig : 4096 < l.length
  · have k3 : decide ((l.length : Int) > 4096) = true := by simp; omega
    have k4 : decide (4096 < (l.length : Int)) = true := by simp; omega
    go_enter Try.func5, Try.ntmps5
    go_wp2_with fail
    go_ret
    exact ⟨rfl, Below.refl _ _⟩
  · have k3 : decide ((l.length : Int) > 4096) = false := by simp; omega
    have k4 : decide (4096 < (l.length : Int)) = false := by simp; omega
    have hl : l.length ≤ 4096 := by omega
    obtain ⟨i0, hi0, hz0, hz1, hz2⟩ := info_parts infoK
    go_enter Try.func5, Try.ntmps5
    go_wp2_with fail
    refine Calls.mono (known_any w) ?_
    rintro e w1 ⟨rfl, b1⟩
    have HB1 : Hid (Below w.heap.size w w1) := b1
    have HN : Hid _ := hr_news (HL.out.below b1)
    clear b1 k3 k4 hbig
    go_wp2_with (at_builtin; refine stop_of ?_)
    unfold Hid
    refine wpList_append_all _ rfl _ _ 23 rfl w.heap.size 39 i0 _ 4 24 Try.underlying23 hi0 hz0 hz1 hz2 rfl (by decide) (.slice none 0 0) 0 [] rfl (World.ownsRow_nil _ _ _ _) ra l.length ca (clCells l) rfl (clCells_len _) HN.out.1 HN.out.2 (clCells_one _) (by unfold maxLen; omega) (by omega) HB1.out.size ?_
    intro rh ch w2 hown2 hgr2 _
    rw [Nat.zero_add, List.nil_append] at hown2
    have b2 : Below w.heap.size w w2 := HB1.out.trans ((grown_low hgr2 (fun g hg => by cases hg) (Nat.le_refl _)).mono HB1.out.size)
    have HI0 : Hid (OwK w2 w.heap.size rh (pm (gb 2) l 0) ∧ Below w.heap.size w w2) := ⟨by rw [pm_zero]; exact own_owk hown2, b2⟩
    clear hown2 hgr2 HN b2 hi0 hz0 hz1 hz2
    rw [Nat.zero_add]
    go_wp2_with fail
    go_loopw [5] (fun i wr => ∃ j : Nat, i = .int .i64 j ∧ j ≤ l.length ∧ Hid (OwK wr w.heap.size rh (pm (gb 2) l j) ∧ Below w.heap.size w wr)) (fun i _ => l.length - (intOf i).toNat)
    case atStart => exact ⟨0, rfl, Nat.zero_le _, HI0⟩
    case round =>
      clear HI0
      obtain ⟨j, rfl, hj, HI⟩ := hrel
      by_cases hjl : j < l.length
      · have k1 : (j : Int) < (l.length : Int) := by omega
        have k1' : decide ((j : Int) < (l.length : Int)) = true := by simpa using hjl
        obtain ⟨x, hx⟩ : ∃ x, l[j]? = some x := ⟨_, List.getElem?_eq_getElem hjl⟩
        have hx' : (pm (gb 2) l j)[j]? = some x := (pm_at (Nat.le_refl _)).trans hx
        obtain ⟨g, hrh, hbg, hgl, ⟨y1, y2, y3, y4⟩, hfz⟩ := HI.out.1.at hx'
        have hrh2 : rh = some ⟨g, 0, none⟩ := hrh
        by_cases hc : x.c = 1
        · have z1 : (x.c == 1) = true := by simpa using hc
          have HI2 : Hid (OwK (wr.setCell ⟨g, j * 4 + 1, none⟩ (.int .u8 2)) w.heap.size rh (pm (gb 2) l (j + 1)) ∧ Below w.heap.size w (wr.setCell ⟨g, j * 4 + 1, none⟩ (.int .u8 2))) := by
            refine ⟨?_, HI.out.2.setCell (p := ⟨g, j * 4 + 1, none⟩) hbg _⟩
            rw [← pm_set hx, gb_grey hc, hrh2]
            exact OwK.set (hrh2 ▸ HI.out.1) hx' 2
          rw [hrh2] at HI2 ⊢
          clear hx hx' hrh hrh2 HI hc y1 y3 y4
          go_wp2_with fail
          refine ⟨⟨j + 1, by go_num, by omega, HI2⟩, by simp [intOf]; omega⟩
        · have z1 : (x.c == 1) = false := by simpa using hc
          have HE : Hid (pm (gb 2) l (j + 1) = pm (gb 2) l j) := pm_same hx (gb_same hc)
          rw [hrh2] at HI ⊢
          clear hx hx' hrh hrh2 hc y1 y3 y4
          go_wp2_with fail
          refine ⟨⟨j + 1, by go_num, by omega, ?_⟩, by simp [intOf]; omega⟩
          rw [HE.out]
          exact HI
      · have e : j = l.length := by omega
        subst e
        have k1 : ¬ ((l.length : Int) < (l.length : Int)) := by omega
        rw [pm_all] at HI
        obtain ⟨L, hL⟩ : ∃ L, L = l.map (gb 2) := ⟨_, rfl⟩
        have hLl : L.length = l.length := by rw [hL]; simp
        have hok : ∀ x ∈ L, OkK x ∧ x.c ≠ 1 := fun x hx => by
          rw [hL] at hx
          obtain ⟨y, hy, rfl⟩ := List.mem_map.1 hx
          exact ⟨gb_ok (hr_ok HL.out y hy) (by decide), gb_not (by decide)⟩
        rw [← hL] at HI
        have HR1 : Hid (HR wr rh L) := HI.out.1.hr (fun x hx => (hok x hx).1)
        have HB2 : Hid (Below w.heap.size w wr) := HI.out.2
        rw [← hLl]
        have HOK : Hid (∀ x ∈ L, OkK x ∧ x.c ≠ 1) := hok
        clear HI hok
        rw [← hLl] at hl k1
        clear hLl hL hjl hj
        by_cases h4 : L.length < 4
        · have HBad : Hid (Calls Try.prog 8 #[.slice rh L.length ch] wr fun e w' => e = .returned (.tuple #[.pointer none, .slice none 0 0]) ∧ w' = wr) := heap_bad L rh ch wr (.inl h4)
          clear h4
          go_wp2_with fail
          refine Calls.mono HBad.out ?_
          rintro e w' ⟨rfl, hw'⟩
          rw [hw']
          clear hw'
          go_wp2_with fail
          go_ret
          exact ⟨rfl, HB2.out⟩
        · have HHp : Hid (Calls Try.prog 8 #[.slice rh L.length ch] wr fun e w' => HpR L wr e w') := heap_any L rh ch wr HR1.out (by omega) hl
          go_wp2_with fail
          refine Calls.mono HHp.out ?_
          rintro e w3 ⟨hb, ab, g, rfl, c3, q3, lg3⟩
          have HC3 : Hid (CN w w3 hb ab (L.map plX)) := c3.from HB2.out
          have HQ3 : Hid (KR w3 g (L.map plX) (L.map plX).length) := q3
          have lg : w.heap.size ≤ g := Nat.le_trans HB2.out.size lg3
          clear c3 q3 lg3 HHp
          go_wp2_with fail
          refine Calls.mono (snew_any w3 HC3.out.c) ?_
          rintro e w4 ⟨sb, rfl, s4, b4, l4⟩
          have hgd : ∀ x ∈ L.map plX, Good x := fun x hx => by
            obtain ⟨y, hy, rfl⟩ := List.mem_map.1 hx
            exact plX_good (HOK.out y hy).1 (HOK.out y hy).2
          have HT4 : Hid (WT w w4 sb hb ab g (L.map plX) (L.map plX) (L.map plX).length 0) := ⟨SN.new HC3.out s4 b4 l4, HQ3.out.kept (b4.block _ (DR.lt HQ3.out)), lg⟩
          obtain ⟨n, hn⟩ : ∃ n, n = L.length := ⟨_, rfl⟩
          have HLN : Hid ((L.map plX).length = n) := by show _ = _; rw [hn]; simp
          rw [← hn]
          have hn1 : n ≤ 4096 := by omega
          generalize L.map plX = H0 at HT4 HLN hgd
          have HG0 : Hid (∀ x ∈ H0, Good x) := hgd
          clear s4 b4 l4 hgd HC3 HQ3 lg HR1 HB2 HOK hl k1 h4 hn HL HB1
          go_wp2_with fail
          go_loopw [7, 9] (fun v r wr => ∃ (k g : Nat) (H : List Cl) (a f : Nat), r = .int .i64 k ∧ k ≤ 2 ∧ v = .slice (some ⟨g, 0, none⟩) n n ∧ Hid (H.length = n) ∧ Hid (∀ x ∈ H, Good x) ∧ Hid (WT w wr sb hb ab g H H a f)) (fun _ r _ => 2 - (intOf r).toNat)
          case atStart => exact ⟨0, g, H0, H0.length, 0, rfl, by omega, rfl, HLN, HG0, HT4⟩
          case round =>
            clear HT4 HLN HG0 H0
            obtain ⟨k, g5, H, a, f, rfl, hk, rfl, HN, HG, HT⟩ := hrel
            by_cases hk2 : k < 2
            · have k1 : (k : Int) < 2 := by omega
              have k1' : decide ((k : Int) < 2) = true := by simp; omega
              go_wp2_with fail
              refine Calls.mono (begin_any wr HT.out.n.s.s) ?_
              rintro e w5 ⟨rfl, s5, f5⟩
              have HT5 : Hid (WT w w5 sb hb ab g5 H (pm swX H 0) 0 (frM H 0)) := by
                show WT w w5 sb hb ab g5 H (pm swX H 0) 0 0
                rw [pm_zero]; exact HT.out.begin s5 f5
              clear s5 f5 HT
              go_wp2_with fail
              obtain ⟨wA, hwA⟩ : ∃ wA, wA = wr := ⟨_, rfl⟩
              clear hwA
              go_loopw [10, 11] (fun fv i wr => ∃ j : Nat, i = .int .i64 j ∧ j ≤ n ∧ fv = .int .i64 (frM H j) ∧ Hid (WT w wr sb hb ab g5 H (pm swX H j) j (frM H j))) (fun _ i _ => n - (intOf i).toNat)
              case atStart => exact ⟨0, rfl, Nat.zero_le _, rfl, HT5⟩
              case round =>
                clear HT5
                obtain ⟨j, rfl, hj, rfl, HT⟩ := hrel
                have hfl := frM_le H j
                by_cases hjl : j < n
                · have j1 : (j : Int) < (n : Int) := by omega
                  have j1' : decide ((j : Int) < (n : Int)) = true := by simpa using hjl
                  obtain ⟨x, hx⟩ : ∃ x, H[j]? = some x := ⟨_, List.getElem?_eq_getElem (by have := HN.out; omega)⟩
                  have hg : Good x := HG.out x (List.mem_of_getElem? hx)
                  obtain ⟨p1, p2, p3, p4, p5⟩ := sweep_at hx hg
                  have hpl : (pm swX H j).length = n := (pm_len _ _ _).trans HN.out
                  have HF : Hid (frM H (j + 1) = frM H j + (whB x).toNat) := frM_some hx
                  have HST : Hid (∀ W, WT w W sb hb ab g5 H (pm swX H j) j (frM H j) → Calls Try.prog 15 #[.pointer (some ⟨sb, 0, none⟩)] W fun e w' => e = .returned (.tuple #[.int .i64 j, .bool (whB x), .int .i64 0]) ∧ WT w w' sb hb ab g5 H (pm swX H (j + 1)) (j + 1) (frM H (j + 1))) := fun W hW => by
                    refine Calls.mono (step_any W hW.n.s (by omega) (by omega)) ?_
                    rintro e w' ⟨rfl, s', f'⟩
                    rw [p1, p2, p4]
                    rw [p3, p4, p5, ← HF.out] at s'
                    exact ⟨rfl, hW.step s' f'⟩
                  have z0 : ((j : Int) == ((pm swX H j).length : Int)) = false := by rw [hpl]; simp; omega
                  have HZ : Hid (((j : Int) == ((pm swX H j).length : Int)) = false) := z0
                  have HX : Hid (H[j]? = some x) := hx
                  generalize hfr : frM H j = fr at *
                  generalize pm swX H j = P at *
                  clear p1 p2 p3 p4 p5 z0 hx hpl
                  go_wp2_with fail
                  refine Calls.mono (done_any wr HT.out.n.s.s HT.out.n.s.c) ?_
                  rintro e w6 ⟨rfl, b6⟩
                  rw [HZ.out]
                  have HT6 : Hid (WT w w6 sb hb ab g5 H P j fr) := HT.out.below b6
                  clear b6 HT
                  go_wp2_with fail
                  refine Calls.mono (HST.out w6 HT6.out) ?_
                  rintro e w7 ⟨rfl, t7⟩
                  have HT7 : Hid (WT w w7 sb hb ab g5 H (pm swX H (j + 1)) (j + 1) (frM H (j + 1))) := t7
                  obtain ⟨u1, u2, u3, u4⟩ := t7.k.at HX.out
                  clear t7 HT6 HST HX hfr
                  rcases hg with rfl | ⟨hk0, hc0 | hc2⟩
                  · have e1 : whB c0 = false := rfl
                    rw [e1] at HF ⊢
                    have u1' : w7.cell? ⟨g5, j * 4, none⟩ = some (.int .u8 0) := u1
                    clear u1 u2 u3 u4 e1
                    go_wp2_with fail
                    refine ⟨⟨j + 1, by go_num, by omega, ?_, HT7⟩, by simp [intOf]; omega⟩
                    rw [HF.out]; rfl
                  · have e1 : whB x = true := by unfold whB; simp [hk0, hc0]
                    rw [e1] at HF ⊢
                    have z1 : (x.k != 0) = true := by simpa using hk0
                    rw [hc0] at u2
                    clear u3 u4 e1 hk0 hc0
                    go_wp2_with fail
                    refine ⟨⟨j + 1, by go_num, by omega, ?_, HT7⟩, by simp [intOf]; omega⟩
                    rw [HF.out]; rfl
                  · have e1 : whB x = false := by unfold whB; simp [hc2]
                    rw [e1] at HF ⊢
                    have z1 : (x.k != 0) = true := by simpa using hk0
                    rw [hc2] at u2
                    clear u3 u4 e1 hk0 hc2
                    go_wp2_with fail
                    refine ⟨⟨j + 1, by go_num, by omega, ?_, HT7⟩, by simp [intOf]; omega⟩
                    rw [HF.out]; rfl
                · have e : j = n := by omega
                  subst e
                  have j1 : ¬ ((j : Int) < (j : Int)) := by omega
                  have hpl : (pm swX H j).length = j := (pm_len _ _ _).trans HN.out
                  have HPA : Hid (pm swX H j = H.map swX) := by
                    have := pm_all swX H
                    rw [HN.out] at this
                    exact this
                  go_wp2_with fail
                  refine Calls.mono (snapshot_any HT.out.n.s.c) ?_
                  rintro e w6 ⟨g6, rfl, q6, b6, l6⟩
                  rw [hpl]
                  have HT6 : Hid (WT w w6 sb hb ab g5 H (pm swX H j) j (frM H j)) := HT.out.below b6
                  have HT6' : Hid (WT w w6 sb hb ab g6 (H.map swX) (H.map swX) j (frM H j)) := by
                    have t := HT.out.row b6 q6 l6
                    rw [HPA.out] at t
                    exact t
                  clear b6 q6 l6 HT
                  generalize frM H j = fr at *
                  have HZ : Hid (((j : Int) == ((pm swX H j).length : Int)) = true) := by show _ = _; rw [hpl]; simp
                  generalize pm swX H j = PP at *
                  clear HPA hpl
                  go_wp2_with fail
                  refine Calls.mono (done_any w6 HT6.out.n.s.s HT6.out.n.s.c) ?_
                  rintro e w7 ⟨rfl, b7⟩
                  rw [HZ.out]
                  have HT7 : Hid (WT w w7 sb hb ab g5 H PP j fr) := HT6.out.below b7
                  have HT7' : Hid (WT w w7 sb hb ab g6 (H.map swX) (H.map swX) j fr) := HT6'.out.below b7
                  clear b7 HT6 HT6'
                  go_wp2_with fail
                  refine Calls.mono (freed_any w7 HT7.out.n.s.s) ?_
                  rintro e w' ⟨rfl, hw'⟩
                  rw [hw']
                  clear hw' HZ
                  go_wp2_with fail
                  obtain ⟨wB, hwB⟩ : ∃ wB, wB = wr := ⟨_, rfl⟩
                  clear hwB
                  go_loopw [18] (fun i wr => ∃ m : Nat, i = .int .i64 m ∧ m ≤ j ∧ Hid (WT w wr sb hb ab g5 H PP j fr) ∧ Hid (WT w wr sb hb ab g6 (H.map swX) (H.map swX) j fr)) (fun i _ => j - (intOf i).toNat)
                  case atStart => exact ⟨0, rfl, Nat.zero_le _, HT7, HT7'⟩
                  case round =>
                    clear HT7 HT7'
                    obtain ⟨m, rfl, hm, HT, HT'⟩ := hrel
                    by_cases hml : m < j
                    · have m1 : (m : Int) < (j : Int) := by omega
                      have m1' : decide ((m : Int) < (j : Int)) = true := by simpa using hml
                      obtain ⟨x, hx⟩ : ∃ x, H[m]? = some x := ⟨_, List.getElem?_eq_getElem (by have := HN.out; omega)⟩
                      have hx' : (H.map swX)[m]? = some (swX x) := by rw [List.getElem?_map, hx]; rfl
                      obtain ⟨u1, u2, u3, u4⟩ := HT.out.k.at hx
                      obtain ⟨v1, v2, v3, v4⟩ := HT'.out.k.at hx'
                      have n5 : g5 < wr.heap.size := HT.out.ne.2.2
                      have n6 : g6 < wr.heap.size := HT'.out.ne.2.2
                      have o5 : g5 ≠ wr.heap.size := by omega
                      have o6 : g6 ≠ wr.heap.size := by omega
                      by_cases hc0 : x.c = 0
                      · have e1 : swX x = c0 := by unfold swX; rw [if_pos hc0]
                        rw [e1] at v1 v2 v3 v4
                        rw [hc0] at u2
                        have v1' : wr.cell? ⟨g6, m * 4, none⟩ = some (.int .u8 0) := v1
                        have v2' : wr.cell? ⟨g6, m * 4 + 1, none⟩ = some (.int .u8 0) := v2
                        have v3' : wr.cell? ⟨g6, m * 4 + 1 + 1, none⟩ = some (.int .u64 0) := v3
                        have v4' : wr.cell? ⟨g6, m * 4 + 1 + 1 + 1, none⟩ = some (.int .u64 0) := v4
                        have hq : ∀ W, (binOp .neq 39 (.agg #[.int .u8 0, .int .u8 0, .int .u64 0, .int .u64 0]) (.agg #[.int .u8 0, .int .u8 0, .int .u64 0, .int .u64 0])).run Try.prog W = .ok (.bool false) W := fun W => neqCl_same c0 W
                        clear hx hx' e1 v1 v2 v3 v4 hc0
                        go_wp2_with fail
                        go_region
                        go_wp2_with fail
                        refine ⟨⟨m + 1, by go_num, by omega, HT.out.below ((Below.refl _ wr).alloc (Nat.le_refl _) _).drew, HT'.out.below ((Below.refl _ wr).alloc (Nat.le_refl _) _).drew⟩, by simp [intOf]; omega⟩
                      · have e1 : swX x = ⟨x.k, 0, x.a, x.b⟩ := by unfold swX; rw [if_neg hc0]
                        rw [e1] at v1 v2 v3 v4
                        dsimp only at v1 v2 v3 v4
                        have z1 : (x.c == 0) = false := by simpa using hc0
                        have hq : ∀ W, (binOp .neq 39 (.agg #[.int .u8 x.k, .int .u8 0, .int .u64 x.a, .int .u64 x.b]) (.agg #[.int .u8 x.k, .int .u8 0, .int .u64 x.a, .int .u64 x.b])).run Try.prog W = .ok (.bool false) W := fun W => neqCl_same ⟨x.k, 0, x.a, x.b⟩ W
                        clear hx hx' e1 hc0
                        go_wp2_with fail
                        go_region
                        go_wp2_with fail
                        refine ⟨⟨m + 1, by go_num, by omega, HT.out.below ((Below.refl _ wr).alloc (Nat.le_refl _) _).drew, HT'.out.below ((Below.refl _ wr).alloc (Nat.le_refl _) _).drew⟩, by simp [intOf]; omega⟩
                    · have e : m = j := by omega
                      subst e
                      have m1 : ¬ ((m : Int) < (m : Int)) := by omega
                      go_wp2_with fail
                      refine ⟨⟨k + 1, g6, H.map swX, m, fr, by go_num, by omega, rfl, ?_, ?_, HT'⟩, by simp [intOf]; omega⟩
                      · show _ = _; rw [List.length_map]; exact HN.out
                      · intro x hx
                        obtain ⟨y, hy, rfl⟩ := List.mem_map.1 hx
                        exact swX_good (HG.out y hy)
            · have e : k = 2 := by omega
              subst e
              have k1 : ¬ ((2 : Int) < 2) := by omega
              go_wp2_with fail
              go_ret
              exact ⟨rfl, HT.out.n.b⟩
end Go.Proofs.Ytjbfpklbgefacaa
