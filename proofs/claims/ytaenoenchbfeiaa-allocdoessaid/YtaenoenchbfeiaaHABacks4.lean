/- backs: somebody waits. -/
import Derived.Test.YtaenoenchbfeiaaHABacks3
namespace Go.Proofs.Ytaenoenchbfeiaa
open Go.RowKit

set_option maxRecDepth 100000 in
set_option maxHeartbeats 8000000 in
theorem backs_give {B : Nat → Prop} {a ga gm gf cf n kb gw : Nat} {A : Al} {w0 w : World} (hs : ∀ g, B g → g < w0.heap.size) (h : KT B a ga gm gf cf n kb gw A A w0 w) (hI : Inv A) (hn6 : n ≤ 1000000) (c : Nat) (x : Int) (hx : A.who[c]? = some x) (hxx : x = -1) (p : Int × Int) (r : List (Int × Int)) (hr0 : A.row = p :: r) :
    Calls Try.prog 14 #[.pointer (some ⟨kb, 0, none⟩), .pointer (some ⟨a, 0, none⟩), .int .i64 c] w fun e w' => e = .returned (.bool true) ∧ ∃ n', n' ≤ n + 1 ∧ KT B a ga gm gf cf n' kb gw (backM A c).2 (backM A c).2 w0 w' := by
  obtain ⟨vr, vw, hA, hK, hb, hf, hk, hd⟩ := h
  have hrl : r.length ≤ 8 := by have := row_le hI; rw [hr0, List.length_cons] at this; omega
  have HE : Hid (backM A c = ((p.1, (0 : Int)), ⟨A.who.set c p.1, r⟩)) := by show _ = _; unfold backM; rw [if_pos ⟨by simpa [hxx] using hx, by omega⟩, hr0]; rfl
  have HC := (back_any a ga gm gf cf n vr A c w hA hI hn6).mono (fun e w' h => (⟨h.1, h.2.elim (fun n' h' => ⟨n', h'.1, kt_alloc hs hA hK hb hf hk hd h'.2⟩)⟩ : e = _ ∧ ∃ n', n' ≤ n + 1 ∧ KT B a ga gm gf cf n' kb gw (backM A c).2 A w0 w'))
  rw [HE.out] at HC ⊢
  unfold backE at HC
  dsimp only at HC ⊢
  have HCh : Hid _ := HC
  have HO9 : Hid (outB A.who c x 9 = true) := by show _ = _; rw [out_end hI hx]; exact decide_eq_true hxx
  have HI : Hid (Inv A) := hI
  have HX : Hid (A.who[c]? = some x) := hx
  have HG : Hid (∀ t : Nat, t ≤ 8 → w.cell? ⟨kb, 1 + t, none⟩ = some (.int .i64 (gv A.who t))) := fun t ht => hK.cg ht
  have c0 := hK.c0
  have wc := hK.who hx
  have lk := hK.kp.lt
  have lgw := hK.kw.lt
  have hcl : c < A.who.length := (List.getElem?_eq_some_iff.1 hx).1
  have ke : (c : Int) < (A.who.length : Int) := by omega
  have HB0 : Hid (decide (x ≠ 0) = outB A.who c x 1) := by show _ = _; unfold outB; simp [List.range_succ]
  rw [HB0.out] at wc
  clear hA hK hb hf hk hd HC HE hI HB0
  have HXX : Hid _ := hxx
  clear hxx hx
  go_enter Try.func14, Try.ntmps14
  go_wp2
  go_loopw [7, 8] (fun o i wr => ∃ j : Nat, i = .int .i64 j ∧ 1 ≤ j ∧ j ≤ 9 ∧ o = .bool (outB A.who c x j) ∧ wr = w) (fun _ i _ => 9 - (intOf i).toNat)
  case atStart => exact ⟨1, rfl, by omega, by omega, rfl, rfl⟩
  case round =>
    obtain ⟨j, rfl, hj1, hj, rfl, rfl⟩ := hrel
    by_cases hlt : j ≤ 8
    · have k1 : (j : Int) ≤ 8 := by omega
      have k2 : (j : Int) < 9 := by omega
      have g1 := HG.out j hlt
      have HS : Hid (outB A.who c x (j + 1) = (outB A.who c x j && gv A.who j != (c : Int))) := out_step _ _ _ hj1
      cases ho : outB A.who c x j
      · have HS2 : Hid (outB A.who c x (j + 1) = false) := by show _ = _; rw [HS.out, ho]; rfl
        clear HS
        go_wp2
        go_roundw
        case rel => exact ⟨j + 1, by go_num, by omega, by omega, by rw [HS2.out], trivial⟩
        case measure => simp [intOf]; omega
      · have HS2 : Hid (outB A.who c x (j + 1) = (gv A.who j != (c : Int))) := by show _ = _; rw [HS.out, ho]; rfl
        clear HS
        generalize gv A.who j = y at *
        cases hy : (y == (c : Int))
        · go_wp2
          go_roundw
          case rel => exact ⟨j + 1, by go_num, by omega, by omega, by rw [HS2.out, bne, hy], trivial⟩
          case measure => simp [intOf]; omega
        · go_wp2
          go_roundw
          case rel => exact ⟨j + 1, by go_num, by omega, by omega, by rw [HS2.out, bne, hy], trivial⟩
          case measure => simp [intOf]; omega
    · obtain rfl : j = 9 := by omega
      rw [HO9.out]
      clear HG hlt
      go_wp2_with fail
      refine Calls.mono HCh.out ?_
      rintro e w1 ⟨rfl, n1, hn1, vr1, vw1, hA1, hK1, hb1, hf1, hk1, hd1⟩
      obtain ⟨ra, ca, hvw⟩ := hK1.wt.sl
      have hwt := hK1.wt
      rw [hvw, hr0, List.length_cons] at hwt
      obtain ⟨g, off, hra, hca, lg, cp, T1, T2⟩ := RWt.tail hwt
      obtain ⟨hp1, hp8⟩ := HI.out.thr p (by rw [hr0]; exact List.mem_cons_self)
      have hap := HI.out.apart p (by rw [hr0]; exact List.mem_cons_self)
      obtain ⟨t, ht⟩ : ∃ t : Nat, p.1 = (t : Int) := ⟨p.1.toNat, by omega⟩
      rw [ht] at hap hp1 hp8 cp
      have t1 : 1 ≤ t := by omega
      have t8 : t ≤ 8 := by omega
      have d0 := hK1.c0
      have d10 := hK1.cw
      have fk := hK1.kp.fz
      have f10 := fk 10
      have f1t := fk (1 + t)
      have lk1 := hK1.kp.lt
      have lg1 := hK1.kw.lt
      obtain ⟨u1, hu1, _⟩ := hK1.kp.cell (j := 1 + t) (by omega)
      have i9 : (t : Int) < 9 := by omega
      rw [hvw, hr0, List.length_cons, hra] at d10
      have HF : ∀ off2 L2 c2, RWt w1 (.slice (some ⟨g, off2, none⟩) L2 c2) r → Hid (∃ n', n' ≤ n + 1 ∧ KT B a ga gm gf cf n' kb gw ⟨A.who.set c p.1, r⟩ ⟨A.who.set c p.1, r⟩ w0 ((w1.setCell ⟨kb, 10, none⟩ (.slice (some ⟨g, off2, none⟩) L2 c2)).setCell ⟨kb, 1 + t, none⟩ (.int .i64 c))) := fun off2 L2 c2 hw2 => by
        have ks : ∀ g', g' ≠ kb → ((w1.setCell ⟨kb, 10, none⟩ (.slice (some ⟨g, off2, none⟩) L2 c2)).setCell ⟨kb, 1 + t, none⟩ (.int .i64 c)).heap[g']? = w1.heap[g']? := fun g' hg => (Below.heap_setCell _ _ _ _ hg).trans (Below.heap_setCell _ _ _ _ hg)
        have hne : gw ≠ kb := by
          obtain ⟨c1, k1, _⟩ := hK1.kp
          obtain ⟨c2, k2, _⟩ := hK1.kw
          exact ty_ne k2 k1 (by decide)
        have hX := HX.out
        have hxm := HXX.out
        rw [hxm] at hX
        refine ⟨n1, hn1, kt_keep (vw' := .slice (some ⟨g, off2, none⟩) L2 c2) hs hA1 hK1 hb1 hf1 hk1 hd1 ⟨?_, ?_, ?_⟩ (fun g _ hn => ks g (fun e => hn (.inl (.inl e)))) (((Below.refl 0 w1).setCell (p := ⟨kb, 10, none⟩) (Nat.zero_le _) _).setCell (p := ⟨kb, 1 + t, none⟩) (Nat.zero_le _) _) (fun g' hg => .inl (by rw [hvw, hra]; exact hg))⟩
        · dsimp only
          rw [List.length_set, ht]
          exact kp_come (kp_wait hK1.kp) t1 t8 hX hap
        · exact (kw_stay hK1.kw hX (by omega) (by omega)).kept (ks gw hne)
        · exact hw2.kept (fun g hg => ks g (fun e => by
            obtain ⟨c1, k1, _⟩ := hK1.kp
            obtain ⟨c3, k3⟩ := hw2.blk hg
            exact ty_ne k3 k1 (by decide) e))
      clear hA1 hK1 hb1 hf1 hk1 hd1 HCh hvw hra hwt fk hap HX HXX HI hp1 hp8
      have hl : r.length ≤ 8 := hrl
      rw [ht]
      by_cases hc1 : ca = 1
      · subst hc1
        have hr1 : r = [] := List.eq_nil_of_length_eq_zero (by omega)
        subst hr1
        have HF2 := HF off 0 0 (T2 rfl)
        clear HF T1 T2
        go_wp2
        go_ret
        exact ⟨rfl, HF2.out⟩
      · have HF2 := HF (off + 2) r.length (ca - 1) (T1 hc1)
        clear HF T1 T2
        have kc : (r.length : Int) + 1 ≤ (ca : Int) := by omega
        go_wp2
        go_ret
        exact ⟨rfl, HF2.out⟩
/-- backs is true, and what is kept follows. -/
theorem backs_any {B : Nat → Prop} {a ga gm gf cf n kb gw : Nat} {A : Al} {w0 w : World} (hs : ∀ g, B g → g < w0.heap.size) (h : KT B a ga gm gf cf n kb gw A A w0 w) (hI : Inv A) (hn6 : n ≤ 1000000) (c : Nat) (hc : c < A.who.length) :
    Calls Try.prog 14 #[.pointer (some ⟨kb, 0, none⟩), .pointer (some ⟨a, 0, none⟩), .int .i64 c] w fun e w' => e = .returned (.bool true) ∧ ∃ n', n' ≤ n + 1 ∧ KT B a ga gm gf cf n' kb gw (backM A c).2 (backM A c).2 w0 w' := by
  obtain ⟨x, hx⟩ : ∃ x, A.who[c]? = some x := ⟨_, List.getElem?_eq_getElem hc⟩
  by_cases h1 : x = -1
  · cases hr : A.row with
    | nil => exact backs_free hs h hI hn6 c x hx h1 hr
    | cons p r => exact backs_give hs h hI hn6 c x hx h1 p r hr
  · exact backs_bad hs h hI hn6 c x hx h1
end Go.Proofs.Ytaenoenchbfeiaa
