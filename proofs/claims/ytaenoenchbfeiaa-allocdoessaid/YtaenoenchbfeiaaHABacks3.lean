/- backs: nobody waits. -/
import Derived.Test.YtaenoenchbfeiaaHABacks2
namespace Go.Proofs.Ytaenoenchbfeiaa
open Go.RowKit

set_option maxRecDepth 100000 in
set_option maxHeartbeats 8000000 in
theorem backs_free {B : Nat → Prop} {a ga gm gf cf n kb gw : Nat} {A : Al} {w0 w : World} (hs : ∀ g, B g → g < w0.heap.size) (h : KT B a ga gm gf cf n kb gw A A w0 w) (hI : Inv A) (hn6 : n ≤ 1000000) (c : Nat) (x : Int) (hx : A.who[c]? = some x) (hxx : x = -1) (hr0 : A.row = []) :
    Calls Try.prog 14 #[.pointer (some ⟨kb, 0, none⟩), .pointer (some ⟨a, 0, none⟩), .int .i64 c] w fun e w' => e = .returned (.bool true) ∧ ∃ n', n' ≤ n + 1 ∧ KT B a ga gm gf cf n' kb gw (backM A c).2 (backM A c).2 w0 w' := by
  obtain ⟨vr, vw, hA, hK, hb, hf, hk, hd⟩ := h
  have HE : Hid (backM A c = (((0 : Int), (0 : Int)), ⟨A.who.set c 0, []⟩)) := by show _ = _; unfold backM; rw [if_pos ⟨by simpa [hxx] using hx, by omega⟩, hr0]; rfl
  have HC := (back_any a ga gm gf cf n vr A c w hA hI hn6).mono (fun e w' h => (⟨h.1, h.2.elim (fun n' h' => ⟨n', h'.1, kt_alloc hs hA hK hb hf hk hd h'.2⟩)⟩ : e = _ ∧ ∃ n', n' ≤ n + 1 ∧ KT B a ga gm gf cf n' kb gw (backM A c).2 A w0 w'))
  rw [HE.out] at HC ⊢
  unfold backE at HC
  dsimp only at HC ⊢
  have HCh : Hid _ := HC
  have HO9 : Hid (outB A.who c x 9 = true) := by show _ = _; rw [out_end hI hx]; exact decide_eq_true hxx
  have HI : Hid (Inv A) := hI
  have HX : Hid (A.who[c]? = some x) := hx
  have HG : Hid (∀ t : Nat, t ≤ 8 → w.cell? ⟨kb, 1 + t, none⟩ = some (.int .i64 (gv A.who t))) := fun t ht => hK.cg ht
  have c0 := hK.c0
  have wc := hK.who hx
  have lk := hK.kp.lt
  have lgw := hK.kw.lt
  have hcl : c < A.who.length := (List.getElem?_eq_some_iff.1 hx).1
  have ke : (c : Int) < (A.who.length : Int) := by omega
  have HB0 : Hid (decide (x ≠ 0) = outB A.who c x 1) := by show _ = _; unfold outB; simp [List.range_succ]
  rw [HB0.out] at wc
  clear hA hK hb hf hk hd HC HE hI HB0
  have HXX : Hid _ := hxx
  clear hxx hx
  go_enter Try.func14, Try.ntmps14
  go_wp2
  go_loopw [7, 8] (fun o i wr => ∃ j : Nat, i = .int .i64 j ∧ 1 ≤ j ∧ j ≤ 9 ∧ o = .bool (outB A.who c x j) ∧ wr = w) (fun _ i _ => 9 - (intOf i).toNat)
  case atStart => exact ⟨1, rfl, by omega, by omega, rfl, rfl⟩
  case round =>
    obtain ⟨j, rfl, hj1, hj, rfl, rfl⟩ := hrel
    by_cases hlt : j ≤ 8
    · have k1 : (j : Int) ≤ 8 := by omega
      have k2 : (j : Int) < 9 := by omega
      have g1 := HG.out j hlt
      have HS : Hid (outB A.who c x (j + 1) = (outB A.who c x j && gv A.who j != (c : Int))) := out_step _ _ _ hj1
      cases ho : outB A.who c x j
      · have HS2 : Hid (outB A.who c x (j + 1) = false) := by show _ = _; rw [HS.out, ho]; rfl
        clear HS
        go_wp2
        go_roundw
        case rel => exact ⟨j + 1, by go_num, by omega, by omega, by rw [HS2.out], trivial⟩
        case measure => simp [intOf]; omega
      · have HS2 : Hid (outB A.who c x (j + 1) = (gv A.who j != (c : Int))) := by show _ = _; rw [HS.out, ho]; rfl
        clear HS
        generalize gv A.who j = y at *
        cases hy : (y == (c : Int))
        · go_wp2
          go_roundw
          case rel => exact ⟨j + 1, by go_num, by omega, by omega, by rw [HS2.out, bne, hy], trivial⟩
          case measure => simp [intOf]; omega
        · go_wp2
          go_roundw
          case rel => exact ⟨j + 1, by go_num, by omega, by omega, by rw [HS2.out, bne, hy], trivial⟩
          case measure => simp [intOf]; omega
    · obtain rfl : j = 9 := by omega
      rw [HO9.out]
      clear HG hlt
      go_wp2_with fail
      refine Calls.mono HCh.out ?_
      rintro e w1 ⟨rfl, n1, hn1, vr1, vw1, hA1, hK1, hb1, hf1, hk1, hd1⟩
      obtain ⟨ra, ca, hvw⟩ := hK1.wt.sl
      rw [hr0, List.length_nil] at hvw
      have d0 := hK1.c0
      have d10 := hK1.cw
      have dw := hK1.who HX.out
      have fw := hK1.kw.fz c
      have lk1 := hK1.kp.lt
      have lg1 := hK1.kw.lt
      have HF : Hid (∃ n', n' ≤ n + 1 ∧ KT B a ga gm gf cf n' kb gw ⟨A.who.set c 0, []⟩ ⟨A.who.set c 0, []⟩ w0 (w1.setCell ⟨gw, c, none⟩ (.bool false))) := by
        have ks : ∀ g, g ≠ gw → (w1.setCell ⟨gw, c, none⟩ (.bool false)).heap[g]? = w1.heap[g]? := fun g hg => Below.heap_setCell _ _ _ _ hg
        have hne : kb ≠ gw := by
          obtain ⟨c1, k1, _⟩ := hK1.kp
          obtain ⟨c2, k2, _⟩ := hK1.kw
          exact ty_ne k1 k2 (by decide)
        refine ⟨n1, hn1, kt_keep (vw' := vw1) hs hA1 hK1 hb1 hf1 hk1 hd1 ⟨?_, ?_, ?_⟩ (fun g _ hn => ks g (fun e => hn (.inl (.inr e)))) ((Below.refl 0 w1).setCell (p := ⟨gw, c, none⟩) (Nat.zero_le _) _) (fun g hg => .inl hg)⟩
        · dsimp only
          rw [List.length_set]
          exact (kp_stay hK1.kp HX.out (by have := HXX.out; omega) (by omega)).kept (ks kb hne)
        · exact kw_set hK1.kw hcl rfl
        · have hwt := hK1.wt
          rw [hr0] at hwt
          exact hwt.kept (fun g hg => ks g (fun e => by
            obtain ⟨c1, k1, _⟩ := hK1.kw
            obtain ⟨c3, k3⟩ := hwt.blk hg
            exact ty_ne k3 k1 (by decide) e))
      subst hvw
      clear hA1 hK1 hb1 hf1 hk1 hd1 HCh
      go_wp2
      go_ret
      exact ⟨rfl, HF.out⟩
end Go.Proofs.Ytaenoenchbfeiaa
