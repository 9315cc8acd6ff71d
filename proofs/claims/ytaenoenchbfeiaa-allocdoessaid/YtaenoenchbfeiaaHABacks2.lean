/- What is kept follows what comes back: backs. -/
import Derived.Test.YtaenoenchbfeiaaHABacks
namespace Go.Proofs.Ytaenoenchbfeiaa
open Go.RowKit

theorem kp_come {w : World} {kb gw n c t : Nat} {vw : Value} {who : List Int} (h : DR w 62 kb 11 (KP gw n vw who)) (h1 : 1 ≤ t) (h8 : t ≤ 8) (hx : who[c]? = some (-1)) (hn : fnd (t : Int) who = none) : DR (w.setCell ⟨kb, 1 + t, none⟩ (.int .i64 c)) 62 kb 11 (KP gw n vw (who.set c t)) := by
  have hcl := (List.getElem?_eq_some_iff.1 hx).1
  refine h.set (fun k u hk hp => ⟨hp.1, fun s hs e => ?_, hp.2.2⟩) ⟨fun e => by omega, fun s hs e => ?_, fun e => by omega⟩
  · rw [hp.2.1 s hs e]
    have hst : s ≠ t := fun e' => hk (by omega)
    unfold gv
    split
    · rfl
    · rw [fnd_set_other (by omega) (by omega) hx]
  · obtain rfl : s = t := by omega
    rw [gv_some h1 (fnd_at (List.getElem?_set_self hcl) (fun j hj hjj => ?_))]
    rw [List.getElem?_set_ne (by omega)] at hjj
    exact fnd_none.1 hn (List.mem_of_getElem? hjj)
set_option maxRecDepth 100000 in
set_option maxHeartbeats 8000000 in
theorem backs_bad {B : Nat → Prop} {a ga gm gf cf n kb gw : Nat} {A : Al} {w0 w : World} (hs : ∀ g, B g → g < w0.heap.size) (h : KT B a ga gm gf cf n kb gw A A w0 w) (hI : Inv A) (hn6 : n ≤ 1000000) (c : Nat) (x : Int) (hx : A.who[c]? = some x) (hxx : x ≠ -1) :
    Calls Try.prog 14 #[.pointer (some ⟨kb, 0, none⟩), .pointer (some ⟨a, 0, none⟩), .int .i64 c] w fun e w' => e = .returned (.bool true) ∧ ∃ n', n' ≤ n + 1 ∧ KT B a ga gm gf cf n' kb gw (backM A c).2 (backM A c).2 w0 w' := by
  obtain ⟨vr, vw, hA, hK, hb, hf, hk, hd⟩ := h
  have HE : Hid (backM A c = (((0 : Int), (120 : Int)), A)) := by show _ = _; unfold backM; rw [if_neg (fun h => hxx (by simpa [hx] using h.1))]
  have HC := (back_any a ga gm gf cf n vr A c w hA hI hn6).mono (fun e w' h => (⟨h.1, h.2.elim (fun n' h' => ⟨n', h'.1, kt_alloc hs hA hK hb hf hk hd h'.2⟩)⟩ : e = _ ∧ ∃ n', n' ≤ n + 1 ∧ KT B a ga gm gf cf n' kb gw (backM A c).2 A w0 w'))
  rw [HE.out] at HC ⊢
  unfold backE at HC
  dsimp only at HC ⊢
  have HCh : Hid _ := HC
  have HO9 : Hid (outB A.who c x 9 = false) := by show _ = _; rw [out_end hI hx]; exact decide_eq_false hxx
  have HI : Hid (Inv A) := hI
  have HX : Hid (A.who[c]? = some x) := hx
  have HG : Hid (∀ t : Nat, t ≤ 8 → w.cell? ⟨kb, 1 + t, none⟩ = some (.int .i64 (gv A.who t))) := fun t ht => hK.cg ht
  have c0 := hK.c0
  have wc := hK.who hx
  have lk := hK.kp.lt
  have lgw := hK.kw.lt
  have hcl : c < A.who.length := (List.getElem?_eq_some_iff.1 hx).1
  have ke : (c : Int) < (A.who.length : Int) := by omega
  have HB0 : Hid (decide (x ≠ 0) = outB A.who c x 1) := by show _ = _; unfold outB; simp [List.range_succ]
  rw [HB0.out] at wc
  clear hA hK hb hf hk hd HC HE hI HB0
  have HXX : Hid _ := hxx
  clear hxx hx
  go_enter Try.func14, Try.ntmps14
  go_wp2
  go_loopw [7, 8] (fun o i wr => ∃ j : Nat, i = .int .i64 j ∧ 1 ≤ j ∧ j ≤ 9 ∧ o = .bool (outB A.who c x j) ∧ wr = w) (fun _ i _ => 9 - (intOf i).toNat)
  case atStart => exact ⟨1, rfl, by omega, by omega, rfl, rfl⟩
  case round =>
    obtain ⟨j, rfl, hj1, hj, rfl, rfl⟩ := hrel
    by_cases hlt : j ≤ 8
    · have k1 : (j : Int) ≤ 8 := by omega
      have k2 : (j : Int) < 9 := by omega
      have g1 := HG.out j hlt
      have HS : Hid (outB A.who c x (j + 1) = (outB A.who c x j && gv A.who j != (c : Int))) := out_step _ _ _ hj1
      cases ho : outB A.who c x j
      · have HS2 : Hid (outB A.who c x (j + 1) = false) := by show _ = _; rw [HS.out, ho]; rfl
        clear HS
        go_wp2
        go_roundw
        case rel => exact ⟨j + 1, by go_num, by omega, by omega, by rw [HS2.out], trivial⟩
        case measure => simp [intOf]; omega
      · have HS2 : Hid (outB A.who c x (j + 1) = (gv A.who j != (c : Int))) := by show _ = _; rw [HS.out, ho]; rfl
        clear HS
        generalize gv A.who j = y at *
        cases hy : (y == (c : Int))
        · go_wp2
          go_roundw
          case rel => exact ⟨j + 1, by go_num, by omega, by omega, by rw [HS2.out, bne, hy], trivial⟩
          case measure => simp [intOf]; omega
        · go_wp2
          go_roundw
          case rel => exact ⟨j + 1, by go_num, by omega, by omega, by rw [HS2.out, bne, hy], trivial⟩
          case measure => simp [intOf]; omega
    · obtain rfl : j = 9 := by omega
      rw [HO9.out]
      clear HG hlt
      go_wp2_with fail
      refine Calls.mono HCh.out ?_
      rintro e w1 ⟨rfl, n1, hn1, vr1, vw1, hA1, hK1, hb1, hf1, hk1, hd1⟩
      have HF : Hid (∃ n', n' ≤ n + 1 ∧ KT B a ga gm gf cf n' kb gw A A w0 w1) := ⟨n1, hn1, vr1, vw1, hA1, hK1, hb1, hf1, hk1, hd1⟩
      clear hA1 hK1 hb1 hf1 hk1 hd1 HCh
      go_wp2
      go_ret
      exact ⟨rfl, HF.out⟩
end Go.Proofs.Ytaenoenchbfeiaa
