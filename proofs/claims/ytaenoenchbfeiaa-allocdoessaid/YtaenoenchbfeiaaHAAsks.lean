/- What is kept follows what is asked. -/
import Derived.Test.YtaenoenchbfeiaaHAKeep
namespace Go.Proofs.Ytaenoenchbfeiaa
open Go.RowKit

theorem gv_some {who : List Int} {t : Nat} {c : Nat} (ht : 1 ≤ t) (h : fnd (t : Int) who = some c) : gv who t = (c : Int) := by unfold gv; rw [if_neg (by omega), h]
theorem gv_none {who : List Int} {t : Nat} (h : fnd (t : Int) who = none) : gv who t = -1 := by unfold gv; split; rfl; rw [h]
/-- A Keeper whose row of who has which stays, and one gift goes. -/
theorem kp_gift {w : World} {kb gw n c t : Nat} {vw : Value} {who : List Int} (h : DR w 62 kb 11 (KP gw n vw who)) (h1 : 1 ≤ t) (h8 : t ≤ 8) (hx : who[c]? = some (t : Int)) (hu : ∀ (i j : Nat), who[i]? = some (t : Int) → who[j]? = some (t : Int) → i = j) : DR (w.setCell ⟨kb, 1 + t, none⟩ (.int .i64 (-1))) 62 kb 11 (KP gw n vw (who.set c (-1))) := by
  refine h.set (fun k u hk hp => ⟨hp.1, fun s hs e => ?_, hp.2.2⟩) ⟨fun e => by omega, fun s hs e => ?_, fun e => by omega⟩
  · rw [hp.2.1 s hs e]
    have hst : s ≠ t := fun e' => hk (by omega)
    unfold gv
    split
    · rfl
    · rw [fnd_set_other (by omega) (by omega) hx]
  · obtain rfl : s = t := by omega
    rw [gv_none (fnd_gone hu hx (by omega))]
theorem kw_set {w : World} {gw c : Nat} {l : List Int} {x : Int} (h : DR w 4 gw l.length (fun k u => ∀ x, l[k]? = some x → u = .bool (decide (x ≠ 0)))) (hc : c < l.length) {y : Bool} (hy : y = decide (x ≠ 0)) : DR (w.setCell ⟨gw, c, none⟩ (.bool y)) 4 gw (l.set c x).length (fun k u => ∀ y, (l.set c x)[k]? = some y → u = .bool (decide (y ≠ 0))) := by
  rw [List.length_set]
  refine h.set (fun k u hk hu y hy => ?_) (fun z hz => ?_)
  · rw [List.getElem?_set_ne (fun e => hk e.symm)] at hy
    exact hu y hy
  · rw [List.getElem?_set_self hc] at hz
    cases hz
    rw [hy]
theorem kw_stay {w : World} {gw c : Nat} {l : List Int} {x v : Int} (h : DR w 4 gw l.length (fun k u => ∀ x, l[k]? = some x → u = .bool (decide (x ≠ 0)))) (hx : l[c]? = some x) (h0 : x ≠ 0) (hy : v ≠ 0) : DR w 4 gw (l.set c v).length (fun k u => ∀ y, (l.set c v)[k]? = some y → u = .bool (decide (y ≠ 0))) := by
  rw [List.length_set]
  refine h.mono (fun k u _ hu z hz => ?_)
  rw [List.getElem?_set] at hz
  split at hz
  · rename_i e
    subst e
    split at hz
    · cases hz
      rw [hu x hx]
      simp [h0, hy]
    · omega
  · exact hu z hz
/-- Who has which: the gifts stay where a cell that is no gift is turned to one that is none. -/
theorem kp_stay {w : World} {kb gw n c : Nat} {x y : Int} {vw : Value} {who : List Int} (h : DR w 62 kb 11 (KP gw n vw who)) (hx : who[c]? = some x) (h0 : x ≤ 0) (hy : y ≤ 0) : DR w 62 kb 11 (KP gw n vw (who.set c y)) := by
  refine h.mono (fun k u _ hp => ⟨hp.1, fun s hs e => ?_, hp.2.2⟩)
  rw [hp.2.1 s hs e]
  unfold gv
  split
  · rfl
  · rw [fnd_set_other (by omega) (by omega) hx]
theorem kp_wait {w : World} {kb gw n : Nat} {vw vw' : Value} {who : List Int} (h : DR w 62 kb 11 (KP gw n vw who)) : DR (w.setCell ⟨kb, 10, none⟩ vw') 62 kb 11 (KP gw n vw' who) :=
  h.set (fun k u hk hp => ⟨hp.1, hp.2.1, fun e => absurd e hk⟩) ⟨fun e => by omega, fun s hs e => by omega, fun _ => rfl⟩
theorem full_ask {A : Al} (h : Full A) (t b : Int) : Full (askM A t b).2 := by
  unfold askM
  split
  · exact h
  · split
    · exact h
    · unfold askT
      have key : ∀ c y, A.row = [] ∨ fnd 0 A.who = none → y ≠ 0 → Full ⟨A.who.set c y, A.row⟩ := fun c y h hy => by
        rcases h with h | h
        · exact .inl h
        · refine .inr (fnd_none.2 (fun hm => ?_))
          rcases mem_set hm with e | hm
          · exact hy e.symm
          · exact fnd_none.1 h hm
      split
      · exact key _ _ h (by omega)
      · split
        · exact key _ _ h (by omega)
        · rename_i hz
          exact .inr hz
set_option maxRecDepth 100000 in
set_option maxHeartbeats 8000000 in
theorem asks_waits {B : Nat → Prop} {a ga gm gf cf n kb gw : Nat} {A : Al} {w0 w : World} (hs : ∀ g, B g → g < w0.heap.size) (h : KT B a ga gm gf cf n kb gw A A w0 w) (hI : Inv A) (t : Nat) (b : Int) (t1 : 1 ≤ t) (t8 : t ≤ 8) (hw : waitsB A t = true) :
    Calls Try.prog 13 #[.pointer (some ⟨kb, 0, none⟩), .pointer (some ⟨a, 0, none⟩), .int .i64 t, .int .i64 b] w fun e w' => e = .returned (.bool true) ∧ KT B a ga gm gf cf n kb gw (askM A t b).2 (askM A t b).2 w0 w' := by
  have hbd : ¬ ((t : Int) < 1 ∨ 8 < (t : Int)) := by omega
  obtain ⟨vr, vw, hA, hK, hb, hf, hk, hd⟩ := h
  have hrl := row_le hI
  have HE : Hid (askM A t b = (((0 : Int), false, (120 : Int)), A)) := by show _ = _; unfold askM; rw [if_neg hbd, if_pos hw]
  have HC := (ask_any a ga gm gf cf n vr A t b w hA hI (by omega)).mono (fun e w' h => (⟨h.1, kt_alloc hs hA hK hb hf hk hd h.2⟩ : e = _ ∧ KT B a ga gm gf cf n kb gw (askM A t b).2 A w0 w'))
  rw [HE.out] at HC ⊢
  unfold askE at HC
  dsimp only at HC ⊢
  have HCh : Hid _ := HC
  have HI : Hid (Inv A) := hI
  clear hA hK hb hf hk hd HC HE hI hbd
  go_enter Try.func13, Try.ntmps13
  go_wp2_with fail
  refine Calls.mono HCh.out ?_
  rintro e w1 ⟨rfl, vr1, vw1, hA1, hK1, hb1, hf1, hk1, hd1⟩
  have HA1 : Hid (AL w1 a ga gm gf cf vr1 n A) := hA1
  have HK1 : Hid (KL w1 kb gw vw1 A) := hK1
  have HB1 : Hid (Fr B w0 w1 ∧ (∀ g, Ft a ga gm gf vr1 g → ¬ B g) ∧ (∀ g, Kb kb gw vw1 g → ¬ B g) ∧ (∀ g, vw1.ownBlock = some g → vr1.ownBlock ≠ some g)) := ⟨hb1, hf1, hk1, hd1⟩
  have lk := hK1.kp.lt
  have HW : Hid _ := kwaits_any kb A.row vw1 t w1 (by omega) hK1.cw lk hK1.wt
  have hww : A.row.any (fun p => p.1 == (t : Int)) = true := hw
  rw [hww] at HW
  have g0 := hK1.cg t8
  have c0 := hK1.c0
  have c10 := hK1.cw
  have fg := hK1.kp.fz (1 + t)
  have i8 : (t : Int) < 9 := by omega
  have lgw := hK1.kw.lt
  clear hA1 hb1 hf1 hk1 hd1 hww HCh
  skip
  clear hK1
  go_wp2_with fail
  refine Calls.mono HW.out ?_
  rintro e w2 ⟨rfl, hw2⟩
  rw [hw2]
  clear hw2 HW
  go_wp2
  go_ret
  exact ⟨rfl, vr1, vw1, HA1.out, HK1.out, HB1.out.1, HB1.out.2.1, HB1.out.2.2.1, HB1.out.2.2.2⟩
set_option maxRecDepth 100000 in
set_option maxHeartbeats 8000000 in
theorem asks_gift {B : Nat → Prop} {a ga gm gf cf n kb gw : Nat} {A : Al} {w0 w : World} (hs : ∀ g, B g → g < w0.heap.size) (h : KT B a ga gm gf cf n kb gw A A w0 w) (hI : Inv A) (t : Nat) (b : Int) (t1 : 1 ≤ t) (t8 : t ≤ 8) (hw : waitsB A t = false) (c : Nat) (hq : fnd (t : Int) A.who = some c) :
    Calls Try.prog 13 #[.pointer (some ⟨kb, 0, none⟩), .pointer (some ⟨a, 0, none⟩), .int .i64 t, .int .i64 b] w fun e w' => e = .returned (.bool true) ∧ KT B a ga gm gf cf n kb gw (askM A t b).2 (askM A t b).2 w0 w' := by
  have hbd : ¬ ((t : Int) < 1 ∨ 8 < (t : Int)) := by omega
  obtain ⟨vr, vw, hA, hK, hb, hf, hk, hd⟩ := h
  have hrl := row_le hI
  have HE : Hid (askM A t b = ((((c : Nat) : Int), true, (0 : Int)), ⟨A.who.set c (-1), A.row⟩)) := by show _ = _; unfold askM; rw [if_neg hbd, if_neg (by rw [hw]; exact Bool.false_ne_true)]; unfold askT; rw [hq]
  have HC := (ask_any a ga gm gf cf n vr A t b w hA hI (by omega)).mono (fun e w' h => (⟨h.1, kt_alloc hs hA hK hb hf hk hd h.2⟩ : e = _ ∧ KT B a ga gm gf cf n kb gw (askM A t b).2 A w0 w'))
  rw [HE.out] at HC ⊢
  unfold askE at HC
  dsimp only at HC ⊢
  have HCh : Hid _ := HC
  have HI : Hid (Inv A) := hI
  clear hA hK hb hf hk hd HC HE hI hbd
  go_enter Try.func13, Try.ntmps13
  go_wp2_with fail
  refine Calls.mono HCh.out ?_
  rintro e w1 ⟨rfl, vr1, vw1, hA1, hK1, hb1, hf1, hk1, hd1⟩
  have HA1 : Hid (AL w1 a ga gm gf cf vr1 n ⟨A.who.set c (-1), A.row⟩) := hA1
  have HK1 : Hid (KL w1 kb gw vw1 A) := hK1
  have HB1 : Hid (Fr B w0 w1 ∧ (∀ g, Ft a ga gm gf vr1 g → ¬ B g) ∧ (∀ g, Kb kb gw vw1 g → ¬ B g) ∧ (∀ g, vw1.ownBlock = some g → vr1.ownBlock ≠ some g)) := ⟨hb1, hf1, hk1, hd1⟩
  have lk := hK1.kp.lt
  have HW : Hid _ := kwaits_any kb A.row vw1 t w1 (by omega) hK1.cw lk hK1.wt
  have hww : A.row.any (fun p => p.1 == (t : Int)) = false := hw
  rw [hww] at HW
  have g0 := hK1.cg t8
  have c0 := hK1.c0
  have c10 := hK1.cw
  have fg := hK1.kp.fz (1 + t)
  have i8 : (t : Int) < 9 := by omega
  have lgw := hK1.kw.lt
  clear hA1 hb1 hf1 hk1 hd1 hww HCh
  rw [gv_some t1 hq] at g0
  have HX : Hid (A.who[c]? = some (t : Int)) := (fnd_some hq).1
  have HF : Hid (KT B a ga gm gf cf n kb gw ⟨A.who.set c (-1), A.row⟩ ⟨A.who.set c (-1), A.row⟩ w0 (w1.setCell ⟨kb, 1 + t, none⟩ (.int .i64 (-1)))) := by
    have ks : ∀ g, g ≠ kb → (w1.setCell ⟨kb, 1 + t, none⟩ (.int .i64 (-1))).heap[g]? = w1.heap[g]? := fun g hg => Below.heap_setCell _ _ _ _ hg
    have hne : gw ≠ kb := by
      obtain ⟨c1, k1, _⟩ := HK1.out.kp
      obtain ⟨c2, k2, _⟩ := HK1.out.kw
      exact ty_ne k2 k1 (by decide)
    refine kt_keep (vw' := vw1) hs HA1.out HK1.out HB1.out.1 HB1.out.2.1 HB1.out.2.2.1 HB1.out.2.2.2 ⟨?_, ?_, ?_⟩ (fun g _ hn => ks g (fun e => hn (.inl (.inl e)))) ((Below.refl 0 w1).setCell (p := ⟨kb, 1 + t, none⟩) (Nat.zero_le _) _) (fun g hg => .inl hg)
    · dsimp only
      rw [List.length_set]
      exact kp_gift HK1.out.kp t1 t8 HX.out (fun i j => HI.out.one i j t (by omega))
    · exact (kw_stay HK1.out.kw HX.out (by omega) (by omega)).kept (ks gw hne)
    · exact HK1.out.wt.kept (fun g hg => ks g (fun e => by
        obtain ⟨c1, k1, _⟩ := HK1.out.kp
        obtain ⟨c3, k3⟩ := HK1.out.wt.blk hg
        exact ty_ne k3 k1 (by decide) e))
  have kc : (c : Int) ≥ 0 := by omega
  clear hK1
  go_wp2_with fail
  refine Calls.mono HW.out ?_
  rintro e w2 ⟨rfl, hw2⟩
  rw [hw2]
  clear hw2 HW
  clear HA1 HK1 HB1 HI HX
  go_wp2
  go_ret
  exact ⟨rfl, HF.out⟩
set_option maxRecDepth 100000 in
set_option maxHeartbeats 8000000 in
theorem asks_least {B : Nat → Prop} {a ga gm gf cf n kb gw : Nat} {A : Al} {w0 w : World} (hs : ∀ g, B g → g < w0.heap.size) (h : KT B a ga gm gf cf n kb gw A A w0 w) (hI : Inv A) (t : Nat) (b : Int) (t1 : 1 ≤ t) (t8 : t ≤ 8) (hw : waitsB A t = false) (hq : fnd (t : Int) A.who = none) (c : Nat) (hz : fnd 0 A.who = some c) (hr0 : A.row = []) :
    Calls Try.prog 13 #[.pointer (some ⟨kb, 0, none⟩), .pointer (some ⟨a, 0, none⟩), .int .i64 t, .int .i64 b] w fun e w' => e = .returned (.bool true) ∧ KT B a ga gm gf cf n kb gw (askM A t b).2 (askM A t b).2 w0 w' := by
  have hbd : ¬ ((t : Int) < 1 ∨ 8 < (t : Int)) := by omega
  obtain ⟨vr, vw, hA, hK, hb, hf, hk, hd⟩ := h
  have hrl := row_le hI
  have HE : Hid (askM A t b = ((((c : Nat) : Int), true, (0 : Int)), ⟨A.who.set c (-1), A.row⟩)) := by show _ = _; unfold askM; rw [if_neg hbd, if_neg (by rw [hw]; exact Bool.false_ne_true)]; unfold askT; rw [hq, hz]
  have HC := (ask_any a ga gm gf cf n vr A t b w hA hI (by omega)).mono (fun e w' h => (⟨h.1, kt_alloc hs hA hK hb hf hk hd h.2⟩ : e = _ ∧ KT B a ga gm gf cf n kb gw (askM A t b).2 A w0 w'))
  rw [HE.out] at HC ⊢
  unfold askE at HC
  dsimp only at HC ⊢
  have HCh : Hid _ := HC
  have HI : Hid (Inv A) := hI
  clear hA hK hb hf hk hd HC HE hI hbd
  go_enter Try.func13, Try.ntmps13
  go_wp2_with fail
  refine Calls.mono HCh.out ?_
  rintro e w1 ⟨rfl, vr1, vw1, hA1, hK1, hb1, hf1, hk1, hd1⟩
  have HA1 : Hid (AL w1 a ga gm gf cf vr1 n ⟨A.who.set c (-1), A.row⟩) := hA1
  have HK1 : Hid (KL w1 kb gw vw1 A) := hK1
  have HB1 : Hid (Fr B w0 w1 ∧ (∀ g, Ft a ga gm gf vr1 g → ¬ B g) ∧ (∀ g, Kb kb gw vw1 g → ¬ B g) ∧ (∀ g, vw1.ownBlock = some g → vr1.ownBlock ≠ some g)) := ⟨hb1, hf1, hk1, hd1⟩
  have lk := hK1.kp.lt
  have HW : Hid _ := kwaits_any kb A.row vw1 t w1 (by omega) hK1.cw lk hK1.wt
  have hww : A.row.any (fun p => p.1 == (t : Int)) = false := hw
  rw [hww] at HW
  have g0 := hK1.cg t8
  have c0 := hK1.c0
  have c10 := hK1.cw
  have fg := hK1.kp.fz (1 + t)
  have i8 : (t : Int) < 9 := by omega
  have lgw := hK1.kw.lt
  clear hA1 hb1 hf1 hk1 hd1 hww HCh
  rw [gv_none hq] at g0
  have HX : Hid (A.who[c]? = some 0) := (fnd_some hz).1
  have hcl : c < A.who.length := (List.getElem?_eq_some_iff.1 HX.out).1
  have w0' : w1.cell? ⟨gw, c, none⟩ = some (.bool false) := hK1.who HX.out
  have fw := hK1.kw.fz c
  obtain ⟨ra, ca, hvw⟩ := hK1.wt.sl
  rw [hr0, List.length_nil] at hvw
  have HF : Hid (KT B a ga gm gf cf n kb gw ⟨A.who.set c (-1), A.row⟩ ⟨A.who.set c (-1), A.row⟩ w0 (w1.setCell ⟨gw, c, none⟩ (.bool true))) := by
    have ks : ∀ g, g ≠ gw → (w1.setCell ⟨gw, c, none⟩ (.bool true)).heap[g]? = w1.heap[g]? := fun g hg => Below.heap_setCell _ _ _ _ hg
    have hne : kb ≠ gw := by
      obtain ⟨c1, k1, _⟩ := HK1.out.kp
      obtain ⟨c2, k2, _⟩ := HK1.out.kw
      exact ty_ne k1 k2 (by decide)
    refine kt_keep (vw' := vw1) hs HA1.out HK1.out HB1.out.1 HB1.out.2.1 HB1.out.2.2.1 HB1.out.2.2.2 ⟨?_, ?_, ?_⟩ (fun g _ hn => ks g (fun e => hn (.inl (.inr e)))) ((Below.refl 0 w1).setCell (p := ⟨gw, c, none⟩) (Nat.zero_le _) _) (fun g hg => .inl hg)
    · dsimp only
      rw [List.length_set]
      exact (kp_stay HK1.out.kp HX.out (by omega) (by omega)).kept (ks kb hne)
    · exact kw_set HK1.out.kw hcl rfl
    · exact HK1.out.wt.kept (fun g hg => ks g (fun e => by
        obtain ⟨c1, k1, _⟩ := HK1.out.kw
        obtain ⟨c3, k3⟩ := HK1.out.wt.blk hg
        exact ty_ne k3 k1 (by decide) e))
  have kc : ¬ (c : Int) < 0 := by omega
  have kd : ¬ (c : Int) ≥ (A.who.length : Int) := by omega
  have ke : (c : Int) < (A.who.length : Int) := by omega
  subst hvw
  clear hK1
  go_wp2_with fail
  refine Calls.mono HW.out ?_
  rintro e w2 ⟨rfl, hw2⟩
  rw [hw2]
  clear hw2 HW
  clear HA1 HK1 HB1 HI HX
  go_wp2
  go_ret
  exact ⟨rfl, HF.out⟩
end Go.Proofs.Ytaenoenchbfeiaa
