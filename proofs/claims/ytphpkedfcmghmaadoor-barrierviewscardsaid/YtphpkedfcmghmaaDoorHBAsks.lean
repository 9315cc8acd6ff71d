/- asks. -/
import Derived.Test.YtphpkedfcmghmaaDoorHABookB
namespace Go.Proofs.YtphpkedfcmghmaaDoor
open Go.RowKit

def bl (f : Nat → Bool) (n : Nat) : List Bool := (List.range n).map f
theorem bl_len (f : Nat → Bool) (n : Nat) : (bl f n).length = n := by simp [bl]
theorem drb_rx {W : World} {g n : Nat} {f : Nat → Bool} (h : DR W 4 g n (fun k u => u = .bool (f k))) : RX Value.bool W (some ⟨g, 0, none⟩) (bl f n) := by
  refine ⟨g, 0, .inr rfl, fun j x hx => ?_⟩
  have hj : j < n := by have := (List.getElem?_eq_some_iff.1 hx).1; rwa [bl_len] at this
  have e : x = f j := by
    unfold bl at hx
    rw [List.getElem?_map, List.getElem?_range hj] at hx
    exact (Option.some.inj hx).symm
  obtain ⟨u, h1, h2⟩ := h.cell hj
  rw [Nat.zero_add, h1, h2, e]
  exact ⟨h.lt, rfl⟩
theorem dr_own {W : World} {g n : Nat} {f : Nat → Bool} (h : DR W 4 g n (fun k u => u = .bool (f k))) (hn : n ≤ 1000000) : ∃ xs, W.ownsRow 0 4 1 (.slice (some ⟨g, 0, none⟩) n n) n xs := by
  obtain ⟨cs, h1, h2, _⟩ := h
  exact ⟨cs.toList, own_of h1 (by omega) (Nat.le_refl _) (by unfold maxLen; omega) (Nat.zero_le _) (by simp; omega) (fun k u hu => by simpa using hu)⟩
theorem rx_nil (W : World) : RX Value.bool W none ([] : List Bool) := ⟨0, 0, .inl rfl, fun j x hx => by cases hx⟩
/-- What asks leaves. -/
structure AsR (w w' : World) (b N : Nat) (vb : Value) (V : Nat → Value) (vb' : Value) (V' : Nat → Value) : Prop where
  k : BB w' b vb' (N + 2) V'
  f : ∀ g, BBF b vb' (N + 2) V' g → BBF b vb N V g ∨ w.heap.size ≤ g
  bw : Below 0 w w'
  o : ∀ g, g < w.heap.size → ¬ BBF b vb N V g → w'.heap[g]? = w.heap[g]?
theorem AsR.two {w w1 w2 w3 : World} {b N : Nat} {vb v1 v2 la lb : Value} {V : Nat → Value} (hb : Below w.heap.size w w1)
    (h1 : BB w2 b v1 (N + 1) (fun j => if j = N then la else V j) ∧ ∀ g, BBF b v1 (N + 1) (fun j => if j = N then la else V j) g → BBF b vb N V g ∨ la.ownBlock = some g ∨ w1.heap.size ≤ g) (b1 : Below 0 w1 w2) (o1 : ∀ g, g < w1.heap.size → ¬ BBF b vb N V g → w2.heap[g]? = w1.heap[g]?)
    (ha : ∀ g, la.ownBlock = some g → w.heap.size ≤ g) (hlb : ∀ g, lb.ownBlock = some g → w.heap.size ≤ g)
    (h2 : BB w3 b v2 (N + 1 + 1) (fun j => if j = N + 1 then lb else (fun j => if j = N then la else V j) j) ∧ ∀ g, BBF b v2 (N + 1 + 1) (fun j => if j = N + 1 then lb else (fun j => if j = N then la else V j) j) g → BBF b v1 (N + 1) (fun j => if j = N then la else V j) g ∨ lb.ownBlock = some g ∨ w2.heap.size ≤ g) (b2 : Below 0 w2 w3) (o2 : ∀ g, g < w2.heap.size → ¬ BBF b v1 (N + 1) (fun j => if j = N then la else V j) g → w3.heap[g]? = w2.heap[g]?) :
    AsR w w3 b N vb V v2 (fun j => if j = N + 1 then lb else (fun j => if j = N then la else V j) j) := by
  have s1 := hb.size
  have s2 := b1.size
  have f1 : ∀ g, BBF b v1 (N + 1) (fun j => if j = N then la else V j) g → BBF b vb N V g ∨ w.heap.size ≤ g := fun g hg => by
    rcases h1.2 g hg with h | h | h
    · exact .inl h
    · exact .inr (ha g h)
    · exact .inr (by omega)
  refine ⟨h2.1, fun g hg => ?_, ((hb.mono (Nat.zero_le _)).trans b1).trans b2, fun g hg hn => ?_⟩
  · rcases h2.2 g hg with h | h | h
    · exact f1 g h
    · exact .inr (hlb g h)
    · exact .inr (by omega)
  · rw [o2 g (by omega) (fun h => by rcases f1 g h with h | h; exact hn h; omega), o1 g (by omega) hn, hb.block g hg]
set_option maxRecDepth 100000 in
set_option maxHeartbeats 16000000 in
theorem asks_any (px pv : Vp) (v : Vw) (b N : Nat) (vb : Value) (V : Nat → Value) (w : World) (hX : VL w px v) (hV : VL w pv v) (hT : Tab w) (hsm : v.h.length + v.gl.length + (v.lanes.map Ln.roots).flatten.length ≤ 20000) (hgc : v.gl.length ≤ pv.gc) (hB : BB w b vb N V) (hN : N ≤ 1000) :
    Calls Tryd.prog 9 #[.agg (px.cells v), .agg (pv.cells v), .pointer (some ⟨b, 0, none⟩)] w fun e w' => e = .returned (.bool true) ∧ ∃ vb' V', AsR w w' b N vb V vb' V' := by
  have hn : v.h.length ≤ 20000 := by omega
  have HX : Hid (VL w px v) := hX
  have HV : Hid (VL w pv v) := hV
  have HT : Hid (Tab w) := hT
  have HSm : Hid (v.h.length + v.gl.length + (v.lanes.map Ln.roots).flatten.length ≤ 20000) := hsm
  have HGc : Hid (v.gl.length ≤ pv.gc) := hgc
  have HB : Hid (BB w b vb N V) := hB
  obtain ⟨W1, hW1⟩ : ∃ W1, (w.alloc (.cells (px.cells v) 28)).alloc (.cells (pv.cells v) 28) = W1 := ⟨_, rfl⟩
  have b1 : Below w.heap.size w W1 := by
    rw [← hW1]
    exact ((Below.refl _ w).alloc (Nat.le_refl _) _).alloc (by rw [World.size_alloc]; omega) _
  have HE1 : Hid (VB W1 w.heap.size px v ∧ VB W1 (w.heap.size + 1) pv v ∧ Below w.heap.size w W1) := by
    refine ⟨?_, ?_, b1⟩
    · unfold VB
      rw [← hW1, Below.heap_alloc _ _ _ (by rw [World.size_alloc]; omega)]
      exact World.alloc_heap_new w _
    · unfold VB
      rw [← hW1]
      have := World.alloc_heap_new (w.alloc (.cells (px.cells v) 28)) (.cells (pv.cells v) 28)
      rw [World.size_alloc] at this
      exact this
  have kp : ∀ {Wa Wb : World}, (VB Wa w.heap.size px v ∧ VB Wa (w.heap.size + 1) pv v ∧ Below w.heap.size w Wa) → Below Wa.heap.size Wa Wb → (VB Wb w.heap.size px v ∧ VB Wb (w.heap.size + 1) pv v ∧ Below w.heap.size w Wb) := fun h hb => ⟨(hb.block _ (heap_lt h.1)).trans h.1, (hb.block _ (heap_lt h.2.1)).trans h.2.1, h.2.2.trans (hb.mono h.2.2.size)⟩
  have HKp : Hid _ := @kp
  have HGu : Hid (∀ W, Below w.heap.size w W → Calls Tryd.prog 23 #[.agg (px.cells v)] W fun e w' => GuR v e W w') := fun W hW => guarded_any px v W (HX.out.kc (kc_below (Nat.le_refl _) hW)) (HT.out.below hW) (by omega)
  have HHo : Hid (∀ W, Below w.heap.size w W → Calls Tryd.prog 12 #[.agg (px.cells v)] W fun e w' => e = .returned (hoE v) ∧ Below W.heap.size W w') := fun W hW => holds_any px v W (HX.out.kc (kc_below (Nat.le_refl _) hW)) (HT.out.below hW) (by omega)
  have HRg : Hid (∀ W, Below w.heap.size w W → Calls Tryd.prog 28 #[.agg (pv.cells v)] W fun e w' => GuD v e W w') := fun W hW => refGuarded_any pv v W (HV.out.kc (kc_below (Nat.le_refl _) hW)) HSm.out
  have HRh : Hid (∀ W, Below w.heap.size w W → Calls Tryd.prog 29 #[.agg (pv.cells v)] W fun e w' => e = .returned (hoE v) ∧ Below W.heap.size W w') := fun W hW => refHolds_any pv v W (HV.out.kc (kc_below (Nat.le_refl _) hW)) HSm.out HGc.out
  obtain ⟨is, at', er, hho⟩ : ∃ (is : Bool) (at' er : Int), hoE v = .tuple #[.bool is, .int .i64 at', .int .i64 er] := ⟨_, _, _, rfl⟩
  rw [hho] at HHo HRh
  have HW1 : Hid _ := hW1
  obtain ⟨pcr, pcc, pyr, pyc, pgr, pgc, plr, plc⟩ := px
  obtain ⟨qcr, qcc, qyr, qyc, qgr, qgc, qlr, qlc⟩ := pv
  unfold Vp.cells at HW1 HGu HHo HRg HRh
  unfold Vp.cells
  dsimp only at HW1 HGu HHo HRg HRh ⊢
  clear hW1 b1 kp hX hV hT hsm hgc hB hho
  go_enter Tryd.func9, Tryd.ntmps9
  go_upto_region 1 with fail
  rw [HW1.out]
  clear HW1
  obtain ⟨x0, x1, x2, x3, x4, x5, x6⟩ := HE1.out.1.at7
  dsimp only at x0 x3 x4 x6
  have l1' := heap_lt HE1.out.1
  go_wp2_with fail
  refine Calls.mono (HGu.out W1 HE1.out.2.2) ?_
  rintro e W2 ⟨b2, hor⟩
  have HE2 : Hid _ := HKp.out HE1.out b2
  have HS1 : Hid (w.heap.size ≤ W1.heap.size) := HE1.out.2.2.size
  have HOr : Hid _ := hor
  clear b2 hor HE1 x0 x1 x2 x3 x4 x5 x6 l1'
  obtain ⟨x0, x1, x2, x3, x4, x5, x6⟩ := HE2.out.1.at7
  dsimp only at x0 x3 x4 x6
  have l1' := heap_lt HE2.out.1
  rcases HOr.out with ⟨hm, rfl⟩ | ⟨hm, g1, g2, rfl, hd1, hd2, k1, k2, k12⟩
  · have HM : Hid (mayV v = false) := hm
    clear HOr hm
    go_wp2_with fail
    refine Calls.mono (HHo.out W2 HE2.out.2.2) ?_
    rintro e W3 ⟨rfl, b3⟩
    have HE3 : Hid _ := HKp.out HE2.out b3
    clear b3 HE2 x0 x1 x2 x3 x4 x5 x6 l1'
    obtain ⟨y0, y1, y2, y3, y4, y5, y6⟩ := HE3.out.2.1.at7
    dsimp only at y0 y3 y4 y6
    have l3 := heap_lt HE3.out.2.1
    go_wp2_with fail
    refine Calls.mono (HRg.out W3 HE3.out.2.2) ?_
    rintro e W4 ⟨b4, hor4⟩
    have HE4 : Hid _ := HKp.out HE3.out b4
    rcases hor4 with ⟨_, rfl⟩ | ⟨hm4, _⟩
    · clear b4 HE3 y0 y1 y2 y3 y4 y5 y6 l3
      obtain ⟨y0, y1, y2, y3, y4, y5, y6⟩ := HE4.out.2.1.at7
      dsimp only at y0 y3 y4 y6
      have l4 := heap_lt HE4.out.2.1
      go_wp2_with fail
      refine Calls.mono (HRh.out W4 HE4.out.2.2) ?_
      rintro e W5 ⟨rfl, b5⟩
      have HB5 : Hid (Below w.heap.size w W5) := (HKp.out HE4.out b5).2.2
      clear b5 HE4 y0 y1 y2 y3 y4 y5 y6 l4
      have HSm1 : Hid (∀ W, Calls Tryd.prog 24 #[.slice none 0 0, .slice none 0 0] W fun e w' => e = .returned (.bool true) ∧ Below W.heap.size W w') := fun W => by
        have := sameB_any [] [] none none 0 0 W (Nat.zero_le _) (Nat.zero_le _) (rx_nil W) (rx_nil W)
        rw [decide_eq_true rfl] at this
        exact this
      go_wp2_with fail
      refine Calls.mono (HSm1.out W5) ?_
      rintro e W6 ⟨rfl, b6⟩
      have HB6 : Hid (Below w.heap.size w W6) := HB5.out.trans (b6.mono HB5.out.size)
      clear b6 HB5
      go_wp2_with fail
      refine Calls.mono (HSm1.out W6) ?_
      rintro e W7 ⟨rfl, b7⟩
      have HB7 : Hid (Below w.heap.size w W7) := HB6.out.trans (b7.mono HB6.out.size)
      clear b7 HB6 HSm1
      go_wp2_with fail
      refine Calls.mono (bookBools_any b N vb V none 0 0 [] W7 (HB.out.below HB7.out) (by omega) (World.ownsRow_nil _ _ _ _) (Nat.zero_le _) (fun g hg => by cases hg)) ?_
      rintro e W8 ⟨⟨r8, rfl⟩, v8, h8, b8, o8, _⟩
      have H8 : Hid _ := h8 _ rfl
      have HO8 : Hid (Below 0 W7 W8 ∧ ∀ g, g < W7.heap.size → ¬ BBF b vb N V g → W8.heap[g]? = W7.heap[g]?) := ⟨b8, o8⟩
      clear h8 b8 o8
      go_wp2_with fail
      refine Calls.mono (bookBools_any b (N + 1) v8 _ none 0 0 [] W8 H8.out.1 (by omega) (World.ownsRow_nil _ _ _ _) (Nat.zero_le _) (fun g hg => by cases hg)) ?_
      rintro e W9 ⟨⟨r9, rfl⟩, v9, h9, b9, o9, _⟩
      have HR : Hid (AsR w W9 b N vb V v9 _) := AsR.two HB7.out H8.out HO8.out.1 HO8.out.2 (fun g hg => by cases hg) (fun g hg => by cases hg) (h9 _ rfl) b9 o9
      clear h9 b9 o9 H8 HO8
      go_wp2_with fail
      go_ret
      exact ⟨by simp, _, _, HR.out⟩
    · rw [HM.out] at hm4
      cases hm4
  · have HM : Hid (mayV v = true) := hm
    have HD2 : Hid (DR W2 4 g1 v.h.length (fun k u => u = .bool (byM v k)) ∧ DR W2 4 g2 v.h.length (fun k u => u = .bool (wellM v k))) := ⟨hd1, hd2⟩
    have HK : Hid (W1.heap.size ≤ g1 ∧ W1.heap.size ≤ g2 ∧ g1 ≠ g2) := ⟨k1, k2, k12⟩
    have HKd : Hid (∀ {Wa Wb : World}, (DR Wa 4 g1 v.h.length (fun k u => u = .bool (byM v k)) ∧ DR Wa 4 g2 v.h.length (fun k u => u = .bool (wellM v k))) → Below Wa.heap.size Wa Wb → (DR Wb 4 g1 v.h.length (fun k u => u = .bool (byM v k)) ∧ DR Wb 4 g2 v.h.length (fun k u => u = .bool (wellM v k)))) := fun h hb => ⟨h.1.kept (hb.block _ h.1.lt), h.2.kept (hb.block _ h.2.lt)⟩
    clear HOr hm hd1 hd2 k1 k2 k12
    go_wp2_with fail
    refine Calls.mono (HHo.out W2 HE2.out.2.2) ?_
    rintro e W3 ⟨rfl, b3⟩
    have HE3 : Hid _ := HKp.out HE2.out b3
    have HD3 : Hid _ := HKd.out HD2.out b3
    clear b3 HE2 HD2 x0 x1 x2 x3 x4 x5 x6 l1'
    obtain ⟨y0, y1, y2, y3, y4, y5, y6⟩ := HE3.out.2.1.at7
    dsimp only at y0 y3 y4 y6
    have l3 := heap_lt HE3.out.2.1
    go_wp2_with fail
    refine Calls.mono (HRg.out W3 HE3.out.2.2) ?_
    rintro e W4 ⟨b4, hor4⟩
    have HE4 : Hid _ := HKp.out HE3.out b4
    have HD4 : Hid _ := HKd.out HD3.out b4
    rcases hor4 with ⟨hm4, _⟩ | ⟨_, d1, d2, rfl, hd1, hd2⟩
    · rw [HM.out] at hm4
      cases hm4
    · have HG4 : Hid (DR W4 4 d1 v.h.length (fun k u => u = .bool (byM v k)) ∧ DR W4 4 d2 v.h.length (fun k u => u = .bool (wellM v k))) := ⟨hd1, hd2⟩
      have HKe : Hid (∀ {Wa Wb : World}, (DR Wa 4 d1 v.h.length (fun k u => u = .bool (byM v k)) ∧ DR Wa 4 d2 v.h.length (fun k u => u = .bool (wellM v k))) → Below Wa.heap.size Wa Wb → (DR Wb 4 d1 v.h.length (fun k u => u = .bool (byM v k)) ∧ DR Wb 4 d2 v.h.length (fun k u => u = .bool (wellM v k)))) := fun h hb => ⟨h.1.kept (hb.block _ h.1.lt), h.2.kept (hb.block _ h.2.lt)⟩
      clear b4 HE3 HD3 hd1 hd2 y0 y1 y2 y3 y4 y5 y6 l3
      obtain ⟨y0, y1, y2, y3, y4, y5, y6⟩ := HE4.out.2.1.at7
      dsimp only at y0 y3 y4 y6
      have l4 := heap_lt HE4.out.2.1
      go_wp2_with fail
      refine Calls.mono (HRh.out W4 HE4.out.2.2) ?_
      rintro e W5 ⟨rfl, b5⟩
      have HB5 : Hid (Below w.heap.size w W5) := (HKp.out HE4.out b5).2.2
      have HD5 : Hid _ := HKd.out HD4.out b5
      have HG5 : Hid _ := HKe.out HG4.out b5
      clear b5 HE4 HD4 HG4 y0 y1 y2 y3 y4 y5 y6 l4
      have HSb : Hid (∀ (f : Nat → Bool) (ga gb : Nat) (W : World), DR W 4 ga v.h.length (fun k u => u = .bool (f k)) → DR W 4 gb v.h.length (fun k u => u = .bool (f k)) → Calls Tryd.prog 24 #[.slice (some ⟨ga, 0, none⟩) v.h.length v.h.length, .slice (some ⟨gb, 0, none⟩) v.h.length v.h.length] W fun e w' => e = .returned (.bool true) ∧ Below W.heap.size W w') := fun f ga gb W ha hb => by
        have := sameB_any (bl f v.h.length) (bl f v.h.length) (some ⟨ga, 0, none⟩) (some ⟨gb, 0, none⟩) v.h.length v.h.length W (by rw [bl_len]; unfold maxLen; omega) (by rw [bl_len]; unfold maxLen; omega) (drb_rx ha) (drb_rx hb)
        rw [decide_eq_true rfl, bl_len] at this
        exact this
      go_wp2_with fail
      refine Calls.mono (HSb.out _ g1 d1 W5 HD5.out.1 HG5.out.1) ?_
      rintro e W6 ⟨rfl, b6⟩
      have HB6 : Hid (Below w.heap.size w W6) := HB5.out.trans (b6.mono HB5.out.size)
      have HD6 : Hid _ := HKd.out HD5.out b6
      have HG6 : Hid _ := HKe.out HG5.out b6
      clear b6 HB5 HD5 HG5
      go_wp2_with fail
      refine Calls.mono (HSb.out _ g2 d2 W6 HD6.out.2 HG6.out.2) ?_
      rintro e W7 ⟨rfl, b7⟩
      have HB7 : Hid (Below w.heap.size w W7) := HB6.out.trans (b7.mono HB6.out.size)
      have HD7 : Hid _ := HKd.out HD6.out b7
      clear b7 HB6 HD6 HG6 HSb
      go_wp2_with fail
      obtain ⟨xs1, ho1⟩ := dr_own HD7.out.1 (by omega)
      refine Calls.mono (bookBools_any b N vb V (some ⟨g1, 0, none⟩) v.h.length v.h.length xs1 W7 (HB.out.below HB7.out) (by omega) ho1 (by omega) (fun g hg hf => by
        have hg : g1 = g := Option.some.inj hg
        subst hg
        have := HB.out.lt _ hf
        have := HK.out.1
        have := HS1.out
        omega)) ?_
      rintro e W8 ⟨⟨r8, rfl⟩, v8, h8, b8, o8, t8⟩
      have H8 : Hid _ := h8 _ rfl
      have HO8 : Hid (Below 0 W7 W8 ∧ ∀ g, g < W7.heap.size → ¬ BBF b vb N V g → W8.heap[g]? = W7.heap[g]?) := ⟨b8, o8⟩
      have HD8 : Hid (DR W8 4 g2 v.h.length (fun k u => u = .bool (wellM v k))) := by
        obtain ⟨cs, q1, q2⟩ := HD7.out.2
        exact ⟨cs, (t8 _ _ q1).trans q1, q2⟩
      have HL7 : Hid (g2 < W7.heap.size) := HD7.out.2.lt
      clear h8 b8 o8 t8 ho1 HD7
      go_wp2_with fail
      obtain ⟨xs2, ho2⟩ := dr_own HD8.out (by omega)
      refine Calls.mono (bookBools_any b (N + 1) v8 _ (some ⟨g2, 0, none⟩) v.h.length v.h.length xs2 W8 H8.out.1 (by omega) ho2 (by omega) (fun g hg hf => by
        have hg : g2 = g := Option.some.inj hg
        subst hg
        have q1 := HK.out
        have q2 := HS1.out
        have q3 := HL7.out
        rcases H8.out.2 _ hf with h | h | h
        · have := HB.out.lt _ h
          omega
        · exact q1.2.2 (Option.some.inj h)
        · omega)) ?_
      rintro e W9 ⟨⟨r9, rfl⟩, v9, h9, b9, o9, _⟩
      have HR : Hid (AsR w W9 b N vb V v9 _) := AsR.two HB7.out H8.out HO8.out.1 HO8.out.2 (fun g hg => by cases hg; exact Nat.le_trans HS1.out HK.out.1) (fun g hg => by cases hg; exact Nat.le_trans HS1.out HK.out.2.1) (h9 _ rfl) b9 o9
      clear h9 b9 o9 H8 HO8 ho2
      go_wp2_with fail
      go_ret
      exact ⟨by simp, _, _, HR.out⟩
end Go.Proofs.YtphpkedfcmghmaaDoor
