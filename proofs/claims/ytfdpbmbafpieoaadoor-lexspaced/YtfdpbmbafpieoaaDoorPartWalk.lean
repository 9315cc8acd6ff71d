/- The walk of LexParts. -/
import Derived.Test.YtfdpbmbafpieoaaDoorParts
import Derived.Deep.RegionHeld3
namespace Go.Proofs.YtfdpbmbafpieoaaDoor
open Go.RowKit

theorem fine_size (l : List UInt8) (h : fineB (items l) = true) : l.length ≤ 65536 := by
  rcases Nat.lt_or_ge 65536 l.length with h' | h'
  · unfold items at h; rw [if_pos h'] at h; simp [fineB] at h
  · exact h'

/-- A token's bytes, as a text: its tokens, and whether it is a symbol. -/
theorem part_items (a : List UInt8) (hne : a ≠ []) (hf : leave false a = a) (he : begE a = 0) (hl : (part a).length ≤ 65536) :
    items (part a) = [(put (begT a) 0, 0), (⟨9, [], 0, (part a).length⟩, 0)] ∧ symB (part a) = ((begT a).kind == 6) := by
  refine ⟨by rw [items_sc _ hl]; exact part_sc a hne hf he, ?_⟩
  obtain ⟨h1, h2, h3, h4, h5, h6⟩ := part_beg a hne hf he [] (by simp)
  rw [List.append_nil] at h2 h3 h4 h5
  unfold symB; rw [h3, h4, h5]; simp

theorem sym_val (d : ByteArray) : (begE d.data.toList == 0 && ((begT d.data.toList).kind == 6 && ((begS d.data.toList : Nat) : Int) == (d.size : Int))) = symB d.data.toList := by
  unfold symB; rw [← size_len]
theorem keepA {W w6 : World} {g g2 o0 o1 o2 o3 : Nat} {v0 v1 v2 v3 v7 u0 u1 u2 u3 : Option Value} (hb : Below W.heap.size W w6)
    (h : (W.cell? ⟨g2, 0, none⟩ = v0 ∧ W.cell? ⟨g2, 1, none⟩ = v1 ∧ W.cell? ⟨g2, 2, none⟩ = v2 ∧ W.cell? ⟨g2, 3, none⟩ = v3 ∧ W.cell? ⟨g2, 7, none⟩ = v7) ∧
      (W.cell? ⟨g, o0, none⟩ = u0 ∧ W.cell? ⟨g, o1, none⟩ = u1 ∧ W.cell? ⟨g, o2, none⟩ = u2 ∧ W.cell? ⟨g, o3, none⟩ = u3) ∧ g2 < W.heap.size ∧ g < W.heap.size) :
    (w6.cell? ⟨g2, 0, none⟩ = v0 ∧ w6.cell? ⟨g2, 1, none⟩ = v1 ∧ w6.cell? ⟨g2, 2, none⟩ = v2 ∧ w6.cell? ⟨g2, 3, none⟩ = v3 ∧ w6.cell? ⟨g2, 7, none⟩ = v7) ∧
      (w6.cell? ⟨g, o0, none⟩ = u0 ∧ w6.cell? ⟨g, o1, none⟩ = u1 ∧ w6.cell? ⟨g, o2, none⟩ = u2 ∧ w6.cell? ⟨g, o3, none⟩ = u3) ∧ g2 < w6.heap.size ∧ g < w6.heap.size := by
  obtain ⟨⟨a0, a1, a2, a3, a7⟩, ⟨c0, c1, c2, c3⟩, h2, h1⟩ := h
  obtain ⟨hc, _⟩ := bcell hb
  exact ⟨⟨(hc _ _ h2).trans a0, (hc _ _ h2).trans a1, (hc _ _ h2).trans a2, (hc _ _ h2).trans a3, (hc _ _ h2).trans a7⟩, ⟨(hc _ _ h1).trans c0, (hc _ _ h1).trans c1, (hc _ _ h1).trans c2, (hc _ _ h1).trans c3⟩, Nat.lt_of_lt_of_le h2 hb.size, Nat.lt_of_lt_of_le h1 hb.size⟩

set_option maxRecDepth 100000 in
set_option maxHeartbeats 2000000 in
theorem lexParts_walk (s : ByteArray) (w : World) (hE : EV w) :
    Calls Tryd.prog 6 #[.string s] w fun e w' => e = .returned (.bool true) ∧ Below w.heap.size w w' := by
  have HE : Hid (EV w) := hE
  clear hE
  by_cases hbig : 1048576 < s.size
  · go_enter Tryd.func6, Tryd.ntmps6
    go_wp2_with fail
    refine (works_any _ HE.out).mono ?_
    rintro e w1 ⟨rfl, hb1⟩
    go_wp2_with fail
    go_ret
    exact ⟨rfl, hb1⟩
  have Hs : Hid (s.size ≤ 281474976710656) := by show s.size ≤ _; omega
  cases h1 : fineB (items s.data.toList)
  · have H1 : Hid _ := h1
    clear h1
    go_enter Tryd.func6, Tryd.ntmps6
    go_wp2_with fail
    refine (works_any _ HE.out).mono ?_
    rintro e w1 ⟨rfl, hb1⟩
    have HE1 : Hid (EV w1) := HE.out.below hb1 HE.out.lt
    go_wp2_with fail
    refine (tokens_err s Hs.out _ HE1.out H1.out).mono ?_
    rintro e w2 ⟨hb2, er, p, rfl, her⟩
    go_wp2
    go_ret
    exact ⟨rfl, hb1.trans (hb2.mono hb1.size)⟩
  have hsz := fine_size _ h1
  have Hpos : Hid (∀ x ∈ items s.data.toList, 0 ≤ x.1.pos) := fun x hx => (items_pos _ x hx).1
  have hlen := (items_len s.data.toList).2
  obtain ⟨q, hq, hst⟩ := stations s.data.toList hsz h1
  obtain ⟨m, hm⟩ : ∃ m, q.length = m := ⟨_, rfl⟩
  have hml : (items s.data.toList).length = m + 1 := by rw [hq]; simp [hm]
  rw [hml] at hlen
  have Hml : Hid _ := hml
  have Hq : Hid _ := hq
  have Hm : Hid _ := hm
  have Hst : Hid (∀ i a, q[i]? = some a → (a ≠ [] ∧ leave false a = a ∧ begE a = 0 ∧ a <:+ s.data.toList) ∧ ∃ b, (q ++ [[]])[i + 1]? = some b ∧ b = leave false (a.drop (begS a)) ∧ b.length < a.length) := hst
  have H1 : Hid _ := h1
  have hsz' : s.size ≤ 65536 := by rw [size_len]; exact hsz
  clear hst hq hm hml h1 hsz
  go_enter Tryd.func6, Tryd.ntmps6
  go_wp2_with fail
  refine (works_any _ HE.out).mono ?_
  rintro e w1 ⟨rfl, hb1⟩
  have HE1 : Hid (EV w1) := HE.out.below hb1 HE.out.lt
  go_wp2_with fail
  refine (tokens_fine s Hs.out _ HE1.out H1.out).mono ?_
  rintro e w2 ⟨hb2, g, cap, rfl, hg, hr⟩
  have HR : Hid (TRow w2 g ((q ++ [[]]).map (tokAt s.data.toList.length))) := by show TRow _ _ _; rw [← Hq.out]; exact hr
  have HE2 : Hid (EV w2) := HE1.out.below hb2 HE1.out.lt
  rw [Hml.out]
  clear hr
  go_wp2_with fail
  refine (placed_any s g cap m q _ Hm.out (by omega) (by rw [← Hq.out]; exact Hpos.out) HR.out Hst.out).mono ?_
  rintro e w3 ⟨rfl, hb3⟩
  have hb13 : Hid (Below w.heap.size w w3) := hb1.trans ((hb2.trans (hb3.mono hb2.size)).mono hb1.size)
  have HR3 : Hid (TRow w3 g ((q ++ [[]]).map (tokAt s.data.toList.length))) := HR.out.below hb3 HR.out.1
  have HE3 : Hid (EV w3) := HE2.out.below hb3 HE2.out.lt
  clear hb1 hb2 hb3
  go_wp2
  go_loopw [8] (fun i wr => ∃ k : Nat, k ≤ m ∧ i = .int .i64 k ∧ Hid (Below w3.heap.size w3 wr)) (fun i _ => m - (intOf i).toNat)
  case atStart => exact ⟨0, Nat.zero_le _, rfl, Below.refl _ _⟩
  case round =>
    obtain ⟨k, hk, rfl, HB⟩ := hrel
    by_cases hlt : k < m ∧ k < 2000
    · obtain ⟨hlt, h2000⟩ := hlt
      have hR : Hid (TRow wr g ((q ++ [[]]).map (tokAt s.data.toList.length))) := HR3.out.below HB.out HR3.out.1
      have HEr : Hid (EV wr) := HE3.out.below HB.out HE3.out.lt
      obtain ⟨a, ha⟩ : ∃ a, q[k]? = some a := ⟨_, List.getElem?_eq_getElem (by rw [Hm.out]; exact hlt)⟩
      obtain ⟨⟨h1, h2, h3, h4⟩, b, hb, h5, h6⟩ := Hst.out k a ha
      obtain ⟨a0, a1, a2, a3⟩ := hR.out.2 k (tokAt s.data.toList.length a) (by rw [List.getElem?_map, List.getElem?_append_left (by rw [Hm.out]; exact hlt), ha]; rfl)
      obtain ⟨b0, b1, b2, b3⟩ := hR.out.2 (k + 1) (tokAt s.data.toList.length b) (by rw [List.getElem?_map, hb]; rfl)
      simp only [tokAt, put] at a0 a1 a2 a3 b3
      have hal : a.length ≤ s.size := by have := h4.length_le; rw [← size_len] at this; exact this
      have hp1 : ((s.data.toList.length : Nat) : Int) - (a.length : Nat) = ((s.size - a.length : Nat) : Int) := by rw [← size_len]; omega
      have hp2 : ((s.data.toList.length : Nat) : Int) - (b.length : Nat) = ((s.size - b.length : Nat) : Int) := by rw [← size_len]; omega
      rw [hp1] at a3
      rw [hp2] at b3
      have had : a = s.data.toList.drop (s.size - a.length) := by have := suffix_drop h4; rw [← size_len] at this; exact this
      have hpl := part_len a h1 h3
      obtain ⟨hit, hsy⟩ := part_items a h1 h2 h3 (by omega)
      have Hc := bytes_any s g cap (m + 1) k (s.size - a.length) (s.size - b.length) a wr hsz' (by omega) (by omega) (by omega) had h1 h3 (by rw [← h5]) a0 a3 b3
      have HC : Hid (Calls Tryd.prog 20 #[.string s, .slice (some ⟨g, 0, none⟩) (m + 1) cap, .int .i64 k] wr fun e w' => (∃ d : ByteArray, e = .returned (.string d) ∧ d.data.toList = part a) ∧ w' = wr) := Hc
      have Hit : Hid _ := hit
      have Hsy : Hid _ := hsy
      have Hpt : Hid ((begT a).kind = 6 → (begT a).text = part a) := part_text a
      have Hpl : Hid _ := hpl
      clear Hc hit hsy b0 b1 b2 b3 hp1 hp2 had h1 h2 h3 h4 h5 h6 hb ha hpl
      have i1 : (k : Int) + 1 < (m : Int) + 1 := by omega
      have i2 : (k : Int) < (m : Int) + 1 := by omega
      go_wp2_with fail
      refine HC.out.mono ?_
      rintro e w' ⟨⟨d, rfl, hd⟩, rfl⟩
      have Hd : Hid _ := hd
      have hdl : d.size ≤ 65536 := by rw [size_len, hd]; have := Hpl.out.2; omega
      have Hdl : Hid (d.size ≤ 281474976710656) := by show d.size ≤ _; omega
      have Hid1 : Hid (items d.data.toList = [(put (begT a) 0, 0), (⟨9, [], 0, (part a).length⟩, 0)]) := by show _ = _; rw [hd]; exact Hit.out
      have Hfd : Hid (fineB (items d.data.toList) = true) := by show _ = _; rw [Hid1.out]; rfl
      have hds : d.size = (part a).length := by rw [size_len, hd]
      have Hds : Hid _ := hds
      clear hd hds
      go_wp2_with fail
      refine (tokens_fine d Hdl.out _ HEr.out Hfd.out).mono ?_
      rintro e w5 ⟨hb5, g2, cap2, rfl, hg2, hr2⟩
      rw [Hid1.out] at hr2 ⊢
      obtain ⟨m0, m1, m2, m3⟩ := hr2.2 0 _ rfl
      obtain ⟨n0, n1, n2, n3⟩ := hr2.2 1 _ rfl
      have hg2l := hr2.1
      simp only [Nat.zero_mul, Nat.zero_add, Nat.one_mul, Nat.reduceAdd, put] at m0 m1 m2 m3 n3
      rw [← Hds.out] at n3
      clear n0 n1 n2 hr2
      have hgr : g < w'.heap.size := hR.out.1
      have q0 := (hb5.cell (p := ⟨g, k * 4, none⟩) hgr).trans a0
      have q1 := (hb5.cell (p := ⟨g, k * 4 + 1, none⟩) hgr).trans a1
      have q2 := (hb5.cell (p := ⟨g, k * 4 + 1 + 1, none⟩) hgr).trans a2
      have q3 := (hb5.cell (p := ⟨g, k * 4 + 1 + 1 + 1, none⟩) hgr).trans a3
      have hgr5 : g < w5.heap.size := Nat.lt_of_lt_of_le hgr hb5.size
      clear a0 a1 a2 a3
      go_wp2_with fail
      have HB5 : Hid (Below w'.heap.size w' w5) := hb5
      have Hlt : Hid _ := hlt
      have Hk : Hid _ := hk
      clear hgr hb5 hg2 hlt h2000 hk
      go_region_held3 (fun wx => (wx.cell? ⟨g2, 0, none⟩ = some (.int .u8 (begT a).kind) ∧ wx.cell? ⟨g2, 1, none⟩ = some (S (begT a).text) ∧ wx.cell? ⟨g2, 2, none⟩ = some (.int .i64 (begT a).n) ∧ wx.cell? ⟨g2, 3, none⟩ = some (.int .i64 0) ∧ wx.cell? ⟨g2, 7, none⟩ = some (.int .i64 d.size)) ∧
          (wx.cell? ⟨g, k * 4, none⟩ = some (.int .u8 (begT a).kind) ∧ wx.cell? ⟨g, k * 4 + 1, none⟩ = some (S (begT a).text) ∧ wx.cell? ⟨g, k * 4 + 1 + 1, none⟩ = some (.int .i64 (begT a).n) ∧ wx.cell? ⟨g, k * 4 + 1 + 1 + 1, none⟩ = some (.int .i64 ((s.size - a.length : Nat) : Int))) ∧ g2 < wx.heap.size ∧ g < wx.heap.size) (first | go_keep | exact keepA hb6 (by go_keep))
        (first | (go_at_call 21; refine (alike_same _ _ _ _ _ _).mono ?_; rintro e w6 ⟨rfl, hb6⟩))
      have HB6 : Hid (Below w3.heap.size w3 w6) := (HB.out.trans (HB5.out.mono HB.out.size)).trans ((((Below.refl _ w5).drew).trans hb6).mono (Nat.le_trans HB.out.size HB5.out.size))
      have HE6 : Hid (EV w6) := HE3.out.below HB6.out HE3.out.lt
      have r0 := (hb6.cell (p := ⟨g, k * 4, none⟩) hgr5).trans q0
      have r1 := (hb6.cell (p := ⟨g, k * 4 + 1, none⟩) hgr5).trans q1
      have hgr6 : g < w6.heap.size := Nat.lt_of_lt_of_le hgr5 hb6.size
      clear m0 m1 m2 m3 n3 q0 q1 q2 q3 hb6
      go_wp2_with fail
      refine (isSymbol_any d _ Hdl.out HE6.out).mono ?_
      rintro e w7 ⟨rfl, hb7⟩
      rw [sym_val, Hd.out, Hsy.out]
      have t0 := (hb7.cell (p := ⟨g, k * 4, none⟩) hgr6).trans r0
      have t1 := (hb7.cell (p := ⟨g, k * 4 + 1, none⟩) hgr6).trans r1
      have HB7 : Hid (Below w3.heap.size w3 w7) := HB6.out.trans (hb7.mono HB6.out.size)
      clear r0 r1 hb7
      have hlt := Hlt.out
      cases h6 : ((begT a).kind == 6)
      · go_wp2
        go_roundw
        case rel => exact ⟨k + 1, by omega, by go_num, HB7⟩
        case measure => simp [intOf]; omega
      · rw [Hpt.out (beq_iff_eq.1 h6), ← Hd.out] at t1
        have t1' : w7.cell? ⟨g, k * 4 + 1, none⟩ = some (.string d) := t1
        clear t1
        go_wp2
        go_roundw
        case rel => exact ⟨k + 1, by omega, by go_num, HB7⟩
        case measure => simp [intOf]; omega
    · by_cases hkm : k < m
      · have h2 : ¬ k < 2000 := fun h => hlt ⟨hkm, h⟩
        clear hlt
        go_wp2
        go_ret
        exact ⟨rfl, hb13.out.trans (HB.out.mono hb13.out.size)⟩
      · clear hlt
        go_wp2
        go_ret
        exact ⟨rfl, hb13.out.trans (HB.out.mono hb13.out.size)⟩
end Go.Proofs.YtfdpbmbafpieoaaDoor
