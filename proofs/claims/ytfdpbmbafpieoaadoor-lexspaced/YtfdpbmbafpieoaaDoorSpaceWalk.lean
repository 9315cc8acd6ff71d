/- The walk of LexSpaced. -/
import Derived.Test.YtfdpbmbafpieoaaDoorPartWalk
import Derived.Test.YtfdpbmbafpieoaaDoorSpaceMath
import Derived.Lib.AppendStr
import Derived.Laws.IdiomStrings
namespace Go.Proofs.YtfdpbmbafpieoaaDoor
open Go.RowKit

theorem infoByte : (Tryd.prog.info? 5).map (fun i => (i.zero, i.size, i.bytes)) = some (some (.int .u8 0), 1, 1) := by kernel_rfl

/-- A text's bytes, as cells. -/
def cellsB (l : List UInt8) : List Value := l.map fun b => Value.int .u8 b.toNat
theorem cellsB_append (a b : List UInt8) : cellsB (a ++ b) = cellsB a ++ cellsB b := by simp [cellsB]
theorem strCells_eq (s : ByteArray) : Lib.strCells s = cellsB s.data.toList := rfl

/-- The blanks lie in block B. -/
def BRow (w : World) (B : Nat) : Prop := ∀ k, k < 6 → w.cell? ⟨B, k, none⟩ = some (.string ⟨(blankAt k).toArray⟩)
theorem BRow.below {w w' : World} {B C : Nat} (h : BRow w B) (hb : Below C w w') (hB : B < C) : BRow w' B := fun k hk => (hb.cell (p := ⟨B, k, none⟩) hB).trans (h k hk)

/-- What the loop holds: the text so far in a row of its own. -/
def Txt (w0 wr : World) (v : Value) (l : List UInt8) : Prop := wr.ownsRow w0.heap.size 5 1 v l.length (cellsB l) ∧ Below w0.heap.size w0 wr

theorem txt_grown {w0 wr w1 : World} {v v' : Value} {l : List UInt8} {s : ByteArray} (h : Txt w0 wr v l) (hown : w1.ownsRow w0.heap.size 5 1 v' (l.length + s.size) (cellsB l ++ Lib.strCells s)) (hg : wr.grownBy w1 v.ownBlock) :
    Txt w0 w1 v' (l ++ s.data.toList) := by
  refine ⟨?_, h.2.grown hg h.2.size fun k e => ?_⟩
  · rw [cellsB_append, List.length_append, ← size_len]; exact hown
  · rcases h.1.2 with ⟨rfl, _⟩ | ⟨g, cap, cur, rfl, hb, _⟩
    · simp [Value.ownBlock] at e
    · simp [Value.ownBlock] at e; omega

theorem keepB {W w6 : World} {g g2 o0 o1 o2 o3 p0 p1 p2 p3 : Nat} {v0 v1 v2 v3 u0 u1 u2 u3 : Option Value} (hb : Below W.heap.size W w6)
    (h : (W.cell? ⟨g, o0, none⟩ = v0 ∧ W.cell? ⟨g, o1, none⟩ = v1 ∧ W.cell? ⟨g, o2, none⟩ = v2 ∧ W.cell? ⟨g, o3, none⟩ = v3) ∧
      (W.cell? ⟨g2, p0, none⟩ = u0 ∧ W.cell? ⟨g2, p1, none⟩ = u1 ∧ W.cell? ⟨g2, p2, none⟩ = u2 ∧ W.cell? ⟨g2, p3, none⟩ = u3) ∧ g < W.heap.size ∧ g2 < W.heap.size) :
    (w6.cell? ⟨g, o0, none⟩ = v0 ∧ w6.cell? ⟨g, o1, none⟩ = v1 ∧ w6.cell? ⟨g, o2, none⟩ = v2 ∧ w6.cell? ⟨g, o3, none⟩ = v3) ∧
      (w6.cell? ⟨g2, p0, none⟩ = u0 ∧ w6.cell? ⟨g2, p1, none⟩ = u1 ∧ w6.cell? ⟨g2, p2, none⟩ = u2 ∧ w6.cell? ⟨g2, p3, none⟩ = u3) ∧ g < w6.heap.size ∧ g2 < w6.heap.size := by
  obtain ⟨⟨a0, a1, a2, a3⟩, ⟨c0, c1, c2, c3⟩, h1, h2⟩ := h
  obtain ⟨hc, _⟩ := bcell hb
  exact ⟨⟨(hc _ _ h1).trans a0, (hc _ _ h1).trans a1, (hc _ _ h1).trans a2, (hc _ _ h1).trans a3⟩, ⟨(hc _ _ h2).trans c0, (hc _ _ h2).trans c1, (hc _ _ h2).trans c2, (hc _ _ h2).trans c3⟩, Nat.lt_of_lt_of_le h1 hb.size, Nat.lt_of_lt_of_le h2 hb.size⟩

theorem part_le (s : ByteArray) (a : List UInt8) (h : a <:+ s.data.toList) : (part a).length ≤ s.size := by
  have h1 := h.length_le; rw [← size_len] at h1
  unfold part; rw [List.length_take]; omega

/-- The bytes of token k, out of the row of tokens. -/
theorem bytes_of (s : ByteArray) (g cap m k : Nat) (q : List (List UInt8)) (a : List UInt8) (w : World) (hs : s.size ≤ 65536) (hm : q.length = m) (hmb : m + 1 ≤ 65537) (ha : q[k]? = some a) (hr : TRow w g ((q ++ [[]]).map (tokAt s.data.toList.length)))
    (hst : ∀ i a, q[i]? = some a → (a ≠ [] ∧ leave false a = a ∧ begE a = 0 ∧ a <:+ s.data.toList) ∧ ∃ b, (q ++ [[]])[i + 1]? = some b ∧ b = leave false (a.drop (begS a)) ∧ b.length < a.length) :
    Calls Tryd.prog 20 #[.string s, .slice (some ⟨g, 0, none⟩) (m + 1) cap, .int .i64 k] w fun e w' => (∃ d : ByteArray, e = .returned (.string d) ∧ d.data.toList = part a) ∧ w' = w := by
  have hlt : k < m := by rw [← hm]; exact (List.getElem?_eq_some_iff.1 ha).1
  obtain ⟨⟨h1, h2, h3, h4⟩, b, hb, h5, h6⟩ := hst k a ha
  obtain ⟨a0, a1, a2, a3⟩ := hr.2 k (tokAt s.data.toList.length a) (by rw [List.getElem?_map, List.getElem?_append_left (by omega), ha]; rfl)
  obtain ⟨b0, b1, b2, b3⟩ := hr.2 (k + 1) (tokAt s.data.toList.length b) (by rw [List.getElem?_map, hb]; rfl)
  simp only [tokAt, put] at a0 a3 b3
  have hal : a.length ≤ s.size := by have := h4.length_le; rw [← size_len] at this; exact this
  rw [show ((s.data.toList.length : Nat) : Int) - (a.length : Nat) = ((s.size - a.length : Nat) : Int) from by rw [← size_len]; omega] at a3
  rw [show ((s.data.toList.length : Nat) : Int) - (b.length : Nat) = ((s.size - b.length : Nat) : Int) from by rw [← size_len]; omega] at b3
  have had : a = s.data.toList.drop (s.size - a.length) := by have := suffix_drop h4; rw [← size_len] at this; exact this
  exact bytes_any s g cap (m + 1) k (s.size - a.length) (s.size - b.length) a w hs (by omega) (by omega) (by omega) had h1 h3 (by rw [← h5]) a0 a3 b3

set_option maxRecDepth 100000 in
set_option maxHeartbeats 4000000 in
theorem lexSpaced_walk (s : ByteArray) (ra : Option Addr) (len cap0 : Nat) (zs : List Int) (w : World) (hzl : zs.length = len) (hlenm : len ≤ maxLen)
    (hel : ∀ i, i < len → ∃ b off, ra = some ⟨b, off, none⟩ ∧ b < w.heap.size ∧ w.cell? ⟨b, off + i, none⟩ = some (.int .i64 (zs.getD i 0))) (hE : EV w) :
    Calls Tryd.prog 7 #[.string s, .slice ra len cap0] w fun e w' => e = .returned (.bool true) ∧ Below w.heap.size w w' := by
  have HE : Hid (EV w) := hE
  have Hel : Hid (∀ i, i < len → ∃ b off, ra = some ⟨b, off, none⟩ ∧ b < w.heap.size ∧ w.cell? ⟨b, off + i, none⟩ = some (.int .i64 (zs.getD i 0))) := hel
  have Hzl : Hid _ := hzl
  unfold maxLen at hlenm
  clear hE hel hzl
  by_cases hbig : 20000 < s.size
  · go_enter Tryd.func7, Tryd.ntmps7
    go_wp2_with fail
    refine (works_any _ HE.out).mono ?_
    rintro e w1 ⟨rfl, hb1⟩
    go_wp2_with fail
    go_ret
    exact ⟨rfl, hb1⟩
  have Hs : Hid (s.size ≤ 281474976710656) := by show s.size ≤ _; omega
  cases h1 : fineB (items s.data.toList)
  · have H1 : Hid _ := h1
    clear h1
    go_enter Tryd.func7, Tryd.ntmps7
    go_wp2_with fail
    refine (works_any _ HE.out).mono ?_
    rintro e w1 ⟨rfl, hb1⟩
    have HE1 : Hid (EV w1) := HE.out.below hb1 HE.out.lt
    go_wp2_with fail
    refine (tokens_err s Hs.out _ HE1.out H1.out).mono ?_
    rintro e w2 ⟨hb2, er, p, rfl, her⟩
    go_wp2
    go_ret
    exact ⟨rfl, hb1.trans (hb2.mono hb1.size)⟩
  have hsz := fine_size _ h1
  have Hpos : Hid (∀ x ∈ items s.data.toList, 0 ≤ x.1.pos) := fun x hx => (items_pos _ x hx).1
  have hlen := (items_len s.data.toList).1
  rw [← size_len] at hlen
  obtain ⟨q, hq, hst⟩ := stations s.data.toList hsz h1
  obtain ⟨m, hm⟩ : ∃ m, q.length = m := ⟨_, rfl⟩
  have hml : (items s.data.toList).length = m + 1 := by rw [hq]; simp [hm]
  rw [hml] at hlen
  have Hml : Hid _ := hml
  have Hq : Hid _ := hq
  have Hm : Hid _ := hm
  have Hst : Hid (∀ i a, q[i]? = some a → (a ≠ [] ∧ leave false a = a ∧ begE a = 0 ∧ a <:+ s.data.toList) ∧ ∃ b, (q ++ [[]])[i + 1]? = some b ∧ b = leave false (a.drop (begS a)) ∧ b.length < a.length) := hst
  have H1 : Hid _ := h1
  have hsz' : s.size ≤ 65536 := by rw [size_len]; exact hsz
  clear hst hq hm hml h1 hsz
  go_enter Tryd.func7, Tryd.ntmps7
  go_wp2_with fail
  refine (works_any _ HE.out).mono ?_
  rintro e w1 ⟨rfl, hb1⟩
  have HE1 : Hid (EV w1) := HE.out.below hb1 HE.out.lt
  go_wp2_with fail
  refine (tokens_fine s Hs.out _ HE1.out H1.out).mono ?_
  rintro e w2 ⟨hb2, g, cap, rfl, hg, hr⟩
  have HR : Hid (TRow w2 g ((q ++ [[]]).map (tokAt s.data.toList.length))) := by show TRow _ _ _; rw [← Hq.out]; exact hr
  have HE2 : Hid (EV w2) := HE1.out.below hb2 HE1.out.lt
  rw [Hml.out]
  clear hr
  go_wp2_with fail
  refine (placed_any s g cap m q _ Hm.out (by omega) (by rw [← Hq.out]; exact Hpos.out) HR.out Hst.out).mono ?_
  rintro e w3 ⟨rfl, hb3⟩
  have hb13 : Hid (Below w.heap.size w w3) := hb1.trans ((hb2.trans (hb3.mono hb2.size)).mono hb1.size)
  have HR3 : Hid (TRow w3 g ((q ++ [[]]).map (tokAt s.data.toList.length))) := HR.out.below hb3 HR.out.1
  have HE3 : Hid (EV w3) := HE2.out.below hb3 HE2.out.lt
  clear hb1 hb2 hb3
  go_wp2
  have hB34 : Below w3.heap.size w3 (w3.alloc (.cells #[.string ⟨#[32]⟩, .string ⟨#[10]⟩, .string ⟨#[9, 32, 13]⟩, .string ⟨#[32, 59, 32, 97, 32, 99, 111, 109, 109, 101, 110, 116, 32, 40, 32, 39, 10]⟩, .string ⟨#[10, 59, 10]⟩, .string ⟨#[32]⟩] 9)) := (Below.refl _ w3).alloc (Nat.le_refl _) _
  have hBR4 : BRow (w3.alloc (.cells #[.string ⟨#[32]⟩, .string ⟨#[10]⟩, .string ⟨#[9, 32, 13]⟩, .string ⟨#[32, 59, 32, 97, 32, 99, 111, 109, 109, 101, 110, 116, 32, 40, 32, 39, 10]⟩, .string ⟨#[10, 59, 10]⟩, .string ⟨#[32]⟩] 9)) w3.heap.size := by
    intro k hk
    have hn := World.alloc_heap_new w3 (.cells #[.string ⟨#[32]⟩, .string ⟨#[10]⟩, .string ⟨#[9, 32, 13]⟩, .string ⟨#[32, 59, 32, 97, 32, 99, 111, 109, 109, 101, 110, 116, 32, 40, 32, 39, 10]⟩, .string ⟨#[10, 59, 10]⟩, .string ⟨#[32]⟩] 9)
    simp only [World.cell?, hn]
    have hd : k = 0 ∨ k = 1 ∨ k = 2 ∨ k = 3 ∨ k = 4 ∨ k = 5 := by omega
    rcases hd with rfl | rfl | rfl | rfl | rfl | rfl <;> rfl
  have hsz4 : w3.heap.size < (w3.alloc (.cells #[.string ⟨#[32]⟩, .string ⟨#[10]⟩, .string ⟨#[9, 32, 13]⟩, .string ⟨#[32, 59, 32, 97, 32, 99, 111, 109, 109, 101, 110, 116, 32, 40, 32, 39, 10]⟩, .string ⟨#[10, 59, 10]⟩, .string ⟨#[32]⟩] 9)).heap.size := by simp
  obtain ⟨W4, hW4⟩ : ∃ W4, w3.alloc (.cells #[.string ⟨#[32]⟩, .string ⟨#[10]⟩, .string ⟨#[9, 32, 13]⟩, .string ⟨#[32, 59, 32, 97, 32, 99, 111, 109, 109, 101, 110, 116, 32, 40, 32, 39, 10]⟩, .string ⟨#[10, 59, 10]⟩, .string ⟨#[32]⟩] 9) = W4 := ⟨_, rfl⟩
  rw [hW4] at hB34 hBR4 hsz4 ⊢
  clear hW4
  have HB34 : Hid (Below w3.heap.size w3 W4) := hB34
  have HBR4 : Hid (BRow W4 w3.heap.size) := hBR4
  have HR4 : Hid (TRow W4 g ((q ++ [[]]).map (tokAt s.data.toList.length))) := HR3.out.below hB34 HR3.out.1
  have HE4 : Hid (EV W4) := HE3.out.below hB34 HE3.out.lt
  have Hsz4 : Hid (w3.heap.size < W4.heap.size) := hsz4
  clear hB34 hBR4 hsz4
  obtain ⟨i0, hi, hz0, hz1, hz2⟩ := info_parts infoByte
  go_loopw [11, 12] (fun v i wr => ∃ k : Nat, k ≤ m + 1 ∧ i = .int .i64 k ∧ Hid (Txt W4 wr v (txt (blOf zs) q k)) ∧ Hid ((txt (blOf zs) q k).length ≤ k * 20017)) (fun _ i _ => m + 1 - (intOf i).toNat)
  case atStart => exact ⟨0, Nat.zero_le _, rfl, ⟨World.ownsRow_nil _ _ _ _, Below.refl _ _⟩, by show (txt (blOf zs) q 0).length ≤ 0 * 20017; simp [txt]⟩
  case round =>
    obtain ⟨k, hk, rfl, HT, HL⟩ := hrel
    by_cases hlt : k < m + 1
    · have hBR : Hid (BRow wr w3.heap.size) := HBR4.out.below HT.out.2 Hsz4.out
      have hbnd : Hid (∀ j, (txt (blOf zs) q k).length + (ByteArray.mk (blankAt j).toArray).size ≤ maxLen) := fun j => by
        have h1 := HL.out; have h2 := blank_len j; have h3 : (ByteArray.mk (blankAt j).toArray).size = (blankAt j).length := by simp [ByteArray.size]
        unfold maxLen; omega
      have hbnd' : Hid (∀ j, (txt (blOf zs) q k).length + (ByteArray.mk (blankAt j).toArray).size ≤ 140737488355328) := fun j => by
        have h1 := HL.out; have h2 := blank_len j; have h3 : (ByteArray.mk (blankAt j).toArray).size = (blankAt j).length := by simp [ByteArray.size]
        omega
      by_cases hkl : k < len
      · obtain ⟨rb, ro, hra, hrb, hrc⟩ := Hel.out k hkl
        subst hra
        have hrw : rb < W4.heap.size := Nat.lt_of_lt_of_le hrb (Nat.le_trans hb13.out.size HB34.out.size)
        have hrc4 := (hb13.out.cell (p := ⟨rb, ro + k, none⟩) hrb).trans hrc
        have hrc5 := (HB34.out.cell (p := ⟨rb, ro + k, none⟩) (Nat.lt_of_lt_of_le hrb hb13.out.size)).trans hrc4
        have hrcr := (HT.out.2.cell (p := ⟨rb, ro + k, none⟩) hrw).trans hrc5
        clear hrc hrc4 hrc5
        have hzk : Hid (zs[k]? = some (zs.getD k 0)) := by show _ = _; rw [List.getD_eq_getElem?_getD, List.getElem?_eq_getElem (by rw [Hzl.out]; exact hkl)]; rfl
        generalize zs.getD k 0 = z at *
        by_cases hz : 0 ≤ z
        · obtain ⟨kk, hkk⟩ : ∃ kk : Nat, z % 6 = (kk : Int) := ⟨(z % 6).toNat, by omega⟩
          have Hbl : Hid (blOf zs k = kk) := by show _ = _; unfold blOf; rw [hzk.out]; simp only; rw [if_pos hz, hkk]; rfl
          have hk6 : kk < 6 := by omega
          have hkt : z.tmod 6 = (kk : Int) := by rw [Int.tmod_eq_emod_of_nonneg hz]; exact hkk
          have cb := hBR.out kk hk6
          have tok1 : True := trivial
          by_cases hkm : k < m
          · obtain ⟨a, ha⟩ : ∃ a, q[k]? = some a := ⟨_, List.getElem?_eq_getElem (by rw [Hm.out]; exact hkm)⟩
            have Ha : Hid _ := ha
            clear ha
            have i1 : (k : Int) + 1 < (m : Int) + 1 := by omega
            go_wp2_with (at_builtin; have _t := tok1; refine Lib.wpList_append_own_string _ rfl _ _ 64 9 rfl W4.heap.size 5 i0 Tryd.underlying64 Tryd.underlying9 hi hz0 hz1 hz2 u11 _ _ rfl HT.out.1 ⟨(blankAt kk).toArray⟩ rfl (hbnd.out kk) (hbnd'.out kk) HT.out.2.size ?_; intro v1 w5 hown1 hgrow1 _; clear tok1)
            have HT1 : Hid (Txt W4 w5 v1 (txt (blOf zs) q k ++ blankAt kk)) := txt_grown HT.out hown1 hgrow1
            clear hown1 hgrow1
            have HR5 : Hid (TRow w5 g ((q ++ [[]]).map (tokAt s.data.toList.length))) := HR4.out.below HT1.out.2 HR4.out.1
            refine (bytes_of s g cap m k q a w5 hsz' Hm.out (by omega) Ha.out HR5.out Hst.out).mono ?_
            rintro e w' ⟨⟨d, rfl, hd⟩, rfl⟩
            have hdl : d.size ≤ 20000 := by rw [size_len, hd]; exact Nat.le_trans (part_le s a (Hst.out k a Ha.out).1.2.2.2) (by omega)
            have hL1 : (txt (blOf zs) q k ++ blankAt kk).length ≤ k * 20017 + 17 := by rw [List.length_append]; have := HL.out; have := blank_len kk; omega
            have Hd : Hid _ := hd
            have HL1 : Hid _ := hL1
            have h63 : (txt (blOf zs) q k ++ blankAt kk).length + d.size ≤ maxLen := by unfold maxLen; omega
            have h47 : (txt (blOf zs) q k ++ blankAt kk).length + d.size ≤ 140737488355328 := by omega
            have H63 : Hid _ := h63
            have H47 : Hid _ := h47
            clear hd hL1 h63 h47
            go_wp2_with (at_builtin; refine Lib.wpList_append_own_string _ rfl _ _ 64 9 rfl W4.heap.size 5 i0 Tryd.underlying64 Tryd.underlying9 hi hz0 hz1 hz2 v1 _ _ rfl HT1.out.1 d rfl H63.out H47.out HT1.out.2.size ?_; intro v2 w6 hown2 hgrow2 _)
            have HT2 : Hid (Txt W4 w6 v2 (txt (blOf zs) q (k + 1))) := by
              have := txt_grown HT1.out hown2 hgrow2
              rw [Hd.out] at this
              show Txt _ _ _ _
              rw [txt, Hbl.out, Ha.out]
              simpa using this
            go_roundw
            case rel =>
              refine ⟨k + 1, by omega, by go_num, HT2, ?_⟩
              show (txt (blOf zs) q (k + 1)).length ≤ (k + 1) * 20017
              rw [txt, Hbl.out, Ha.out]
              have := HL1.out
              rw [List.length_append] at this
              have h2 := size_len d
              rw [Hd.out] at h2
              simp only [List.length_append, Option.map_some, Option.getD_some]; omega
            case measure => simp [intOf]; omega
          · obtain rfl : k = m := by omega
            have i1 : ¬ (k : Int) + 1 < (k : Int) + 1 := by omega
            go_wp2_with (at_builtin; have _t := tok1; refine Lib.wpList_append_own_string _ rfl _ _ 64 9 rfl W4.heap.size 5 i0 Tryd.underlying64 Tryd.underlying9 hi hz0 hz1 hz2 u11 _ _ rfl HT.out.1 ⟨(blankAt kk).toArray⟩ rfl (hbnd.out kk) (hbnd'.out kk) HT.out.2.size ?_; intro v1 w5 hown1 hgrow1 _; clear tok1)
            have HT1 : Hid (Txt W4 w5 v1 (txt (blOf zs) q (k + 1))) := by
              have := txt_grown HT.out hown1 hgrow1
              show Txt _ _ _ _
              rw [txt, Hbl.out, List.getElem?_eq_none (by rw [Hm.out]; exact Nat.le_refl _)]
              simpa using this
            go_roundw
            case rel =>
              refine ⟨k + 1, by omega, by go_num, HT1, ?_⟩
              show (txt (blOf zs) q (k + 1)).length ≤ (k + 1) * 20017
              rw [txt, Hbl.out, List.getElem?_eq_none (by rw [Hm.out]; exact Nat.le_refl _)]
              have := HL.out; have := blank_len kk
              simp only [List.length_append, Option.map_none, Option.getD_none, List.length_nil]; omega
            case measure => simp [intOf]
        · have Hbl : Hid (blOf zs k = 0) := by show _ = _; unfold blOf; rw [hzk.out]; simp only; rw [if_neg hz]
          have hk6 : 0 < 6 := by omega
          have cb := hBR.out 0 hk6
          have tok1 : True := trivial
          by_cases hkm : k < m
          · obtain ⟨a, ha⟩ : ∃ a, q[k]? = some a := ⟨_, List.getElem?_eq_getElem (by rw [Hm.out]; exact hkm)⟩
            have Ha : Hid _ := ha
            clear ha
            have i1 : (k : Int) + 1 < (m : Int) + 1 := by omega
            go_wp2_with (at_builtin; have _t := tok1; refine Lib.wpList_append_own_string _ rfl _ _ 64 9 rfl W4.heap.size 5 i0 Tryd.underlying64 Tryd.underlying9 hi hz0 hz1 hz2 u11 _ _ rfl HT.out.1 ⟨(blankAt 0).toArray⟩ rfl (hbnd.out 0) (hbnd'.out 0) HT.out.2.size ?_; intro v1 w5 hown1 hgrow1 _; clear tok1)
            have HT1 : Hid (Txt W4 w5 v1 (txt (blOf zs) q k ++ blankAt 0)) := txt_grown HT.out hown1 hgrow1
            clear hown1 hgrow1
            have HR5 : Hid (TRow w5 g ((q ++ [[]]).map (tokAt s.data.toList.length))) := HR4.out.below HT1.out.2 HR4.out.1
            refine (bytes_of s g cap m k q a w5 hsz' Hm.out (by omega) Ha.out HR5.out Hst.out).mono ?_
            rintro e w' ⟨⟨d, rfl, hd⟩, rfl⟩
            have hdl : d.size ≤ 20000 := by rw [size_len, hd]; exact Nat.le_trans (part_le s a (Hst.out k a Ha.out).1.2.2.2) (by omega)
            have hL1 : (txt (blOf zs) q k ++ blankAt 0).length ≤ k * 20017 + 17 := by rw [List.length_append]; have := HL.out; have := blank_len 0; omega
            have Hd : Hid _ := hd
            have HL1 : Hid _ := hL1
            have h63 : (txt (blOf zs) q k ++ blankAt 0).length + d.size ≤ maxLen := by unfold maxLen; omega
            have h47 : (txt (blOf zs) q k ++ blankAt 0).length + d.size ≤ 140737488355328 := by omega
            have H63 : Hid _ := h63
            have H47 : Hid _ := h47
            clear hd hL1 h63 h47
            go_wp2_with (at_builtin; refine Lib.wpList_append_own_string _ rfl _ _ 64 9 rfl W4.heap.size 5 i0 Tryd.underlying64 Tryd.underlying9 hi hz0 hz1 hz2 v1 _ _ rfl HT1.out.1 d rfl H63.out H47.out HT1.out.2.size ?_; intro v2 w6 hown2 hgrow2 _)
            have HT2 : Hid (Txt W4 w6 v2 (txt (blOf zs) q (k + 1))) := by
              have := txt_grown HT1.out hown2 hgrow2
              rw [Hd.out] at this
              show Txt _ _ _ _
              rw [txt, Hbl.out, Ha.out]
              simpa using this
            go_roundw
            case rel =>
              refine ⟨k + 1, by omega, by go_num, HT2, ?_⟩
              show (txt (blOf zs) q (k + 1)).length ≤ (k + 1) * 20017
              rw [txt, Hbl.out, Ha.out]
              have := HL1.out
              rw [List.length_append] at this
              have h2 := size_len d
              rw [Hd.out] at h2
              simp only [List.length_append, Option.map_some, Option.getD_some]; omega
            case measure => simp [intOf]; omega
          · obtain rfl : k = m := by omega
            have i1 : ¬ (k : Int) + 1 < (k : Int) + 1 := by omega
            go_wp2_with (at_builtin; have _t := tok1; refine Lib.wpList_append_own_string _ rfl _ _ 64 9 rfl W4.heap.size 5 i0 Tryd.underlying64 Tryd.underlying9 hi hz0 hz1 hz2 u11 _ _ rfl HT.out.1 ⟨(blankAt 0).toArray⟩ rfl (hbnd.out 0) (hbnd'.out 0) HT.out.2.size ?_; intro v1 w5 hown1 hgrow1 _; clear tok1)
            have HT1 : Hid (Txt W4 w5 v1 (txt (blOf zs) q (k + 1))) := by
              have := txt_grown HT.out hown1 hgrow1
              show Txt _ _ _ _
              rw [txt, Hbl.out, List.getElem?_eq_none (by rw [Hm.out]; exact Nat.le_refl _)]
              simpa using this
            go_roundw
            case rel =>
              refine ⟨k + 1, by omega, by go_num, HT1, ?_⟩
              show (txt (blOf zs) q (k + 1)).length ≤ (k + 1) * 20017
              rw [txt, Hbl.out, List.getElem?_eq_none (by rw [Hm.out]; exact Nat.le_refl _)]
              have := HL.out; have := blank_len 0
              simp only [List.length_append, Option.map_none, Option.getD_none, List.length_nil]; omega
            case measure => simp [intOf]
      · have Hbl : Hid (blOf zs k = 0) := by show _ = _; unfold blOf; rw [List.getElem?_eq_none (by rw [Hzl.out]; omega)]
        have hk6 : 0 < 6 := by omega
        have i2 : decide ((k : Int) < (len : Int)) = false := decide_eq_false (by omega)
        have cb := hBR.out 0 hk6
        have tok1 : True := trivial
        by_cases hkm : k < m
        · obtain ⟨a, ha⟩ : ∃ a, q[k]? = some a := ⟨_, List.getElem?_eq_getElem (by rw [Hm.out]; exact hkm)⟩
          have Ha : Hid _ := ha
          clear ha
          have i1 : (k : Int) + 1 < (m : Int) + 1 := by omega
          go_wp2_with (at_builtin; have _t := tok1; refine Lib.wpList_append_own_string _ rfl _ _ 64 9 rfl W4.heap.size 5 i0 Tryd.underlying64 Tryd.underlying9 hi hz0 hz1 hz2 u11 _ _ rfl HT.out.1 ⟨(blankAt 0).toArray⟩ rfl (hbnd.out 0) (hbnd'.out 0) HT.out.2.size ?_; intro v1 w5 hown1 hgrow1 _; clear tok1)
          have HT1 : Hid (Txt W4 w5 v1 (txt (blOf zs) q k ++ blankAt 0)) := txt_grown HT.out hown1 hgrow1
          clear hown1 hgrow1
          have HR5 : Hid (TRow w5 g ((q ++ [[]]).map (tokAt s.data.toList.length))) := HR4.out.below HT1.out.2 HR4.out.1
          refine (bytes_of s g cap m k q a w5 hsz' Hm.out (by omega) Ha.out HR5.out Hst.out).mono ?_
          rintro e w' ⟨⟨d, rfl, hd⟩, rfl⟩
          have hdl : d.size ≤ 20000 := by rw [size_len, hd]; exact Nat.le_trans (part_le s a (Hst.out k a Ha.out).1.2.2.2) (by omega)
          have hL1 : (txt (blOf zs) q k ++ blankAt 0).length ≤ k * 20017 + 17 := by rw [List.length_append]; have := HL.out; have := blank_len 0; omega
          have Hd : Hid _ := hd
          have HL1 : Hid _ := hL1
          have h63 : (txt (blOf zs) q k ++ blankAt 0).length + d.size ≤ maxLen := by unfold maxLen; omega
          have h47 : (txt (blOf zs) q k ++ blankAt 0).length + d.size ≤ 140737488355328 := by omega
          have H63 : Hid _ := h63
          have H47 : Hid _ := h47
          clear hd hL1 h63 h47
          go_wp2_with (at_builtin; refine Lib.wpList_append_own_string _ rfl _ _ 64 9 rfl W4.heap.size 5 i0 Tryd.underlying64 Tryd.underlying9 hi hz0 hz1 hz2 v1 _ _ rfl HT1.out.1 d rfl H63.out H47.out HT1.out.2.size ?_; intro v2 w6 hown2 hgrow2 _)
          have HT2 : Hid (Txt W4 w6 v2 (txt (blOf zs) q (k + 1))) := by
            have := txt_grown HT1.out hown2 hgrow2
            rw [Hd.out] at this
            show Txt _ _ _ _
            rw [txt, Hbl.out, Ha.out]
            simpa using this
          go_roundw
          case rel =>
            refine ⟨k + 1, by omega, by go_num, HT2, ?_⟩
            show (txt (blOf zs) q (k + 1)).length ≤ (k + 1) * 20017
            rw [txt, Hbl.out, Ha.out]
            have := HL1.out
            rw [List.length_append] at this
            have h2 := size_len d
            rw [Hd.out] at h2
            simp only [List.length_append, Option.map_some, Option.getD_some]; omega
          case measure => simp [intOf]; omega
        · obtain rfl : k = m := by omega
          have i1 : ¬ (k : Int) + 1 < (k : Int) + 1 := by omega
          go_wp2_with (at_builtin; have _t := tok1; refine Lib.wpList_append_own_string _ rfl _ _ 64 9 rfl W4.heap.size 5 i0 Tryd.underlying64 Tryd.underlying9 hi hz0 hz1 hz2 u11 _ _ rfl HT.out.1 ⟨(blankAt 0).toArray⟩ rfl (hbnd.out 0) (hbnd'.out 0) HT.out.2.size ?_; intro v1 w5 hown1 hgrow1 _; clear tok1)
          have HT1 : Hid (Txt W4 w5 v1 (txt (blOf zs) q (k + 1))) := by
            have := txt_grown HT.out hown1 hgrow1
            show Txt _ _ _ _
            rw [txt, Hbl.out, List.getElem?_eq_none (by rw [Hm.out]; exact Nat.le_refl _)]
            simpa using this
          go_roundw
          case rel =>
            refine ⟨k + 1, by omega, by go_num, HT1, ?_⟩
            show (txt (blOf zs) q (k + 1)).length ≤ (k + 1) * 20017
            rw [txt, Hbl.out, List.getElem?_eq_none (by rw [Hm.out]; exact Nat.le_refl _)]
            have := HL.out; have := blank_len 0
            simp only [List.length_append, Option.map_none, Option.getD_none, List.length_nil]; omega
          case measure => simp [intOf]
    · obtain rfl : k = m + 1 := by omega
      obtain ⟨T, hT⟩ : ∃ T, txt (blOf zs) q (m + 1) = T := ⟨_, rfl⟩
      have hTs : T = spaced (blOf zs) 0 (q ++ [[]]) := by rw [← hT, ← Hm.out]; exact txt_spaced _ _
      have hT1 : 1 ≤ T.length := by
        obtain ⟨c, r, hc, _⟩ := blank_head (blOf zs m)
        rw [← hT, txt, hc]; simp; omega
      have hT2 : T.length ≤ (m + 1) * 20017 := by have := HL.out; rw [hT] at this; exact this
      have HTT : Hid (Txt W4 wr u11 T) := by rw [← hT]; exact HT
      have HTs : Hid _ := hTs
      clear hT hTs HT HL
      obtain ⟨n, hn⟩ : ∃ n, T.length = n + 1 := ⟨T.length - 1, by omega⟩
      have hrow := HTT.out.1
      rw [hn] at hrow
      obtain ⟨gT, capT, hu, hgT, hgTl, hcT⟩ := ownsRow_cells hrow
      subst hu
      rw [← hn]
      have hconv := run_convert_bytes_back (P := Tryd.prog) wr 64 9 5 ⟨gT, 0, none⟩ capT T Tryd.underlying64 Tryd.underlying5 Tryd.underlying9 (fun j hj => by
        have e : ((⟨gT, 0, none⟩ : Addr).add j) = ⟨gT, j, none⟩ := by simp [Addr.add]; exact fun h => h.symm
        rw [e]; exact hcT j _ (by simp [cellsB, List.getElem?_eq_getElem hj]))
      have HBw : Hid (Below w.heap.size w wr) := (hb13.out.trans (HB34.out.mono hb13.out.size)).trans (HTT.out.2.mono (Nat.le_trans hb13.out.size HB34.out.size))
      have HEr : Hid (EV wr) := HE4.out.below HTT.out.2 HE4.out.lt
      have HRr : Hid (TRow wr g ((q ++ [[]]).map (tokAt s.data.toList.length))) := HR4.out.below HTT.out.2 HR4.out.1
      have HT2 : Hid _ := hT2
      have hTb : (T.length : Int) ≤ 1000000000 := by omega
      clear hrow hcT hgT hgTl hn hT1 hT2
      by_cases hTl : 65536 < T.length
      · have hTl' : decide ((65536 : Int) < (T.length : Int)) = true := decide_eq_true (by omega)
        clear hTl hTb hconv
        go_wp2_with fail
        go_ret
        exact ⟨rfl, HBw.out⟩
      · have hTl' : decide ((65536 : Int) < (T.length : Int)) = false := decide_eq_false (by omega)
        have HU : Hid ((ByteArray.mk T.toArray).data.toList = T) := by show _ = _; simp
        have HUs : Hid ((ByteArray.mk T.toArray).size ≤ 281474976710656) := by show _ ≤ _; rw [size_len, HU.out]; omega
        have HTi : Hid (items (ByteArray.mk T.toArray).data.toList = sc T.length T) := by show _ = _; rw [HU.out]; exact items_sc T (by omega)
        obtain ⟨g1, g2, g3⟩ := spaced_sc T.length (blOf zs) q 0 (fun a ha => by
          obtain ⟨j, hj⟩ := List.getElem?_of_mem ha
          obtain ⟨⟨h1, h2, h3, _⟩, _⟩ := Hst.out j a hj
          exact ⟨h1, h2, h3⟩)
        rw [← HTs.out, ← HTi.out] at g1 g2 g3
        rw [Hm.out] at g1
        have G1 : Hid _ := g1
        have G2 : Hid (fineB (items (ByteArray.mk T.toArray).data.toList) = true) := g2
        have G3 : Hid (∀ (j : Nat) (a : List UInt8), (q ++ [[]])[j]? = some a → ∃ p : Int, (items (ByteArray.mk T.toArray).data.toList)[j]? = some (put (begT a) p, 0)) := g3
        clear g1 g2 g3 hTl
        go_wp2_with fail
        refine (tokens_fine (ByteArray.mk T.toArray) HUs.out _ HEr.out G2.out).mono ?_
        rintro e w8 ⟨hb8, gm, capm, rfl, hgm, hrm⟩
        rw [G1.out]
        have HRm : Hid (TRow w8 gm (items (ByteArray.mk T.toArray).data.toList)) := hrm
        have HR8 : Hid (TRow w8 g ((q ++ [[]]).map (tokAt s.data.toList.length))) := HRr.out.below hb8 HRr.out.1
        have HBw8 : Hid (Below w.heap.size w w8) := HBw.out.trans (hb8.mono HBw.out.size)
        clear hrm hb8 hconv hgm
        go_wp2_with fail
        obtain ⟨wo, hwo⟩ : ∃ wo : World, wo = wr := ⟨_, rfl⟩
        clear hwo
        go_loopw [17] (fun i wz => ∃ k : Nat, k ≤ m + 1 ∧ i = .int .i64 k ∧ Hid (Below w8.heap.size w8 wz)) (fun i _ => m + 1 - (intOf i).toNat)
        case atStart => exact ⟨0, Nat.zero_le _, rfl, Below.refl _ _⟩
        case round =>
          obtain ⟨k, hk, rfl, HB⟩ := hrel
          by_cases hlt : k < m + 1
          · obtain ⟨a, ha⟩ : ∃ a, (q ++ [[]])[k]? = some a := ⟨_, List.getElem?_eq_getElem (by simp [Hm.out]; omega)⟩
            obtain ⟨p, hp⟩ := G3.out k a ha
            have hRl := HR8.out.below HB.out HR8.out.1
            have hRm := HRm.out.below HB.out HRm.out.1
            obtain ⟨a0, a1, a2, a3⟩ := hRl.2 k (tokAt s.data.toList.length a) (by rw [List.getElem?_map, ha]; rfl)
            obtain ⟨b0, b1, b2, b3⟩ := hRm.2 k _ hp
            simp only [tokAt, put] at a0 a1 a2 a3 b0 b1 b2 b3
            have hg1 := hRl.1
            have hg2 := hRm.1
            generalize ((s.data.toList.length : Nat) : Int) - (a.length : Nat) = pa at *
            clear ha hp hRl hRm
            have Hk : Hid _ := hk
            have Hlt : Hid _ := hlt
            have i1 : (k : Int) < (m : Int) + 1 := by omega
            clear hk hlt
            go_wp2_with fail
            go_region_held3 (fun wx => (wx.cell? ⟨g, k * 4, none⟩ = some (.int .u8 (begT a).kind) ∧ wx.cell? ⟨g, k * 4 + 1, none⟩ = some (S (begT a).text) ∧ wx.cell? ⟨g, k * 4 + 1 + 1, none⟩ = some (.int .i64 (begT a).n) ∧ wx.cell? ⟨g, k * 4 + 1 + 1 + 1, none⟩ = some (.int .i64 pa)) ∧
                (wx.cell? ⟨gm, k * 4, none⟩ = some (.int .u8 (begT a).kind) ∧ wx.cell? ⟨gm, k * 4 + 1, none⟩ = some (S (begT a).text) ∧ wx.cell? ⟨gm, k * 4 + 1 + 1, none⟩ = some (.int .i64 (begT a).n) ∧ wx.cell? ⟨gm, k * 4 + 1 + 1 + 1, none⟩ = some (.int .i64 p)) ∧ g < wx.heap.size ∧ gm < wx.heap.size) (first | go_keep | exact keepB hb6 (by go_keep))
              (first | (go_at_call 21; refine (alike_same _ _ _ _ _ _).mono ?_; rintro e w6 ⟨rfl, hb6⟩))
            have hlt := Hlt.out
            go_wp2
            go_roundw
            case rel => exact ⟨k + 1, by omega, by go_num, HB.out.trans ((((Below.refl _ _).drew).trans hb6).mono HB.out.size)⟩
            case measure => simp [intOf]; omega
          · go_wp2
            go_ret
            exact ⟨rfl, HBw8.out.trans (HB.out.mono HBw8.out.size)⟩
end Go.Proofs.YtfdpbmbafpieoaaDoor
