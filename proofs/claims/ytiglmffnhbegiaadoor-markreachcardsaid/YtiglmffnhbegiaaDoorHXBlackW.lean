/- black, walked. -/
import Derived.Test.YtiglmffnhbegiaaDoorHXBlack
import Derived.Test.YtiglmffnhbegiaaDoorHRLent
namespace Go.Proofs.YtiglmffnhbegiaaDoor
open Go.RowKit

inductive UdW (p : List Cl) (W : World) (b o : Nat) (w : Int) : Prop
  | no (e : refB w = false) (r : udB p w = false) : UdW p W b o w
  | far (d : Nat) (e : refB w = true) (c : cellV w = d) (l : decide ((d : Int) < 16) = false) (nl : ¬ ((d : Int) < 16)) (r : udB p w = false) : UdW p W b o w
  | free (d : Nat) (e : refB w = true) (c : cellV w = d) (l : decide ((d : Int) < 16) = true) (l' : (d : Int) < 16) (k : W.cell? ⟨b, o + d * 4, none⟩ = some (.int .u8 0)) (r : udB p w = false) : UdW p W b o w
  | used (d : Nat) (y : Cl) (e : refB w = true) (c : cellV w = d) (l : decide ((d : Int) < 16) = true) (l' : (d : Int) < 16) (k : W.cell? ⟨b, o + d * 4, none⟩ = some (.int .u8 y.k)) (n : (y.k != 0) = true) (r : udB p w = true) : UdW p W b o w
theorem ud_w {p : List Cl} (hl : p.length = 16) {W : World} {b o : Nat} (hc : ∀ (j : Nat) (x : Cl), p[j]? = some x → W.cell? ⟨b, o + j * 4, none⟩ = some (.int .u8 x.k)) (w : Int) : UdW p W b o w := by
  cases e : refB w
  · exact .no e (by unfold udB; rw [e]; rfl)
  · obtain ⟨d, hd, c⟩ := ref_some e
    by_cases hd16 : d < 16
    · obtain ⟨y, hy⟩ : ∃ y, p[d]? = some y := ⟨_, List.getElem?_eq_getElem (by omega)⟩
      have hg : getC p (d : Int) = some y := by unfold getC; rw [if_pos (by omega)]; simpa using hy
      by_cases h0 : y.k = 0
      · exact .free d e c (by simp; omega) (by omega) (by rw [← h0]; exact hc d y hy) (by unfold udB; rw [e, c, hg]; simp [h0])
      · exact .used d y e c (by simp; omega) (by omega) (hc d y hy) (by simpa using h0) (by unfold udB; rw [e, c, hg]; simp [h0]; omega)
    · exact .far d e c (by simp; omega) (by omega) (by unfold udB; rw [e, c]; simp; omega)
structure FlI (w wr : World) (v : Value) (l : List Int) : Prop where
  o : wr.ownsRow w.heap.size 29 1 v l.length (l.map (Value.int .u64))
  b : Below w.heap.size w wr
theorem fl_wr {w wr : World} {ra : Option Addr} {c : Nat} {l : List Int} (h : FlI w wr (.slice ra l.length c) l) (hr : ∀ x ∈ l, Rng x) : WR wr ra l := by
  rcases h.o.2 with ⟨hv, h0⟩ | ⟨g, cap, cur, hv, _⟩
  · exact ⟨0, 0, .inl h0, fun j x hx => by have := (List.getElem?_eq_some_iff.1 hx).1; omega⟩
  · cases hv
    obtain ⟨cs, hc⟩ := own_blk h.o rfl
    exact ⟨g, 0, .inr rfl, fun j x hx => ⟨heap_lt hc, by rw [Nat.zero_add]; exact own_cell h.o (by rw [List.getElem?_map, hx]; rfl), hr x (List.mem_of_getElem? hx)⟩⟩
theorem fil_take {p : List Cl} {l : List Int} {j : Nat} {x : Int} (hx : l[j]? = some x) : (l.take (j + 1)).filter (udB p) = (l.take j).filter (udB p) ++ if udB p x = true then [x] else [] := by
  rw [List.take_add_one, hx]
  simp only [Option.toList_some, List.filter_append]
  congr 1
  cases h : udB p x <;> simp [List.filter, h]
theorem fil_len {p : List Cl} (l : List Int) (j : Nat) : ((l.take j).filter (udB p)).length ≤ j := Nat.le_trans (List.length_filter_le _ _) (by rw [List.length_take]; omega)
set_option maxRecDepth 100000 in
set_option maxHeartbeats 32000000 in
theorem black_any {mb hb ab : Nat} {rv : Value} {p : List Cl} {S R : List Int} (w : World) (hM : MM w mb hb ab rv [] (colH p R R.length)) (hp : Pl p) (hl : p.length = 16) (hK : MK p S R R.length) (pra sra : Option Addr) (pc sc : Nat) (hP : HR w pra p) (hS : WR w sra S) (hSl : S.length ≤ 20000) (hT : Tab w) :
    Calls Tryd.prog 15 #[.pointer (some ⟨hb, 0, none⟩), .pointer (some ⟨mb, 0, none⟩), .slice pra 16 pc, .slice sra S.length sc, .int .i64 R.length] w fun e w' => e = .returned (.bool true) ∧ Below w.heap.size w w' := by
  have HP0 : Hid (HR w pra p) := hP
  have HS0 : Hid (WR w sra S) := hS
  obtain ⟨b, o, hor, hcs⟩ := hP
  obtain ⟨b2, o2, hor2, hcs2⟩ := hS
  have hpra : pra = some ⟨b, o, none⟩ := hor.resolve_left (by omega)
  subst hpra
  have HPC : Hid (∀ (j : Nat) (x : Cl), p[j]? = some x → b < w.heap.size ∧ (w.cell? ⟨b, o + j * 4, none⟩ = some (.int .u8 x.k) ∧ w.cell? ⟨b, o + j * 4 + 1, none⟩ = some (.int .u8 x.c) ∧ w.cell? ⟨b, o + j * 4 + 1 + 1, none⟩ = some (.int .u64 x.a) ∧ w.cell? ⟨b, o + j * 4 + 1 + 1 + 1, none⟩ = some (.int .u64 x.b)) ∧ OkK x) := hcs
  have HCS : Hid (∀ (j : Nat) (x : Int), S[j]? = some x → b2 < w.heap.size ∧ w.cell? ⟨b2, o2 + j, none⟩ = some (.int .u64 x) ∧ Rng x) := hcs2
  have HOR : Hid (S.length = 0 ∨ sra = some ⟨b2, o2, none⟩) := hor2
  have HT : Hid (Tab w) := hT
  have HM : Hid (MM w mb hb ab rv [] (colH p R R.length)) := hM
  have HK : Hid (MK p S R R.length) := hK
  have HPl : Hid (Pl p) := hp
  have hRl : R.length ≤ 16 := by have := hK.mi.len; omega
  have H0 : Hid (FlI w w (.slice none 0 0) ((S.take 0).filter (udB p))) := ⟨⟨rfl, .inl ⟨rfl, rfl⟩⟩, Below.refl _ _⟩
  clear hor hcs hor2 hcs2 hT hM hK hp
  obtain ⟨i0, hi0, hz0, hz1, hz2⟩ := info_parts infoWd
  go_enter Tryd.func15, Tryd.ntmps15
  go_wp2_with fail
  go_loopw [11, 12, 13, 14] (fun v i _ _ wr => ∃ (j : Nat) (r : Option Addr) (c' : Nat), i = .int .i64 j ∧ j ≤ S.length ∧ v = .slice r ((S.take j).filter (udB p)).length c' ∧ Hid (FlI w wr (.slice r ((S.take j).filter (udB p)).length c') ((S.take j).filter (udB p)))) (fun _ i _ _ _ => S.length - (intOf i).toNat)
  case atStart => exact ⟨0, none, 0, rfl, Nat.zero_le _, by simp, H0⟩
  case round =>
    clear H0
    obtain ⟨j, r, c', rfl, hj, rfl, HI⟩ := hrel
    have hnl := fil_len (p := p) S j
    by_cases hjl : j < S.length
    · have k1 : (j : Int) < (S.length : Int) := by omega
      obtain ⟨x, hx⟩ : ∃ x, S[j]? = some x := ⟨_, List.getElem?_eq_getElem hjl⟩
      obtain ⟨g1, y1, y2⟩ := HCS.out j x hx
      have hra : sra = some ⟨b2, o2, none⟩ := HOR.out.resolve_left (by omega)
      have y3 : wr.cell? ⟨b2, o2 + j, none⟩ = some (.int .u64 x) := (HI.out.b.cell (p := ⟨b2, o2 + j, none⟩) g1).trans y1
      have HC : Hid (Calls Tryd.prog 63 #[.int .u64 x] wr fun e w' => e = .returned (.tuple #[.int .i64 (cellV x), .bool (refB x)]) ∧ w' = wr) := cell_any x wr y2 (HT.out.below HI.out.b)
      have HN : Hid _ := fil_take (p := p) hx
      have W := ud_w hl (W := wr) (b := b) (o := o) (fun q y hy => (HI.out.b.cell (p := ⟨b, o + q * 4, none⟩) (HPC.out q y hy).1).trans (HPC.out q y hy).2.1.1) x
      rw [hra]
      generalize hL : (S.take j).filter (udB p) = L at HI HN hnl ⊢
      clear hx y1 hra hL
      have hs : w.heap.size ≤ wr.heap.size := HI.out.b.size
      rcases W with ⟨e1, r1⟩ | ⟨d, e1, c1, l1, nl1, r1⟩ | ⟨d, e1, c1, l1, l1', q1, r1⟩ | ⟨d, y, e1, c1, l1, l1', q1, n1, r1⟩
      case used =>
        rw [e1, c1] at HC
        rw [r1] at HN
        clear r1
        go_wp2_with fail
        refine Calls.mono HC.out ?_
        rintro e w' ⟨rfl, hw'⟩
        rw [hw']
        clear hw'
        go_wp2_with (at_builtin; refine stop_of ?_)
        unfold Hid
        refine wpList_append_lies _ rfl _ _ 25 rfl w.heap.size 29 i0 (.int .u64 0) 1 8 Tryd.underlying25 hi0 hz0 hz1 hz2 rfl (by decide) (.slice r L.length c') L.length (L.map (Value.int .u64)) rfl (HI.out.o.alloc _) ⟨wr.heap.size, 0, none⟩ 1 1 [.int .u64 x] rfl rfl (fun j u hu => ?_) (fun u hu => ?_) (by omega) (by unfold maxLen; omega) (by omega) (by rw [World.size_alloc]; omega) _ rfl ?_
        · rw [ad_add, Nat.zero_add]
          exact new_cell _ #[.int .u64 x] _ j u hu
        · simp at hu; subst hu; rfl
        intro gg cap w2 hown hgr hat hlt2
        have b2' : Below w.heap.size w w2 := (HI.out.b.alloc hs _).grown hgr (by rw [World.size_alloc]; omega) (fun g hg => (HI.out.o.lt g hg).1)
        have HE : Hid (FlI w w2 (.slice (some ⟨gg, 0, none⟩) (L.length + 1) cap) (L ++ [x])) := ⟨by simpa using hown, b2'⟩
        clear hown hgr hat hlt2 b2'
        go_wp2_with fail
        have e : (S.take (j + 1)).filter (udB p) = L ++ [x] := by rw [HN.out]; simp
        refine ⟨⟨j + 1, some ⟨gg, 0, none⟩, cap, by go_num, by omega, by rw [e]; simp, ?_⟩, by simp [intOf]; omega⟩
        rw [e, show (L ++ [x]).length = L.length + 1 by simp]
        exact HE
      all_goals
        rw [e1] at HC
        try rw [c1] at HC
        rw [r1] at HN
        clear r1
        go_wp2_with fail
        refine Calls.mono HC.out ?_
        rintro e w' ⟨rfl, hw'⟩
        rw [hw']
        clear hw'
        go_wp2_with fail
        have e : (S.take (j + 1)).filter (udB p) = L := by rw [HN.out]; simp
        refine ⟨⟨j + 1, r, c', by go_num, by omega, by rw [e], ?_⟩, by simp [intOf]; omega⟩
        rw [e]
        exact HI
    · have e : j = S.length := by omega
      subst e
      have k1 : ¬ ((S.length : Int) < (S.length : Int)) := by omega
      rw [List.take_length] at HI hnl ⊢
      have hB := HI.out.b
      have HB1 : Hid (Below w.heap.size w wr) := hB
      have hWr : WR wr r (S.filter (udB p)) := fl_wr HI.out (fun x hx => by
        obtain ⟨q, hq⟩ := List.getElem?_of_mem (List.mem_filter.1 hx).1
        exact (HCS.out q x hq).2.2)
      have HRe : Hid _ := reach_any p (S.filter (udB p)) (some ⟨b, o, none⟩) r pc c' wr (HP0.out.below hB) hWr (HT.out.below hB) (by omega) (by omega)
      rw [hl] at HRe
      clear hB hWr
      go_wp2_with fail
      refine Calls.mono HRe.out ?_
      rintro e w2 ⟨hR, hb2⟩
      rcases hR with ⟨hbad, _⟩ | ⟨_, g2, hg2, rfl, hD⟩
      · rw [heap_true HPl.out hl S] at hbad; cases hbad
      have hB2 : Below w.heap.size w w2 := HB1.out.trans (hb2.mono HB1.out.size)
      have HB2 : Hid (Below w.heap.size w w2) := hB2
      rw [hl] at hD
      have HD : Hid (DR w2 4 g2 16 (fun k u => u = .bool (metB (walkM p false (S.filter (udB p))) k))) := hD
      have HSn : Hid _ := snapshot_any (HM.out.below hB2).c
      rw [hl]
      clear hb2 hg2 hD hB2 HRe
      go_wp2_with fail
      refine Calls.mono HSn.out ?_
      rintro e w3 ⟨g3, rfl, hk3, hb3, _⟩
      have hB3 : Below w.heap.size w w3 := HB2.out.trans (hb3.mono HB2.out.size)
      have HB3 : Hid (Below w.heap.size w w3) := hB3
      have HB23 : Hid (Below w2.heap.size w2 w3) := hb3
      have HK3 : Hid (KR w3 g3 (colH p R R.length) (colH p R R.length).length) := hk3
      have hcl : (colH p R R.length).length = 16 := by rw [colH_len]; exact hl
      rw [hcl]
      have HG : Hid _ := grey_any w3 (HM.out.below hB3) (by simp)
      clear hk3 hb3 hB3 HSn
      go_wp2_with fail
      refine Calls.mono HG.out ?_
      rintro e w4 ⟨r4, c4, rfl, _, hb4⟩
      have HB34 : Hid (Below w3.heap.size w3 w4) := hb4
      have HB4 : Hid (Below w.heap.size w w4) := HB3.out.trans (hb4.mono HB3.out.size)
      rw [show (([] : List Int).length : Nat) = 0 from rfl]
      clear hb4 HG
      go_wp2_with fail
      obtain ⟨wA, hwA⟩ : ∃ wA, wA = wr := ⟨_, rfl⟩
      clear hwA
      go_loopw [18, 19, 20] (fun n i _ wr => ∃ j : Nat, i = .int .i64 j ∧ n = .int .i64 (cntM R j : Nat) ∧ j ≤ 16 ∧ Hid (Below w4.heap.size w4 wr)) (fun _ i _ _ => 16 - (intOf i).toNat)
      case atStart => exact ⟨0, rfl, rfl, Nat.zero_le _, Below.refl _ _⟩
      case round =>
        obtain ⟨j, rfl, rfl, hj, HJ⟩ := hrel
        by_cases hj6 : j < 16
        · have k6 : (j : Int) < 16 := by omega
          obtain ⟨x, hx⟩ : ∃ x, p[j]? = some x := ⟨_, List.getElem?_eq_getElem (by omega)⟩
          obtain ⟨g1, ⟨y1, y2, y3, y4⟩, _⟩ := HPC.out j x hx
          have bw : Below w.heap.size w wr := HB4.out.trans (HJ.out.mono HB4.out.size)
          have b2w : Below w2.heap.size w2 wr := HB23.out.trans ((HB34.out.trans (HJ.out.mono HB34.out.size)).mono HB23.out.size)
          have b3w : Below w3.heap.size w3 wr := HB34.out.trans (HJ.out.mono HB34.out.size)
          have u1 := (bw.cell (p := ⟨b, o + j * 4, none⟩) g1).trans y1
          have u2 := (bw.cell (p := ⟨b, o + j * 4 + 1, none⟩) g1).trans y2
          have u3 := (bw.cell (p := ⟨b, o + j * 4 + 1 + 1, none⟩) g1).trans y3
          have u4 := (bw.cell (p := ⟨b, o + j * 4 + 1 + 1 + 1, none⟩) g1).trans y4
          obtain ⟨bv, hbv, hbe⟩ := HD.out.cell hj6
          have bt : wr.cell? ⟨g2, j, none⟩ = some bv := (b2w.cell (p := ⟨g2, j, none⟩) HD.out.lt).trans hbv
          have hn : (colH p R R.length)[j]? = some ⟨x.k, col R R.length j, x.a, x.b⟩ := by rw [colH_at, hx]; rfl
          obtain ⟨v1, v2, v3, v4⟩ := HK3.out.at hn
          have lg3 : g3 < w3.heap.size := DR.lt HK3.out
          have t1 := (b3w.cell (p := ⟨g3, j * 4, none⟩) lg3).trans v1
          have t2 := (b3w.cell (p := ⟨g3, j * 4 + 1, none⟩) lg3).trans v2
          have t3 := (b3w.cell (p := ⟨g3, j * 4 + 1 + 1, none⟩) lg3).trans v3
          have t4 := (b3w.cell (p := ⟨g3, j * 4 + 1 + 1 + 1, none⟩) lg3).trans v4
          have n1 : b < wr.heap.size := Nat.lt_of_lt_of_le g1 bw.size
          have n2 : g2 < wr.heap.size := Nat.lt_of_lt_of_le HD.out.lt b2w.size
          have n3 : g3 < wr.heap.size := Nat.lt_of_lt_of_le lg3 b3w.size
          have m1 : b ≠ wr.heap.size := by omega
          have m2 : g2 ≠ wr.heap.size := by omega
          have m3 : g3 ≠ wr.heap.size := by omega
          have hc0 : x.c = 0 := HPl.out.c hx
          have hri := reach_is HPl.out hl HK.out rfl hx
          have HCn : Hid _ := cnt_succ R j
          rw [col_end] at t2
          subst hbe
          clear y1 y2 y3 y4 v1 v2 v3 v4 hbv hn bw b2w b3w
          by_cases hin : (j : Int) ∈ R
          · obtain ⟨e1, e2⟩ := hri.2 hin
            rw [e1] at bt
            rw [if_pos hin] at t2 HCn
            have z1 : (x.k != 0) = true := by simpa using e2
            have hq : ∀ W, (binOp .neq 86 (.agg #[.int .u8 x.k, .int .u8 2, .int .u64 x.a, .int .u64 x.b]) (.agg #[.int .u8 x.k, .int .u8 2, .int .u64 x.a, .int .u64 x.b])).run Tryd.prog W = .ok (.bool false) W := fun W => neqCl_same ⟨x.k, 2, x.a, x.b⟩ W
            clear hri e1 e2 hin hx hc0
            have hcb : cntM R j ≤ j := Nat.le_trans (List.length_filter_le _ _) (by simp)
            go_wp2_with fail
            go_region
            go_wp2_with fail
            refine ⟨⟨j + 1, by go_num, ?_, by omega, (HJ.out.alloc HJ.out.size _).drew⟩, by simp [intOf]; omega⟩
            rw [HCn.out]
            congr 1
          · rw [if_neg hin] at t2 HCn
            rw [hc0] at u2
            have hq : ∀ W, (binOp .neq 86 (.agg #[.int .u8 x.k, .int .u8 0, .int .u64 x.a, .int .u64 x.b]) (.agg #[.int .u8 x.k, .int .u8 0, .int .u64 x.a, .int .u64 x.b])).run Tryd.prog W = .ok (.bool false) W := fun W => neqCl_same ⟨x.k, 0, x.a, x.b⟩ W
            cases hm : metB (walkM p false (S.filter (udB p))) j
            · rw [hm] at bt
              clear hri hin hx hc0 hm
              go_wp2_with fail
              go_region
              go_wp2_with fail
              refine ⟨⟨j + 1, by go_num, ?_, by omega, (HJ.out.alloc HJ.out.size _).drew⟩, by simp [intOf]; omega⟩
              rw [HCn.out]
              congr 1
            · have h0 : x.k = 0 := by
                by_cases h0 : x.k = 0
                · exact h0
                · exact absurd (hri.1 ⟨hm, h0⟩) hin
              have z1 : (x.k != 0) = false := by simpa using h0
              rw [hm] at bt
              clear hri hin hx hc0 hm h0
              go_wp2_with fail
              go_region
              go_wp2_with fail
              refine ⟨⟨j + 1, by go_num, ?_, by omega, (HJ.out.alloc HJ.out.size _).drew⟩, by simp [intOf]; omega⟩
              rw [HCn.out]
              congr 1
        · have e : j = 16 := by omega
          subst e
          have k6 : ¬ ((16 : Int) < 16) := by omega
          have hcn : cntM R 16 = R.length := by rw [← hl]; exact cnt_all HK.out.mi
          rw [hcn]
          go_wp2_with fail
          go_ret
          exact ⟨by simp, HB4.out.trans (HJ.out.mono HB4.out.size)⟩
end Go.Proofs.YtiglmffnhbegiaaDoor
