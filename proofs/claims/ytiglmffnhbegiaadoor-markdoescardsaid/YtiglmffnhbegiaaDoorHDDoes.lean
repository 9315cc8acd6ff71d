/- MarkDoes. -/
import Derived.Test.YtiglmffnhbegiaaDoorHDDoes0
namespace Go.Proofs.YtiglmffnhbegiaaDoor
open Go.RowKit

set_option maxRecDepth 100000 in
set_option maxHeartbeats 16000000 in
theorem markDoes_walk (l : List Cl) (lra : Option Addr) (lca : Nat) (s : List OpM) (sra : Option Addr) (sca : Nat) (w : World) (hH : HR w lra l) (hO : OR w sra s) (hsl : s.length ≤ 281474976710656) (hT : Tab w) :
    Calls Tryd.prog 4 #[.slice lra l.length lca, .slice sra s.length sca] w fun e w' => e = .returned (.bool true) ∧ Below w.heap.size w w' := by
  obtain ⟨bs, os, hor, hcs⟩ := hO
  have HCS : Hid (∀ (j : Nat) (o : OpM), s[j]? = some o → bs < w.heap.size ∧ o.ws.length ≤ 281474976710656 ∧ o.cs.length ≤ 281474976710656 ∧ ∃ wr wc cr cc, OpI w o wr wc cr cc ∧
    w.cell? ⟨bs, os + j * 7, none⟩ = some (.int .i64 o.k) ∧ w.cell? ⟨bs, os + j * 7 + 1, none⟩ = some (.slice wr o.ws.length wc) ∧ w.cell? ⟨bs, os + j * 7 + 1 + 1, none⟩ = some (.slice cr o.cs.length cc) ∧ w.cell? ⟨bs, os + j * 7 + 1 + 1 + 1, none⟩ = some (.int .i64 o.i) ∧ w.cell? ⟨bs, os + j * 7 + 1 + 1 + 1 + 1, none⟩ = some (.int .u8 o.c) ∧ w.cell? ⟨bs, os + j * 7 + 1 + 1 + 1 + 1 + 1, none⟩ = some (.int .u8 o.d) ∧ w.cell? ⟨bs, os + j * 7 + 1 + 1 + 1 + 1 + 1 + 1, none⟩ = some (.int .u64 o.x)) := hcs
  have HOR : Hid (s.length = 0 ∨ sra = some ⟨bs, os, none⟩) := hor
  have HT : Hid (Tab w) := hT
  have HL : Hid (HR w lra l) := hH
  have HK : Hid _ := works_any w hT
  have qP : ∀ (g : Nat) (W : World), (binOp .eql 32 (.pointer (some ⟨g, 0, none⟩)) (.pointer none)).run Tryd.prog W = .ok (.bool false) W := fun g W => by simp [go_sem]
  have qM : ∀ (g : Nat) (W : World), (binOp .eql 36 (.pointer (some ⟨g, 0, none⟩)) (.pointer none)).run Tryd.prog W = .ok (.bool false) W := fun g W => by simp [go_sem]
  clear hor hcs hT hH
  go_enter Tryd.func4, Tryd.ntmps4
  go_wp2_with fail
  refine Calls.mono HK.out ?_
  rintro e w1 ⟨rfl, b1⟩
  have HB1 : Hid (Below w.heap.size w w1) := b1
  clear b1 HK
  go_wp2_with fail
  go_loopw [6, 7] (fun n i wr => ∃ j : Nat, i = .int .i64 j ∧ n = .int .i64 (cst (s.take j) : Nat) ∧ j ≤ s.length ∧ Hid (Below w.heap.size w wr)) (fun _ i _ => s.length - (intOf i).toNat)
  case atStart => exact ⟨0, rfl, rfl, Nat.zero_le _, HB1⟩
  case round =>
    clear HB1
    obtain ⟨j, rfl, rfl, hj, HI⟩ := hrel
    by_cases hcont : j < s.length ∧ cst (s.take j) ≤ 20000
    · obtain ⟨hjl, hc⟩ := hcont
      have k1 : (j : Int) < (s.length : Int) := by omega
      have k2 : ((cst (s.take j) : Nat) : Int) ≤ 20000 := by omega
      have k1' : decide ((j : Int) < (s.length : Int)) = true := by simpa using hjl
      have k2' : decide (((cst (s.take j) : Nat) : Int) ≤ 20000) = true := by simp; omega
      obtain ⟨o, ho⟩ : ∃ o, s[j]? = some o := ⟨_, List.getElem?_eq_getElem hjl⟩
      obtain ⟨g1, l1, l2, wr', wc, cr, cc, _, y0, y1, y2, y3, y4, y5, y6⟩ := HCS.out j o ho
      have hra : sra = some ⟨bs, os, none⟩ := HOR.out.resolve_left (by omega)
      have HE : Hid (cst (s.take (j + 1)) = cst (s.take j) + o.cost) := cst_take ho
      have z1 : wr.cell? ⟨bs, os + j * 7 + 1, none⟩ = some (.slice wr' o.ws.length wc) := (HI.out.cell (p := ⟨bs, os + j * 7 + 1, none⟩) g1).trans y1
      have z2 : wr.cell? ⟨bs, os + j * 7 + 1 + 1, none⟩ = some (.slice cr o.cs.length cc) := (HI.out.cell (p := ⟨bs, os + j * 7 + 1 + 1, none⟩) g1).trans y2
      clear y0 y1 y2 y3 y4 y5 y6 ho
      rw [hra]
      go_wp2_with fail
      go_region
      go_wp2_with fail
      refine ⟨⟨j + 1, by go_num, ?_, by omega, HI.out.drew⟩, by simp [intOf]; omega⟩
      rw [HE.out]
      unfold OpM.cost
      congr 1
      omega
    · by_cases hbig : 20000 < cst (s.take j)
      · have k3 : decide (((cst (s.take j) : Nat) : Int) > 20000) = true := by simp; omega
        have k4 : decide (20000 < ((cst (s.take j) : Nat) : Int)) = true := by simp; omega
        have k2' : decide (((cst (s.take j) : Nat) : Int) ≤ 20000) = false := by simp; omega
        by_cases hjl : j < s.length
        · have k1' : decide ((j : Int) < (s.length : Int)) = true := by simpa using hjl
          clear hcont hbig
          go_wp2_with fail
          go_ret
          exact ⟨rfl, HI.out⟩
        · have k1' : decide ((j : Int) < (s.length : Int)) = false := by simp; omega
          clear hcont hbig
          go_wp2_with fail
          go_ret
          exact ⟨rfl, HI.out⟩
      · have e : j = s.length := by
          by_cases hjl : j < s.length
          · exact absurd ⟨hjl, by omega⟩ hcont
          · omega
        subst e
        rw [List.take_length] at hbig ⊢
        have k1' : decide ((s.length : Int) < (s.length : Int)) = false := by simp
        have k3 : decide (((cst s : Nat) : Int) > 20000) = false := by simp; omega
        have k4 : decide (20000 < ((cst s : Nat) : Int)) = false := by simp; omega
        have hcs : cst s ≤ 20000 := by omega
        have HM : Hid _ := made_any l lra lca wr (HL.out.below HI.out)
        clear hcont hbig hj
        go_wp2_with fail
        refine Calls.mono HM.out ?_
        rintro e w2 ⟨hb, ab, rb, g, rfl, TT⟩
        have HTT : Hid (TW w w2 hb ab rb g (mdH l 16) (mdH l 16)) := ⟨TT.c, TT.r, HI.out.trans (TT.b.mono HI.out.size), Nat.le_trans HI.out.size TT.hb, Nat.le_trans HI.out.size TT.ab, Nat.le_trans HI.out.size TT.rb, Nat.le_trans HI.out.size TT.g⟩
        clear TT HM k1' k3 k4
        go_wp2_with fail
        refine Calls.mono (markNew_any hb w2) ?_
        rintro e w3 ⟨rfl, hw3⟩
        obtain ⟨w4, hw4⟩ : ∃ w4, w4 = w3.alloc (.cells #[.pointer (some ⟨rb, 0, none⟩), nl] 40) := ⟨_, rfl⟩
        obtain ⟨w5, hw5⟩ : ∃ w5, w5 = w4.alloc (.cells #[nl, nl, nl, nl, nl, nl, nl, nl, nl, nl, nl, nl, nl, nl, nl, nl, nl] 60) := ⟨_, rfl⟩
        have G0 := GT.start HTT.out hw3 hw4 hw5
        have HG0 : Hid (GX w w2.heap.size hb ab w3.heap.size rb g w4.heap.size (2 * cst (s.take 0)) w5) := ⟨_, _, _, _, _, _, _, G0, by simp, by omega⟩
        have s4 : w4.heap.size = w3.heap.size + 1 := by rw [hw4, World.size_alloc]
        have HW5 : Hid (w5 = (w3.alloc (.cells #[.pointer (some ⟨rb, 0, none⟩), nl] 40)).alloc (.cells #[nl, nl, nl, nl, nl, nl, nl, nl, nl, nl, nl, nl, nl, nl, nl, nl, nl] 60)) := by show _ = _; rw [hw5, hw4]
        rw [s4] at HG0
        clear hw3 hw4 hw5 G0 s4 HTT
        generalize w2.heap.size = mb at HG0 ⊢
        go_wp2_with fail
        rw [← HW5.out]
        clear HW5
        generalize w3.heap.size = db at HG0 ⊢
        go_loopw [13, 14] (fun i _ wr => ∃ j : Nat, i = .int .i64 j ∧ j ≤ s.length ∧ Hid (GX w mb hb ab db rb g (db + 1) (2 * cst (s.take j)) wr)) (fun i _ _ => s.length - (intOf i).toNat)
        case atStart => exact ⟨0, rfl, Nat.zero_le _, HG0⟩
        case round =>
          clear HG0
          obtain ⟨j, rfl, hj, HJ⟩ := hrel
          have hcj := cst_le s j
          obtain ⟨rv, rd, row, h, vi, Ni, Vi, G, lr, ln⟩ := HJ.out
          by_cases hjl : j < s.length
          · have k1 : (j : Int) < (s.length : Int) := by omega
            obtain ⟨o, ho⟩ : ∃ o, s[j]? = some o := ⟨_, List.getElem?_eq_getElem hjl⟩
            obtain ⟨g1, l1, l2, wr', wc, cr, cc, hOp, y0, y1, y2, y3, y4, y5, y6⟩ := HCS.out j o ho
            have hra : sra = some ⟨bs, os, none⟩ := HOR.out.resolve_left (by omega)
            have HE : Hid (cst (s.take (j + 1)) = cst (s.take j) + o.cost) := cst_take ho
            have hco := cst_one ho
            have bb := G.bl
            have z0 := (bb.cell (p := ⟨bs, os + j * 7, none⟩) g1).trans y0
            have z1 := (bb.cell (p := ⟨bs, os + j * 7 + 1, none⟩) g1).trans y1
            have z2 := (bb.cell (p := ⟨bs, os + j * 7 + 1 + 1, none⟩) g1).trans y2
            have z3 := (bb.cell (p := ⟨bs, os + j * 7 + 1 + 1 + 1, none⟩) g1).trans y3
            have z4 := (bb.cell (p := ⟨bs, os + j * 7 + 1 + 1 + 1 + 1, none⟩) g1).trans y4
            have z5 := (bb.cell (p := ⟨bs, os + j * 7 + 1 + 1 + 1 + 1 + 1, none⟩) g1).trans y5
            have z6 := (bb.cell (p := ⟨bs, os + j * 7 + 1 + 1 + 1 + 1 + 1 + 1, none⟩) g1).trans y6
            have HS : Hid (Calls Tryd.prog 9 #[.pointer (some ⟨mb, 0, none⟩), .pointer (some ⟨hb, 0, none⟩), .pointer (some ⟨db, 0, none⟩), .agg (opC o.k (.slice wr' o.ws.length wc) (.slice cr o.cs.length cc) o.i o.c o.d o.x), .pointer (some ⟨db + 1, 0, none⟩)] wr fun e w' => e = .returned (.bool true) ∧ GX w mb hb ab db rb g (db + 1) (2 * cst (s.take j) + 2 * o.cost) w') :=
              (step_any G o wr' cr wc cc hOp (by omega) (by omega) (by omega) HT.out).mono (fun e w' hs => GX.step hs lr ln (by unfold OpM.cost; omega))
            clear y0 y1 y2 y3 y4 y5 y6 ho G bb hOp
            rw [hra]
            go_wp2_with fail
            refine Calls.mono HS.out ?_
            rintro e w6 ⟨rfl, hg⟩
            have HG6 : Hid (GX w mb hb ab db rb g (db + 1) (2 * cst (s.take (j + 1))) w6) := by rw [HE.out, Nat.mul_add]; exact hg
            clear hg HS z0 z1 z2 z3 z4 z5 z6
            go_wp2_with fail
            exact ⟨⟨j + 1, by go_num, by omega, HG6⟩, by simp [intOf]; omega⟩
          · have e : j = s.length := by omega
            subst e
            have k1 : ¬ ((s.length : Int) < (s.length : Int)) := by omega
            have HS1 : Hid _ := step_grey G nl nl 0 0 0 0 (by omega) (by omega)
            clear G
            go_wp2_with fail
            refine Calls.mono HS1.out ?_
            rintro e w6 ⟨rfl, rv6, rd6, row6, h6, vi6, N6, V6, G6, l6, n6⟩
            have HS2 : Hid _ := step_all G6 nl nl 0 0 0 0
            clear G6 HS1
            go_wp2_with fail
            refine Calls.mono HS2.out ?_
            rintro e w7 ⟨rfl, rv7, rd7, row7, h7, vi7, N7, V7, G7, l7, n7⟩
            have HG7 : Hid (GT w w7 mb hb ab db rb g (db + 1) rv7 rd7 row7 row7 h7 h7 vi7 N7 V7) := G7
            have HOw : Hid _ := bookOwn_any (fun x => x < w7.heap.size ∧ ¬ BoF (db + 1) vi7 nl N7 0 V7 Vn x) (db + 1) vi7 nl N7 0 V7 Vn w7 (by omega) (by omega) (fun x hx => hx.1) G7.k (fun q hq x hx hn => hn.2 (.inr (.inl (.inr ⟨q, hq, hx⟩)))) (fun q hq => absurd hq (Nat.not_lt_zero _))
            clear G7 HS2
            go_wp2_with fail
            refine Calls.mono HOw.out ?_
            rintro e w8 ⟨rfl, hF⟩
            obtain ⟨w9, hw9⟩ : ∃ w9, w9 = w8.alloc (.cells #[nl, nl, nl, nl, nl, nl, nl, nl, nl, nl, nl, nl, nl, nl, nl, nl, nl] 60) := ⟨_, rfl⟩
            have G9 := HG7.out.rebook hF hw9
            have HS3 : Hid _ := step_grey G9 nl nl 0 0 0 0 (by omega) (by omega)
            have HW9 : Hid (w9 = w8.alloc (.cells #[nl, nl, nl, nl, nl, nl, nl, nl, nl, nl, nl, nl, nl, nl, nl, nl, nl] 60)) := hw9
            clear hF hw9 G9 HOw
            go_wp2_with fail
            rw [← HW9.out]
            refine Calls.mono HS3.out ?_
            rintro e w10 ⟨rfl, rv10, rd10, row10, h10, vi10, N10, V10, G10, _, _⟩
            have HB : Hid (Below w.heap.size w w10) := G10.bl
            clear G10 HS3
            go_wp2_with fail
            go_ret
            exact ⟨rfl, HB.out⟩
end Go.Proofs.YtiglmffnhbegiaaDoor
