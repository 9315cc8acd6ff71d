/- One step with both markers: Grey, Snapshot. -/
import Derived.Test.YtiglmffnhbegiaaDoorHDStep
import Derived.Test.YtiglmffnhbegiaaDoorHBSameK
namespace Go.Proofs.YtiglmffnhbegiaaDoor
open Go.RowKit

section
variable {w0 w w' : World} {mb hb ab db rb g b Ni : Nat} {rv rd vi : Value} {row : List Int} {h : List Cl} {Vi : Nat → Value}
/-- A row that is new is none of what stands. -/
theorem GT.new {row' : List Int} {h' : List Cl} (H : GT w0 w mb hb ab db rb g b rv rd row row' h h' vi Ni Vi) {x : Nat} (hx : w.heap.size ≤ x) : w0.heap.size ≤ x ∧ rv.ownBlock ≠ some x ∧ rd.ownBlock ≠ some x ∧ ¬ BoF b vi nl Ni 0 Vi Vn x := by
  refine ⟨Nat.le_trans H.bl.size hx, fun e => ?_, fun e => ?_, fun e => ?_⟩
  · obtain ⟨cs, q⟩ := H.m.q.blk e
    have := heap_lt q
    omega
  · obtain ⟨cs, q⟩ := H.d.q.blk e
    have := heap_lt q
    omega
  · have := H.k.lt x e
    omega
theorem rx_keep {w w' : World} {ra : Option Addr} {c base : Nat} {l : List Int} (ho : w.ownsRow base 3 1 (.slice ra l.length c) l.length (iL l)) (hk : ∀ (x t : Nat) (cs : Array Value), t ≠ 60 → t ≠ 26 → w.heap[x]? = some (.cells cs t (0, 0)) → w'.heap[x]? = w.heap[x]?) : w'.ownsRow base 3 1 (.slice ra l.length c) l.length (iL l) := own_same ho (fun x hx => by
    obtain ⟨cs, q⟩ := own_blk ho hx
    exact hk x _ cs (by decide) (by decide) q)
set_option maxRecDepth 100000 in
set_option maxHeartbeats 16000000 in
theorem step_grey (H : GT w0 w mb hb ab db rb g b rv rd row row h h vi Ni Vi) (ws cs : Value) (i c d x : Int) (hN : Ni ≤ 800000) (hrl : row.length ≤ 400000) :
    Calls Tryd.prog 9 #[.pointer (some ⟨mb, 0, none⟩), .pointer (some ⟨hb, 0, none⟩), .pointer (some ⟨db, 0, none⟩), .agg (opC 4 ws cs i c d x), .pointer (some ⟨b, 0, none⟩)] w fun e w' => StR w0 mb hb ab db rb g b row Ni 2 e w' := by
  obtain ⟨dr, dc, rfl⟩ := H.d.q.sl
  obtain ⟨w1, hw1⟩ : ∃ w1, w1 = w.alloc (.cells (opC 4 ws cs i c d x) 31) := ⟨_, rfl⟩
  have hB1 : Below w.heap.size w w1 := hw1 ▸ (Below.refl _ w).alloc (Nat.le_refl _) _
  have HH1 : Hid (GT w0 w1 mb hb ab db rb g b rv (.slice dr row.length dc) row row h h vi Ni Vi) := H.below hB1
  obtain ⟨q0, q1, q2, q3, q4, q5, q6⟩ := op_at w 4 ws cs i c d x
  rw [← hw1] at q0 q1 q2 q3 q4 q5 q6
  have HW1 : Hid (w1 = w.alloc (.cells (opC 4 ws cs i c d x) 31)) := hw1
  clear hw1 hB1 H
  go_enter Tryd.func9, Tryd.ntmps9
  go_wp2_with fail
  rw [← HW1.out]
  refine Calls.mono (grey_any w1 HH1.out.m (by omega)) ?_
  rintro e w2 ⟨r1, c1, rfl, o1, b2⟩
  have HH2 : Hid (GT w0 w2 mb hb ab db rb g b rv (.slice dr row.length dc) row row h h vi Ni Vi) := HH1.out.below b2
  have HO1 : Hid (w2.ownsRow w1.heap.size 3 1 (.slice r1 row.length c1) row.length (iL row)) := o1
  have hs12 := b2.size
  clear o1 b2 q0 q1 q2 q3 q4 q5 q6 HW1
  go_wp2_with fail
  refine Calls.mono (grey_any w2 HH2.out.m (by omega)) ?_
  rintro e w3 ⟨r2, c2, rfl, o2, b3⟩
  have HH3 : Hid (GT w0 w3 mb hb ab db rb g b rv (.slice dr row.length dc) row row h h vi Ni Vi) := HH2.out.below b3
  have O1 := own_same (w' := w3) HO1.out (fun k hk => b3.block k (HO1.out.lt k hk).2)
  have hs23 := b3.size
  have P1 := put_any HH3.out (by omega) r1 c1 row w1.heap.size O1 (by omega) (fun k hk => HH1.out.new (O1.lt k hk).1 |> fun q => ⟨q.1, q.2.1, q.2.2.1, q.2.2.2⟩)
  have HP1 : Hid _ := P1
  have HO1' : Hid (w3.ownsRow w1.heap.size 3 1 (.slice r1 row.length c1) row.length (iL row)) := O1
  have HO2 : Hid (w3.ownsRow w2.heap.size 3 1 (.slice r2 row.length c2) row.length (iL row)) := o2
  have HL1 : Hid (∀ k, (Value.slice r1 row.length c1).ownBlock = some k → k < w2.heap.size) := fun k hk => (HO1.out.lt k hk).2
  clear o2 b3 P1 O1
  go_wp2_with fail
  refine Calls.mono HP1.out ?_
  rintro e w4 ⟨⟨rr, rfl⟩, ⟨v4, V4, g4, f4⟩, b4, k4⟩
  have O2 := rx_keep HO2.out k4
  have HO1'' : Hid _ := rx_keep HO1'.out k4
  have HO2' : Hid _ := O2
  have hs34 := b4.size
  have HP2 : Hid _ := put_any g4 (by omega) r2 c2 row w2.heap.size O2 (by omega) (fun k hk => by
    have l2 := HO2.out.lt k hk
    obtain ⟨e1, e2, e3, e4⟩ := HH2.out.new l2.1
    refine ⟨e1, e2, e3, fun hf => ?_⟩
    rcases f4 k hf with e | e | e
    · exact e4 e
    · have := HL1.out k e; omega
    · omega)
  clear g4 f4 b4 k4 O2 HP1 HO1' HO2
  go_wp2_with fail
  refine Calls.mono HP2.out ?_
  rintro e w5 ⟨⟨rr2, rfl⟩, ⟨v5, V5, g5, f5⟩, b5, k5⟩
  have HH5 : Hid (GT w0 w5 mb hb ab db rb g b rv (.slice dr row.length dc) row row h h v5 (Ni + 1 + 1) V5) := g5
  have X1 := own_rx (rx_keep HO1''.out k5) rfl
  have X2 := own_rx (rx_keep HO2'.out k5) rfl
  have XD : RX (Value.int .i64) w5 dr row := g5.d.q.rx
  have m5 : w5.cell? ⟨db, 1, none⟩ = some (.slice dr row.length dc) := heap_cell g5.d.m rfl
  have ld := heap_lt g5.d.m
  have HS1 : Hid _ := sameI_any row row r1 dr c1 dc w5 (by unfold maxLen; omega) (by unfold maxLen; omega) X1 XD
  rw [decide_eq_true rfl] at HS1
  have HX2 : Hid (RX (Value.int .i64) w5 r2 row) := X2
  have HXD : Hid (RX (Value.int .i64) w5 dr row) := XD
  clear g5 f5 b5 k5 X1 X2 XD HP2 HO1'' HO2'
  go_wp2_with fail
  refine Calls.mono HS1.out ?_
  rintro e w6 ⟨rfl, b6⟩
  have HH6 : Hid (GT w0 w6 mb hb ab db rb g b rv (.slice dr row.length dc) row row h h v5 (Ni + 1 + 1) V5) := HH5.out.below b6
  have m6 : w6.cell? ⟨db, 1, none⟩ = some (.slice dr row.length dc) := heap_cell HH6.out.d.m rfl
  have HS2 : Hid _ := sameI_any row row r2 dr c2 dc w6 (by unfold maxLen; omega) (by unfold maxLen; omega) (HX2.out.below b6) (HXD.out.below b6)
  rw [decide_eq_true rfl] at HS2
  clear b6 HS1 m5
  go_wp2_with fail
  refine Calls.mono HS2.out ?_
  rintro e w7 ⟨rfl, b7⟩
  have HF : Hid (StR w0 mb hb ab db rb g b row Ni 2 (.returned (.bool true)) w7) := ⟨rfl, rv, _, row, h, v5, _, V5, HH6.out.below b7, by omega, by omega⟩
  clear b7 m6
  go_wp2_with fail
  go_ret
  exact HF.out
end
end Go.Proofs.YtiglmffnhbegiaaDoor
