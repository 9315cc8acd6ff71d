/- The book: lists of data put in; Own. -/
import Derived.Test.YtlpdfifjdlfpdaaGreatDoorHOwnData
import Derived.Test.YtlpdfifjdlfpdaaGreatDoorHDocNil
namespace Go.Proofs.YtlpdfifjdlfpdaaGreatDoor
open Go.RowKit

/-- The book in block b: no list but those of data. -/
structure Bd (W : World) (b : Nat) (v : Value) : Prop where
  heap : W.heap[b]? = some (.cells #[.slice none 0 0, .slice none 0 0, .slice none 0 0, .slice none 0 0, .slice none 0 0, .slice none 0 0, .slice none 0 0, .slice none 0 0, .slice none 0 0, .slice none 0 0, .slice none 0 0, .slice none 0 0, v, .slice none 0 0, .slice none 0 0, .slice none 0 0, .slice none 0 0] 46 (0, 0))

theorem Bd.below {W W' : World} {b B : Nat} {v : Value} (h : Bd W b v) (hb : Below B W W') (hB : b < B) : Bd W' b v := ⟨(hb.block b hB).trans h.heap⟩
theorem Bd.lt {W : World} {b : Nat} {v : Value} (h : Bd W b v) : b < W.heap.size := (Array.getElem?_eq_some_iff.1 h.heap).1
theorem Held.below {base N B : Nat} {V : Nat → Value} {n : Nat → Nat} {W W' : World} {X : Nat → List Value} (h : Held base N B V n W X) (hb : Below W.heap.size W W') : Held base N B V n W' X :=
  ⟨fun j hj => (hb.cell (p := ⟨B, j, none⟩) h.lt).trans (h.cell j hj), fun j hj => own_below (h.own j hj) hb, h.apart, h.off, Nat.lt_of_lt_of_le h.lt hb.size⟩

set_option maxRecDepth 100000 in
set_option maxHeartbeats 4000000 in
theorem bookOwn_any (base b N B capB : Nat) (V : Nat → Value) (n : Nat → Nat) (X : Nat → List Value) (w : World) (hN : N ≤ 1000000) (hB : base ≤ B) (hb : b < base) (hbs : base ≤ w.heap.size) (hn : ∀ j, j < N → n j ≤ 1000000) (H0 : Held base N B V n w X)
    (hk : Bd w b (.slice (some ⟨B, 0, none⟩) N capB)) :
    Calls Tryz.prog 10 #[.pointer (some ⟨b, 0, none⟩)] w fun e w' => e = .returned (.bool true) ∧ BK base w w' := by
  have HH : Hid (Held base N B V n w X) := H0
  have HK0 : Hid (Bd w b (.slice (some ⟨B, 0, none⟩) N capB)) := hk
  have Hn : Hid (∀ j, j < N → n j ≤ 1000000) := hn
  have HB0 : Hid (Below w.heap.size w w) := Below.refl _ _
  clear H0 hk hn
  go_enter Tryz.func10, Tryz.ntmps10
  have c0 : w.cell? ⟨b, 0, none⟩ = some (.slice none 0 0) := by simp [World.cell?, HK0.out.heap]
  go_wp2_with fail
  refine (ownBytes_nil _).mono ?_
  rintro e w1 ⟨rfl, b1⟩
  have HB1 : Hid (Below w.heap.size w w1) := HB0.out.trans (b1.mono HB0.out.size)
  have HK1 : Hid (Bd w1 b (.slice (some ⟨B, 0, none⟩) N capB)) := HK0.out.below b1 HK0.out.lt
  clear b1 c0 HB0 HK0
  have c1 : w1.cell? ⟨b, 1, none⟩ = some (.slice none 0 0) := by simp [World.cell?, HK1.out.heap]
  go_wp2_with fail
  refine (ownTexts_nil _).mono ?_
  rintro e w2 ⟨rfl, b2⟩
  have HB2 : Hid (Below w.heap.size w w2) := HB1.out.trans (b2.mono HB1.out.size)
  have HK2 : Hid (Bd w2 b (.slice (some ⟨B, 0, none⟩) N capB)) := HK1.out.below b2 HK1.out.lt
  clear b2 c1 HB1 HK1
  have c2 : w2.cell? ⟨b, 2, none⟩ = some (.slice none 0 0) := by simp [World.cell?, HK2.out.heap]
  go_wp2_with fail
  refine (ownInts_nil _).mono ?_
  rintro e w3 ⟨rfl, b3⟩
  have HB3 : Hid (Below w.heap.size w w3) := HB2.out.trans (b3.mono HB2.out.size)
  have HK3 : Hid (Bd w3 b (.slice (some ⟨B, 0, none⟩) N capB)) := HK2.out.below b3 HK2.out.lt
  clear b3 c2 HB2 HK2
  have c3 : w3.cell? ⟨b, 3, none⟩ = some (.slice none 0 0) := by simp [World.cell?, HK3.out.heap]
  go_wp2_with fail
  refine (ownLongs_nil _).mono ?_
  rintro e w4 ⟨rfl, b4⟩
  have HB4 : Hid (Below w.heap.size w w4) := HB3.out.trans (b4.mono HB3.out.size)
  have HK4 : Hid (Bd w4 b (.slice (some ⟨B, 0, none⟩) N capB)) := HK3.out.below b4 HK3.out.lt
  clear b4 c3 HB3 HK3
  have c4 : w4.cell? ⟨b, 4, none⟩ = some (.slice none 0 0) := by simp [World.cell?, HK4.out.heap]
  go_wp2_with fail
  refine (ownNumbers_nil _).mono ?_
  rintro e w5 ⟨rfl, b5⟩
  have HB5 : Hid (Below w.heap.size w w5) := HB4.out.trans (b5.mono HB4.out.size)
  have HK5 : Hid (Bd w5 b (.slice (some ⟨B, 0, none⟩) N capB)) := HK4.out.below b5 HK4.out.lt
  clear b5 c4 HB4 HK4
  have c5 : w5.cell? ⟨b, 5, none⟩ = some (.slice none 0 0) := by simp [World.cell?, HK5.out.heap]
  go_wp2_with fail
  refine (ownWords_nil _).mono ?_
  rintro e w6 ⟨rfl, b6⟩
  have HB6 : Hid (Below w.heap.size w w6) := HB5.out.trans (b6.mono HB5.out.size)
  have HK6 : Hid (Bd w6 b (.slice (some ⟨B, 0, none⟩) N capB)) := HK5.out.below b6 HK5.out.lt
  clear b6 c5 HB5 HK5
  have c6 : w6.cell? ⟨b, 6, none⟩ = some (.slice none 0 0) := by simp [World.cell?, HK6.out.heap]
  go_wp2_with fail
  refine (ownCells_nil _).mono ?_
  rintro e w7 ⟨rfl, b7⟩
  have HB7 : Hid (Below w.heap.size w w7) := HB6.out.trans (b7.mono HB6.out.size)
  have HK7 : Hid (Bd w7 b (.slice (some ⟨B, 0, none⟩) N capB)) := HK6.out.below b7 HK6.out.lt
  clear b7 c6 HB6 HK6
  have c7 : w7.cell? ⟨b, 7, none⟩ = some (.slice none 0 0) := by simp [World.cell?, HK7.out.heap]
  go_wp2_with fail
  refine (ownInstrs_nil _).mono ?_
  rintro e w8 ⟨rfl, b8⟩
  have HB8 : Hid (Below w.heap.size w w8) := HB7.out.trans (b8.mono HB7.out.size)
  have HK8 : Hid (Bd w8 b (.slice (some ⟨B, 0, none⟩) N capB)) := HK7.out.below b8 HK7.out.lt
  clear b8 c7 HB7 HK7
  have c8 : w8.cell? ⟨b, 8, none⟩ = some (.slice none 0 0) := by simp [World.cell?, HK8.out.heap]
  go_wp2_with fail
  refine (ownTokens_nil _).mono ?_
  rintro e w9 ⟨rfl, b9⟩
  have HB9 : Hid (Below w.heap.size w w9) := HB8.out.trans (b9.mono HB8.out.size)
  have HK9 : Hid (Bd w9 b (.slice (some ⟨B, 0, none⟩) N capB)) := HK8.out.below b9 HK8.out.lt
  clear b9 c8 HB8 HK8
  have c9 : w9.cell? ⟨b, 9, none⟩ = some (.slice none 0 0) := by simp [World.cell?, HK9.out.heap]
  go_wp2_with fail
  refine (ownWaiters_nil _).mono ?_
  rintro e w10 ⟨rfl, b10⟩
  have HB10 : Hid (Below w.heap.size w w10) := HB9.out.trans (b10.mono HB9.out.size)
  have HK10 : Hid (Bd w10 b (.slice (some ⟨B, 0, none⟩) N capB)) := HK9.out.below b10 HK9.out.lt
  clear b10 c9 HB9 HK9
  have c10 : w10.cell? ⟨b, 10, none⟩ = some (.slice none 0 0) := by simp [World.cell?, HK10.out.heap]
  go_wp2_with fail
  refine (ownEndeds_nil _).mono ?_
  rintro e w11 ⟨rfl, b11⟩
  have HB11 : Hid (Below w.heap.size w w11) := HB10.out.trans (b11.mono HB10.out.size)
  have HK11 : Hid (Bd w11 b (.slice (some ⟨B, 0, none⟩) N capB)) := HK10.out.below b11 HK10.out.lt
  clear b11 c10 HB10 HK10
  have c11 : w11.cell? ⟨b, 11, none⟩ = some (.slice none 0 0) := by simp [World.cell?, HK11.out.heap]
  go_wp2_with fail
  refine (ownErrs_nil _).mono ?_
  rintro e w12 ⟨rfl, b12⟩
  have HB12 : Hid (Below w.heap.size w w12) := HB11.out.trans (b12.mono HB11.out.size)
  have HK12 : Hid (Bd w12 b (.slice (some ⟨B, 0, none⟩) N capB)) := HK11.out.below b12 HK11.out.lt
  clear b12 c11 HB11 HK11
  have c12 : w12.cell? ⟨b, 16, none⟩ = some (.slice none 0 0) := by simp [World.cell?, HK12.out.heap]
  go_wp2_with fail
  refine (ownBools_nil _).mono ?_
  rintro e w13 ⟨rfl, b13⟩
  have HB13 : Hid (Below w.heap.size w w13) := HB12.out.trans (b13.mono HB12.out.size)
  have HK13 : Hid (Bd w13 b (.slice (some ⟨B, 0, none⟩) N capB)) := HK12.out.below b13 HK12.out.lt
  clear b13 c12 HB12 HK12
  have c13 : w13.cell? ⟨b, 12, none⟩ = some (.slice (some ⟨B, 0, none⟩) N capB) := by simp [World.cell?, HK13.out.heap]
  go_wp2_with fail
  refine (ownData_any base N B capB V n X _ hN hB Hn.out (HH.out.below HB13.out)).mono ?_
  rintro e w14 ⟨rfl, b14⟩
  have HB14 : Hid (BK base w w14) := ⟨(HB13.out.mono hbs).trans b14.below, (KeepsOthers.of_below HB13.out).trans b14.others⟩
  have HK14 : Hid (Bd w14 b (.slice (some ⟨B, 0, none⟩) N capB)) := HK13.out.below b14.below hb
  clear b14 c13 HB13 HK13
  have c14 : w14.cell? ⟨b, 13, none⟩ = some (.slice none 0 0) := by simp [World.cell?, HK14.out.heap]
  go_wp2_with fail
  refine (ownForms_nil _).mono ?_
  rintro e w15 ⟨rfl, b15⟩
  have HB15 : Hid (BK base w w15) := ⟨HB14.out.below.trans (b15.mono (Nat.le_trans hbs HB14.out.below.size)), HB14.out.others.trans (KeepsOthers.of_below b15)⟩
  have HK15 : Hid (Bd w15 b (.slice (some ⟨B, 0, none⟩) N capB)) := HK14.out.below b15 HK14.out.lt
  clear b15 c14 HB14 HK14
  have c15 : w15.cell? ⟨b, 14, none⟩ = some (.slice none 0 0) := by simp [World.cell?, HK15.out.heap]
  go_wp2_with fail
  refine (ownProcs_nil _).mono ?_
  rintro e w16 ⟨rfl, b16⟩
  have HB16 : Hid (BK base w w16) := ⟨HB15.out.below.trans (b16.mono (Nat.le_trans hbs HB15.out.below.size)), HB15.out.others.trans (KeepsOthers.of_below b16)⟩
  have HK16 : Hid (Bd w16 b (.slice (some ⟨B, 0, none⟩) N capB)) := HK15.out.below b16 HK15.out.lt
  clear b16 c15 HB15 HK15
  have c16 : w16.cell? ⟨b, 15, none⟩ = some (.slice none 0 0) := by simp [World.cell?, HK16.out.heap]
  go_wp2_with fail
  refine (ownLanes_nil _).mono ?_
  rintro e w17 ⟨rfl, b17⟩
  have HB17 : Hid (BK base w w17) := ⟨HB16.out.below.trans (b17.mono (Nat.le_trans hbs HB16.out.below.size)), HB16.out.others.trans (KeepsOthers.of_below b17)⟩
  have HK17 : Hid (Bd w17 b (.slice (some ⟨B, 0, none⟩) N capB)) := HK16.out.below b17 HK16.out.lt
  clear b17 c16 HB16 HK16
  go_wp2
  go_ret
  exact ⟨rfl, HB17.out⟩
end Go.Proofs.YtlpdfifjdlfpdaaGreatDoor
