/- The book's Own, of lists of truths. -/
import Derived.Test.YtphpkedfcmghmaaDoorHABookB
namespace Go.Proofs.YtphpkedfcmghmaaDoor
open Go.RowKit

set_option maxRecDepth 100000 in
set_option maxHeartbeats 8000000 in
theorem bookOwn_any (Q : Nat → Prop) (b N : Nat) (v : Value) (V : Nat → Value) (w : World) (hN : N ≤ 1000000) (hQ : ∀ g, Q g → g < w.heap.size) (h : BB w b v N V) (hq : ∀ j, j < N → ∀ g, (V j).ownBlock = some g → ¬ Q g) :
    Calls Tryd.prog 11 #[.pointer (some ⟨b, 0, none⟩)] w fun e w' => e = .returned (.bool true) ∧ Fr Q w w' := by
  have HF0 : Hid (Fr Q w w) := Fr.refl _ _
  have HQ : Hid (∀ g, Q g → g < w.heap.size) := hQ
  have HQv : Hid (∀ j, j < N → ∀ g, (V j).ownBlock = some g → ¬ Q g) := hq
  obtain ⟨r1, l1, q1, hv1⟩ : ∃ ra n c, v = .slice ra n c := by
    obtain ⟨_, _, h1⟩ := h.sh
    obtain ⟨ra, c, e⟩ := own_sl h1.row
    exact ⟨ra, _, c, e⟩
  subst hv1
  have HS0 : Hid (BB w b (.slice r1 l1 q1) N V) := h
  clear h hQ hq
  go_enter Tryd.func11, Tryd.ntmps11
  have c0 : w.cell? ⟨b, 0, none⟩ = some (.slice none 0 0) := heap_cell HS0.out.heap rfl
  have lb0 := heap_lt HS0.out.heap
  go_wp2_with fail
  refine (ownBytes_nil _).mono ?_
  rintro e w1 ⟨rfl, b1⟩
  have HF1 : Hid (Fr Q w w1) := fr_of HF0.out (b1.mono (Nat.zero_le _)) HQ.out (fun g hg => b1.block g (fr_lt HF0.out HQ.out hg))
  have HS1 : Hid (BB w1 b (.slice r1 l1 q1) N V) := HS0.out.below b1
  clear b1 c0 lb0 HF0 HS0
  have c1 : w1.cell? ⟨b, 1, none⟩ = some (.slice none 0 0) := heap_cell HS1.out.heap rfl
  have lb1 := heap_lt HS1.out.heap
  go_wp2_with fail
  refine (ownTexts_nil _).mono ?_
  rintro e w2 ⟨rfl, b2⟩
  have HF2 : Hid (Fr Q w w2) := fr_of HF1.out (b2.mono (Nat.zero_le _)) HQ.out (fun g hg => b2.block g (fr_lt HF1.out HQ.out hg))
  have HS2 : Hid (BB w2 b (.slice r1 l1 q1) N V) := HS1.out.below b2
  clear b2 c1 lb1 HF1 HS1
  have c2 : w2.cell? ⟨b, 2, none⟩ = some (.slice none 0 0) := heap_cell HS2.out.heap rfl
  have lb2 := heap_lt HS2.out.heap
  go_wp2_with fail
  refine (ownInts_nil _).mono ?_
  rintro e w3 ⟨rfl, b3⟩
  have HF3 : Hid (Fr Q w w3) := fr_of HF2.out (b3.mono (Nat.zero_le _)) HQ.out (fun g hg => b3.block g (fr_lt HF2.out HQ.out hg))
  have HS3 : Hid (BB w3 b (.slice r1 l1 q1) N V) := HS2.out.below b3
  clear b3 c2 lb2 HF2 HS2
  have c3 : w3.cell? ⟨b, 3, none⟩ = some (.slice none 0 0) := heap_cell HS3.out.heap rfl
  have lb3 := heap_lt HS3.out.heap
  go_wp2_with fail
  refine (ownLongs_nil _).mono ?_
  rintro e w4 ⟨rfl, b4⟩
  have HF4 : Hid (Fr Q w w4) := fr_of HF3.out (b4.mono (Nat.zero_le _)) HQ.out (fun g hg => b4.block g (fr_lt HF3.out HQ.out hg))
  have HS4 : Hid (BB w4 b (.slice r1 l1 q1) N V) := HS3.out.below b4
  clear b4 c3 lb3 HF3 HS3
  have c4 : w4.cell? ⟨b, 4, none⟩ = some (.slice none 0 0) := heap_cell HS4.out.heap rfl
  have lb4 := heap_lt HS4.out.heap
  go_wp2_with fail
  refine (ownNumbers_nil _).mono ?_
  rintro e w5 ⟨rfl, b5⟩
  have HF5 : Hid (Fr Q w w5) := fr_of HF4.out (b5.mono (Nat.zero_le _)) HQ.out (fun g hg => b5.block g (fr_lt HF4.out HQ.out hg))
  have HS5 : Hid (BB w5 b (.slice r1 l1 q1) N V) := HS4.out.below b5
  clear b5 c4 lb4 HF4 HS4
  have c5 : w5.cell? ⟨b, 5, none⟩ = some (.slice none 0 0) := heap_cell HS5.out.heap rfl
  have lb5 := heap_lt HS5.out.heap
  go_wp2_with fail
  refine (ownWords_nil _).mono ?_
  rintro e w6 ⟨rfl, b6⟩
  have HF6 : Hid (Fr Q w w6) := fr_of HF5.out (b6.mono (Nat.zero_le _)) HQ.out (fun g hg => b6.block g (fr_lt HF5.out HQ.out hg))
  have HS6 : Hid (BB w6 b (.slice r1 l1 q1) N V) := HS5.out.below b6
  clear b6 c5 lb5 HF5 HS5
  have c6 : w6.cell? ⟨b, 6, none⟩ = some (.slice none 0 0) := heap_cell HS6.out.heap rfl
  have lb6 := heap_lt HS6.out.heap
  go_wp2_with fail
  refine (ownCells_nil _).mono ?_
  rintro e w7 ⟨rfl, b7⟩
  have HF7 : Hid (Fr Q w w7) := fr_of HF6.out (b7.mono (Nat.zero_le _)) HQ.out (fun g hg => b7.block g (fr_lt HF6.out HQ.out hg))
  have HS7 : Hid (BB w7 b (.slice r1 l1 q1) N V) := HS6.out.below b7
  clear b7 c6 lb6 HF6 HS6
  have c7 : w7.cell? ⟨b, 7, none⟩ = some (.slice none 0 0) := heap_cell HS7.out.heap rfl
  have lb7 := heap_lt HS7.out.heap
  go_wp2_with fail
  refine (ownInstrs_nil _).mono ?_
  rintro e w8 ⟨rfl, b8⟩
  have HF8 : Hid (Fr Q w w8) := fr_of HF7.out (b8.mono (Nat.zero_le _)) HQ.out (fun g hg => b8.block g (fr_lt HF7.out HQ.out hg))
  have HS8 : Hid (BB w8 b (.slice r1 l1 q1) N V) := HS7.out.below b8
  clear b8 c7 lb7 HF7 HS7
  have c8 : w8.cell? ⟨b, 8, none⟩ = some (.slice none 0 0) := heap_cell HS8.out.heap rfl
  have lb8 := heap_lt HS8.out.heap
  go_wp2_with fail
  refine (ownTokens_nil _).mono ?_
  rintro e w9 ⟨rfl, b9⟩
  have HF9 : Hid (Fr Q w w9) := fr_of HF8.out (b9.mono (Nat.zero_le _)) HQ.out (fun g hg => b9.block g (fr_lt HF8.out HQ.out hg))
  have HS9 : Hid (BB w9 b (.slice r1 l1 q1) N V) := HS8.out.below b9
  clear b9 c8 lb8 HF8 HS8
  have c9 : w9.cell? ⟨b, 9, none⟩ = some (.slice none 0 0) := heap_cell HS9.out.heap rfl
  have lb9 := heap_lt HS9.out.heap
  go_wp2_with fail
  refine (ownWaiters_nil _).mono ?_
  rintro e w10 ⟨rfl, b10⟩
  have HF10 : Hid (Fr Q w w10) := fr_of HF9.out (b10.mono (Nat.zero_le _)) HQ.out (fun g hg => b10.block g (fr_lt HF9.out HQ.out hg))
  have HS10 : Hid (BB w10 b (.slice r1 l1 q1) N V) := HS9.out.below b10
  clear b10 c9 lb9 HF9 HS9
  have c10 : w10.cell? ⟨b, 10, none⟩ = some (.slice none 0 0) := heap_cell HS10.out.heap rfl
  have lb10 := heap_lt HS10.out.heap
  go_wp2_with fail
  refine (ownEndeds_nil _).mono ?_
  rintro e w11 ⟨rfl, b11⟩
  have HF11 : Hid (Fr Q w w11) := fr_of HF10.out (b11.mono (Nat.zero_le _)) HQ.out (fun g hg => b11.block g (fr_lt HF10.out HQ.out hg))
  have HS11 : Hid (BB w11 b (.slice r1 l1 q1) N V) := HS10.out.below b11
  clear b11 c10 lb10 HF10 HS10
  have c11 : w11.cell? ⟨b, 11, none⟩ = some (.slice none 0 0) := heap_cell HS11.out.heap rfl
  have lb11 := heap_lt HS11.out.heap
  go_wp2_with fail
  refine (ownErrs_nil _).mono ?_
  rintro e w12 ⟨rfl, b12⟩
  have HF12 : Hid (Fr Q w w12) := fr_of HF11.out (b12.mono (Nat.zero_le _)) HQ.out (fun g hg => b12.block g (fr_lt HF11.out HQ.out hg))
  have HS12 : Hid (BB w12 b (.slice r1 l1 q1) N V) := HS11.out.below b12
  clear b12 c11 lb11 HF11 HS11
  have c12 : w12.cell? ⟨b, 16, none⟩ = some (.slice r1 l1 q1) := heap_cell HS12.out.heap rfl
  have lb12 := heap_lt HS12.out.heap
  have HO : Hid (Calls Tryd.prog 46 #[.slice r1 l1 q1] w12 fun e w' => e = .returned (.bool true) ∧ Fr (fun g => Q g ∨ g = b) w12 w') := by
    obtain ⟨n1, X1, h1⟩ := HS12.out.sh
    exact owns_bools (fun g => Q g ∨ g = b) (.slice r1 l1 q1) N V n1 X1 w12 hN (fun g hg => by
      rcases hg with hg | rfl
      · exact fr_lt HF12.out HQ.out hg
      · exact lb12) h1 (fun j hj g hg hh => by
      rcases hh with hh | rfl
      · exact HQv.out j hj g hg hh
      · exact HS12.out.apart j hj _ hg rfl)
  go_wp2_with fail
  refine HO.out.mono ?_
  rintro e w13 ⟨rfl, b13⟩
  have HF13 : Hid (Fr Q w w13) := HF12.out.trans ⟨b13.1, fun g hg hl => b13.2 g (.inl hg) hl⟩
  have HS13 : Hid (w13.heap[b]? = some (.cells #[.slice none 0 0, .slice none 0 0, .slice none 0 0, .slice none 0 0, .slice none 0 0, .slice none 0 0, .slice none 0 0, .slice none 0 0, .slice none 0 0, .slice none 0 0, .slice none 0 0, .slice none 0 0, .slice none 0 0, .slice none 0 0, .slice none 0 0, .slice none 0 0, .slice r1 l1 q1] 51 (0, 0))) := (b13.2 b (.inr rfl) lb12).trans HS12.out.heap
  clear HO b13 c12 lb12 HF12 HS12
  have c13 : w13.cell? ⟨b, 12, none⟩ = some (.slice none 0 0) := heap_cell HS13.out rfl
  have lb13 := heap_lt HS13.out
  go_wp2_with fail
  refine (ownData_nil _).mono ?_
  rintro e w14 ⟨rfl, b14⟩
  have HF14 : Hid (Fr Q w w14) := fr_of HF13.out (b14.mono (Nat.zero_le _)) HQ.out (fun g hg => b14.block g (fr_lt HF13.out HQ.out hg))
  have HS14 : Hid (w14.heap[b]? = some (.cells #[.slice none 0 0, .slice none 0 0, .slice none 0 0, .slice none 0 0, .slice none 0 0, .slice none 0 0, .slice none 0 0, .slice none 0 0, .slice none 0 0, .slice none 0 0, .slice none 0 0, .slice none 0 0, .slice none 0 0, .slice none 0 0, .slice none 0 0, .slice none 0 0, .slice r1 l1 q1] 51 (0, 0))) := (b14.block b lb13).trans HS13.out
  clear b14 c13 lb13 HF13 HS13
  have c14 : w14.cell? ⟨b, 13, none⟩ = some (.slice none 0 0) := heap_cell HS14.out rfl
  have lb14 := heap_lt HS14.out
  go_wp2_with fail
  refine (ownForms_nil _).mono ?_
  rintro e w15 ⟨rfl, b15⟩
  have HF15 : Hid (Fr Q w w15) := fr_of HF14.out (b15.mono (Nat.zero_le _)) HQ.out (fun g hg => b15.block g (fr_lt HF14.out HQ.out hg))
  have HS15 : Hid (w15.heap[b]? = some (.cells #[.slice none 0 0, .slice none 0 0, .slice none 0 0, .slice none 0 0, .slice none 0 0, .slice none 0 0, .slice none 0 0, .slice none 0 0, .slice none 0 0, .slice none 0 0, .slice none 0 0, .slice none 0 0, .slice none 0 0, .slice none 0 0, .slice none 0 0, .slice none 0 0, .slice r1 l1 q1] 51 (0, 0))) := (b15.block b lb14).trans HS14.out
  clear b15 c14 lb14 HF14 HS14
  have c15 : w15.cell? ⟨b, 14, none⟩ = some (.slice none 0 0) := heap_cell HS15.out rfl
  have lb15 := heap_lt HS15.out
  go_wp2_with fail
  refine (ownProcs_nil _).mono ?_
  rintro e w16 ⟨rfl, b16⟩
  have HF16 : Hid (Fr Q w w16) := fr_of HF15.out (b16.mono (Nat.zero_le _)) HQ.out (fun g hg => b16.block g (fr_lt HF15.out HQ.out hg))
  have HS16 : Hid (w16.heap[b]? = some (.cells #[.slice none 0 0, .slice none 0 0, .slice none 0 0, .slice none 0 0, .slice none 0 0, .slice none 0 0, .slice none 0 0, .slice none 0 0, .slice none 0 0, .slice none 0 0, .slice none 0 0, .slice none 0 0, .slice none 0 0, .slice none 0 0, .slice none 0 0, .slice none 0 0, .slice r1 l1 q1] 51 (0, 0))) := (b16.block b lb15).trans HS15.out
  clear b16 c15 lb15 HF15 HS15
  have c16 : w16.cell? ⟨b, 15, none⟩ = some (.slice none 0 0) := heap_cell HS16.out rfl
  have lb16 := heap_lt HS16.out
  go_wp2_with fail
  refine (ownLanes_nil _).mono ?_
  rintro e w17 ⟨rfl, b17⟩
  have HF17 : Hid (Fr Q w w17) := fr_of HF16.out (b17.mono (Nat.zero_le _)) HQ.out (fun g hg => b17.block g (fr_lt HF16.out HQ.out hg))
  have HS17 : Hid (w17.heap[b]? = some (.cells #[.slice none 0 0, .slice none 0 0, .slice none 0 0, .slice none 0 0, .slice none 0 0, .slice none 0 0, .slice none 0 0, .slice none 0 0, .slice none 0 0, .slice none 0 0, .slice none 0 0, .slice none 0 0, .slice none 0 0, .slice none 0 0, .slice none 0 0, .slice none 0 0, .slice r1 l1 q1] 51 (0, 0))) := (b17.block b lb16).trans HS16.out
  clear b17 c16 lb16 HF16 HS16
  go_wp2_with fail
  go_ret
  exact ⟨rfl, HF17.out⟩
end Go.Proofs.YtphpkedfcmghmaaDoor
