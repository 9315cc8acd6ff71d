/- The book's Own. -/
import Derived.Test.YtdlnkdcgipaoeaaDoorGK
namespace Go.Proofs.YtdlnkdcgipaoeaaDoor
open Go.RowKit

theorem fr_of {B : Nat → Prop} {w0 w w' : World} (hb : Fr B w0 w) (h3 : Below 0 w w') (_ : ∀ g, B g → g < w0.heap.size) (h2 : ∀ g, B g → w'.heap[g]? = w.heap[g]?) : Fr B w0 w' :=
  ⟨hb.1.trans h3, fun g hg hl => (h2 g hg).trans (hb.2 g hg hl)⟩
theorem fr_lt {B : Nat → Prop} {w0 w : World} (hb : Fr B w0 w) (hs : ∀ g, B g → g < w0.heap.size) {g : Nat} (hg : B g) : g < w.heap.size := Nat.lt_of_lt_of_le (hs g hg) hb.1.size

set_option maxRecDepth 100000 in
set_option maxHeartbeats 8000000 in
theorem bookOwn_any (Q : Nat → Prop) (b : Nat) (vi vw : Value) (Ni Nw : Nat) (Vi Vw : Nat → Value) (w : World) (hNi : Ni ≤ 1000000) (hNw : Nw ≤ 1000000) (hQ : ∀ g, Q g → g < w.heap.size) (h : Bo w b vi vw Ni Nw Vi Vw) (hqi : ∀ j, j < Ni → ∀ g, (Vi j).ownBlock = some g → ¬ Q g) (hqw : ∀ j, j < Nw → ∀ g, (Vw j).ownBlock = some g → ¬ Q g) :
    Calls Tryd.prog 12 #[.pointer (some ⟨b, 0, none⟩)] w fun e w' => e = .returned (.bool true) ∧ Fr Q w w' := by
  have HS0 : Hid (Bo w b vi vw Ni Nw Vi Vw) := h
  have HF0 : Hid (Fr Q w w) := Fr.refl _ _
  have HQ : Hid (∀ g, Q g → g < w.heap.size) := hQ
  have HQi : Hid (∀ j, j < Ni → ∀ g, (Vi j).ownBlock = some g → ¬ Q g) := hqi
  have HQw : Hid (∀ j, j < Nw → ∀ g, (Vw j).ownBlock = some g → ¬ Q g) := hqw
  obtain ⟨r1, l1, q1, hv1⟩ : ∃ ra n c, vi = .slice ra n c := by
    obtain ⟨_, _, h1⟩ := h.si
    obtain ⟨ra, c, e⟩ := own_sl h1.row
    exact ⟨ra, _, c, e⟩
  obtain ⟨r2, l2, q2, hv2⟩ : ∃ ra n c, vw = .slice ra n c := by
    obtain ⟨_, _, h1⟩ := h.sw
    obtain ⟨ra, c, e⟩ := own_sl h1.row
    exact ⟨ra, _, c, e⟩
  subst hv1 hv2
  clear h hQ hqi hqw
  go_enter Tryd.func12, Tryd.ntmps12
  have c0 : w.cell? ⟨b, 0, none⟩ = some (.slice none 0 0) := heap_cell HS0.out.bi.heap rfl
  have lb0 := HS0.out.bi.lt
  go_wp2_with fail
  refine (ownBytes_nil _).mono ?_
  rintro e w1 ⟨rfl, b1⟩
  have HF1 : Hid (Fr Q w w1) := fr_of HF0.out (b1.mono (Nat.zero_le _)) HQ.out (fun g hg => b1.block g (fr_lt HF0.out HQ.out hg))
  have HS1 : Hid (Bo w1 b (.slice r1 l1 q1) (.slice r2 l2 q2) Ni Nw Vi Vw) := HS0.out.kept (fun g hg => b1.block g (HS0.out.lt g hg))
  clear b1 c0 lb0 HF0 HS0
  have c1 : w1.cell? ⟨b, 1, none⟩ = some (.slice none 0 0) := heap_cell HS1.out.bi.heap rfl
  have lb1 := HS1.out.bi.lt
  go_wp2_with fail
  refine (ownTexts_nil _).mono ?_
  rintro e w2 ⟨rfl, b2⟩
  have HF2 : Hid (Fr Q w w2) := fr_of HF1.out (b2.mono (Nat.zero_le _)) HQ.out (fun g hg => b2.block g (fr_lt HF1.out HQ.out hg))
  have HS2 : Hid (Bo w2 b (.slice r1 l1 q1) (.slice r2 l2 q2) Ni Nw Vi Vw) := HS1.out.kept (fun g hg => b2.block g (HS1.out.lt g hg))
  clear b2 c1 lb1 HF1 HS1
  have c2 : w2.cell? ⟨b, 2, none⟩ = some (.slice r1 l1 q1) := heap_cell HS2.out.bi.heap rfl
  have lb2 := HS2.out.bi.lt
  go_wp2_with fail
  have HO2 : Hid (Calls Tryd.prog 48 #[.slice r1 l1 q1] w2 fun e w' => e = .returned (.bool true) ∧ Fr (fun g => Q g ∨ g = b ∨ ShF (.slice r2 l2 q2) Nw Vw g) w2 w') := by
    obtain ⟨n1, X1, h1⟩ := HS2.out.si
    exact owns_ints (fun g => Q g ∨ g = b ∨ ShF (.slice r2 l2 q2) Nw Vw g) (.slice r1 l1 q1) Ni Vi n1 X1 w2 hNi (fun g hg => by
      rcases hg with hg | rfl | hg
      · exact fr_lt HF2.out HQ.out hg
      · exact HS2.out.lt _ (.inl rfl)
      · exact HS2.out.lt _ (.inr (.inr hg))) h1 (fun j hj g hg hh => by
      rcases hh with hh | rfl | hh
      · exact HQi.out j hj g hg hh
      · exact (HS2.out.apart.1 j hj _ hg).1 rfl
      · exact (HS2.out.apart.1 j hj _ hg).2 hh)
  refine HO2.out.mono ?_
  rintro e w3 ⟨rfl, b3⟩
  have HF3 : Hid (Fr Q w w3) := HF2.out.trans ⟨b3.1, fun g hg hl => b3.2 g (.inl hg) hl⟩
  have HS3 : Hid (Bi w3 b (.slice r1 l1 q1) (.slice r2 l2 q2) ∧ (∃ n X, ShL KW w3 (.slice r2 l2 q2) Nw Vw n X) ∧ ∀ j, j < Nw → ∀ g, (Vw j).ownBlock = some g → g ≠ b) := by
    obtain ⟨n2, X2, h2⟩ := HS2.out.sw
    exact ⟨HS2.out.bi.kept (b3.2 b (.inr (.inl rfl)) lb2), ⟨n2, X2, h2.kept (fun g hg => b3.2 g (.inr (.inr hg)) (h2.lt g hg))⟩, HS2.out.apart.2⟩
  clear HO2
  clear b3 c2 lb2 HF2 HS2
  have c3 : w3.cell? ⟨b, 3, none⟩ = some (.slice none 0 0) := heap_cell HS3.out.1.heap rfl
  have lb3 := HS3.out.1.lt
  go_wp2_with fail
  refine (ownLongs_nil _).mono ?_
  rintro e w4 ⟨rfl, b4⟩
  have HF4 : Hid (Fr Q w w4) := fr_of HF3.out (b4.mono (Nat.zero_le _)) HQ.out (fun g hg => b4.block g (fr_lt HF3.out HQ.out hg))
  have HS4 : Hid (Bi w4 b (.slice r1 l1 q1) (.slice r2 l2 q2) ∧ (∃ n X, ShL KW w4 (.slice r2 l2 q2) Nw Vw n X) ∧ ∀ j, j < Nw → ∀ g, (Vw j).ownBlock = some g → g ≠ b) := by
    obtain ⟨n2, X2, h2⟩ := HS3.out.2.1
    exact ⟨HS3.out.1.kept (b4.block b lb3), ⟨n2, X2, h2.kept (fun g hg => b4.block g (h2.lt g hg))⟩, HS3.out.2.2⟩
  clear b4 c3 lb3 HF3 HS3
  have c4 : w4.cell? ⟨b, 4, none⟩ = some (.slice none 0 0) := heap_cell HS4.out.1.heap rfl
  have lb4 := HS4.out.1.lt
  go_wp2_with fail
  refine (ownNumbers_nil _).mono ?_
  rintro e w5 ⟨rfl, b5⟩
  have HF5 : Hid (Fr Q w w5) := fr_of HF4.out (b5.mono (Nat.zero_le _)) HQ.out (fun g hg => b5.block g (fr_lt HF4.out HQ.out hg))
  have HS5 : Hid (Bi w5 b (.slice r1 l1 q1) (.slice r2 l2 q2) ∧ (∃ n X, ShL KW w5 (.slice r2 l2 q2) Nw Vw n X) ∧ ∀ j, j < Nw → ∀ g, (Vw j).ownBlock = some g → g ≠ b) := by
    obtain ⟨n2, X2, h2⟩ := HS4.out.2.1
    exact ⟨HS4.out.1.kept (b5.block b lb4), ⟨n2, X2, h2.kept (fun g hg => b5.block g (h2.lt g hg))⟩, HS4.out.2.2⟩
  clear b5 c4 lb4 HF4 HS4
  have c5 : w5.cell? ⟨b, 5, none⟩ = some (.slice none 0 0) := heap_cell HS5.out.1.heap rfl
  have lb5 := HS5.out.1.lt
  go_wp2_with fail
  refine (ownWords_nil _).mono ?_
  rintro e w6 ⟨rfl, b6⟩
  have HF6 : Hid (Fr Q w w6) := fr_of HF5.out (b6.mono (Nat.zero_le _)) HQ.out (fun g hg => b6.block g (fr_lt HF5.out HQ.out hg))
  have HS6 : Hid (Bi w6 b (.slice r1 l1 q1) (.slice r2 l2 q2) ∧ (∃ n X, ShL KW w6 (.slice r2 l2 q2) Nw Vw n X) ∧ ∀ j, j < Nw → ∀ g, (Vw j).ownBlock = some g → g ≠ b) := by
    obtain ⟨n2, X2, h2⟩ := HS5.out.2.1
    exact ⟨HS5.out.1.kept (b6.block b lb5), ⟨n2, X2, h2.kept (fun g hg => b6.block g (h2.lt g hg))⟩, HS5.out.2.2⟩
  clear b6 c5 lb5 HF5 HS5
  have c6 : w6.cell? ⟨b, 6, none⟩ = some (.slice none 0 0) := heap_cell HS6.out.1.heap rfl
  have lb6 := HS6.out.1.lt
  go_wp2_with fail
  refine (ownCells_nil _).mono ?_
  rintro e w7 ⟨rfl, b7⟩
  have HF7 : Hid (Fr Q w w7) := fr_of HF6.out (b7.mono (Nat.zero_le _)) HQ.out (fun g hg => b7.block g (fr_lt HF6.out HQ.out hg))
  have HS7 : Hid (Bi w7 b (.slice r1 l1 q1) (.slice r2 l2 q2) ∧ (∃ n X, ShL KW w7 (.slice r2 l2 q2) Nw Vw n X) ∧ ∀ j, j < Nw → ∀ g, (Vw j).ownBlock = some g → g ≠ b) := by
    obtain ⟨n2, X2, h2⟩ := HS6.out.2.1
    exact ⟨HS6.out.1.kept (b7.block b lb6), ⟨n2, X2, h2.kept (fun g hg => b7.block g (h2.lt g hg))⟩, HS6.out.2.2⟩
  clear b7 c6 lb6 HF6 HS6
  have c7 : w7.cell? ⟨b, 7, none⟩ = some (.slice none 0 0) := heap_cell HS7.out.1.heap rfl
  have lb7 := HS7.out.1.lt
  go_wp2_with fail
  refine (ownInstrs_nil _).mono ?_
  rintro e w8 ⟨rfl, b8⟩
  have HF8 : Hid (Fr Q w w8) := fr_of HF7.out (b8.mono (Nat.zero_le _)) HQ.out (fun g hg => b8.block g (fr_lt HF7.out HQ.out hg))
  have HS8 : Hid (Bi w8 b (.slice r1 l1 q1) (.slice r2 l2 q2) ∧ (∃ n X, ShL KW w8 (.slice r2 l2 q2) Nw Vw n X) ∧ ∀ j, j < Nw → ∀ g, (Vw j).ownBlock = some g → g ≠ b) := by
    obtain ⟨n2, X2, h2⟩ := HS7.out.2.1
    exact ⟨HS7.out.1.kept (b8.block b lb7), ⟨n2, X2, h2.kept (fun g hg => b8.block g (h2.lt g hg))⟩, HS7.out.2.2⟩
  clear b8 c7 lb7 HF7 HS7
  have c8 : w8.cell? ⟨b, 8, none⟩ = some (.slice none 0 0) := heap_cell HS8.out.1.heap rfl
  have lb8 := HS8.out.1.lt
  go_wp2_with fail
  refine (ownTokens_nil _).mono ?_
  rintro e w9 ⟨rfl, b9⟩
  have HF9 : Hid (Fr Q w w9) := fr_of HF8.out (b9.mono (Nat.zero_le _)) HQ.out (fun g hg => b9.block g (fr_lt HF8.out HQ.out hg))
  have HS9 : Hid (Bi w9 b (.slice r1 l1 q1) (.slice r2 l2 q2) ∧ (∃ n X, ShL KW w9 (.slice r2 l2 q2) Nw Vw n X) ∧ ∀ j, j < Nw → ∀ g, (Vw j).ownBlock = some g → g ≠ b) := by
    obtain ⟨n2, X2, h2⟩ := HS8.out.2.1
    exact ⟨HS8.out.1.kept (b9.block b lb8), ⟨n2, X2, h2.kept (fun g hg => b9.block g (h2.lt g hg))⟩, HS8.out.2.2⟩
  clear b9 c8 lb8 HF8 HS8
  have c9 : w9.cell? ⟨b, 9, none⟩ = some (.slice r2 l2 q2) := heap_cell HS9.out.1.heap rfl
  have lb9 := HS9.out.1.lt
  go_wp2_with fail
  have HO9 : Hid (Calls Tryd.prog 55 #[.slice r2 l2 q2] w9 fun e w' => e = .returned (.bool true) ∧ Fr (fun g => Q g ∨ g = b) w9 w') := by
    obtain ⟨n2, X2, h2⟩ := HS9.out.2.1
    exact owns_waiters (fun g => Q g ∨ g = b) (.slice r2 l2 q2) Nw Vw n2 X2 w9 hNw (fun g hg => by
      rcases hg with hg | rfl
      · exact fr_lt HF9.out HQ.out hg
      · exact HS9.out.1.lt) h2 (fun j hj g hg hh => by
      rcases hh with hh | rfl
      · exact HQw.out j hj g hg hh
      · exact HS9.out.2.2 j hj _ hg rfl)
  refine HO9.out.mono ?_
  rintro e w10 ⟨rfl, b10⟩
  have HF10 : Hid (Fr Q w w10) := HF9.out.trans ⟨b10.1, fun g hg hl => b10.2 g (.inl hg) hl⟩
  have HS10 : Hid (Bi w10 b (.slice r1 l1 q1) (.slice r2 l2 q2)) := HS9.out.1.kept (b10.2 b (.inr rfl) lb9)
  clear HO9
  clear b10 c9 lb9 HF9 HS9
  have c10 : w10.cell? ⟨b, 10, none⟩ = some (.slice none 0 0) := heap_cell HS10.out.heap rfl
  have lb10 := HS10.out.lt
  go_wp2_with fail
  refine (ownEndeds_nil _).mono ?_
  rintro e w11 ⟨rfl, b11⟩
  have HF11 : Hid (Fr Q w w11) := fr_of HF10.out (b11.mono (Nat.zero_le _)) HQ.out (fun g hg => b11.block g (fr_lt HF10.out HQ.out hg))
  have HS11 : Hid (Bi w11 b (.slice r1 l1 q1) (.slice r2 l2 q2)) := HS10.out.kept (b11.block b lb10)
  clear b11 c10 lb10 HF10 HS10
  have c11 : w11.cell? ⟨b, 11, none⟩ = some (.slice none 0 0) := heap_cell HS11.out.heap rfl
  have lb11 := HS11.out.lt
  go_wp2_with fail
  refine (ownErrs_nil _).mono ?_
  rintro e w12 ⟨rfl, b12⟩
  have HF12 : Hid (Fr Q w w12) := fr_of HF11.out (b12.mono (Nat.zero_le _)) HQ.out (fun g hg => b12.block g (fr_lt HF11.out HQ.out hg))
  have HS12 : Hid (Bi w12 b (.slice r1 l1 q1) (.slice r2 l2 q2)) := HS11.out.kept (b12.block b lb11)
  clear b12 c11 lb11 HF11 HS11
  have c12 : w12.cell? ⟨b, 16, none⟩ = some (.slice none 0 0) := heap_cell HS12.out.heap rfl
  have lb12 := HS12.out.lt
  go_wp2_with fail
  refine (ownBools_nil _).mono ?_
  rintro e w13 ⟨rfl, b13⟩
  have HF13 : Hid (Fr Q w w13) := fr_of HF12.out (b13.mono (Nat.zero_le _)) HQ.out (fun g hg => b13.block g (fr_lt HF12.out HQ.out hg))
  have HS13 : Hid (Bi w13 b (.slice r1 l1 q1) (.slice r2 l2 q2)) := HS12.out.kept (b13.block b lb12)
  clear b13 c12 lb12 HF12 HS12
  have c13 : w13.cell? ⟨b, 12, none⟩ = some (.slice none 0 0) := heap_cell HS13.out.heap rfl
  have lb13 := HS13.out.lt
  go_wp2_with fail
  refine (ownData_nil _).mono ?_
  rintro e w14 ⟨rfl, b14⟩
  have HF14 : Hid (Fr Q w w14) := fr_of HF13.out (b14.mono (Nat.zero_le _)) HQ.out (fun g hg => b14.block g (fr_lt HF13.out HQ.out hg))
  have HS14 : Hid (Bi w14 b (.slice r1 l1 q1) (.slice r2 l2 q2)) := HS13.out.kept (b14.block b lb13)
  clear b14 c13 lb13 HF13 HS13
  have c14 : w14.cell? ⟨b, 13, none⟩ = some (.slice none 0 0) := heap_cell HS14.out.heap rfl
  have lb14 := HS14.out.lt
  go_wp2_with fail
  refine (ownForms_nil _).mono ?_
  rintro e w15 ⟨rfl, b15⟩
  have HF15 : Hid (Fr Q w w15) := fr_of HF14.out (b15.mono (Nat.zero_le _)) HQ.out (fun g hg => b15.block g (fr_lt HF14.out HQ.out hg))
  have HS15 : Hid (Bi w15 b (.slice r1 l1 q1) (.slice r2 l2 q2)) := HS14.out.kept (b15.block b lb14)
  clear b15 c14 lb14 HF14 HS14
  have c15 : w15.cell? ⟨b, 14, none⟩ = some (.slice none 0 0) := heap_cell HS15.out.heap rfl
  have lb15 := HS15.out.lt
  go_wp2_with fail
  refine (ownProcs_nil _).mono ?_
  rintro e w16 ⟨rfl, b16⟩
  have HF16 : Hid (Fr Q w w16) := fr_of HF15.out (b16.mono (Nat.zero_le _)) HQ.out (fun g hg => b16.block g (fr_lt HF15.out HQ.out hg))
  have HS16 : Hid (Bi w16 b (.slice r1 l1 q1) (.slice r2 l2 q2)) := HS15.out.kept (b16.block b lb15)
  clear b16 c15 lb15 HF15 HS15
  have c16 : w16.cell? ⟨b, 15, none⟩ = some (.slice none 0 0) := heap_cell HS16.out.heap rfl
  have lb16 := HS16.out.lt
  go_wp2_with fail
  refine (ownLanes_nil _).mono ?_
  rintro e w17 ⟨rfl, b17⟩
  have HF17 : Hid (Fr Q w w17) := fr_of HF16.out (b17.mono (Nat.zero_le _)) HQ.out (fun g hg => b17.block g (fr_lt HF16.out HQ.out hg))
  have HS17 : Hid (Bi w17 b (.slice r1 l1 q1) (.slice r2 l2 q2)) := HS16.out.kept (b17.block b lb16)
  clear b17 c16 lb16 HF16 HS16
  go_wp2
  go_ret
  exact ⟨rfl, HF17.out⟩
end Go.Proofs.YtdlnkdcgipaoeaaDoor
