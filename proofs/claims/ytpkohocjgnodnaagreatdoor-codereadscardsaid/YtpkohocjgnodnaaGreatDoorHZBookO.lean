/- The book's Own. -/
import Derived.Test.YtpkohocjgnodnaaGreatDoorGBD
namespace Go.Proofs.YtpkohocjgnodnaaGreatDoor
open Go.RowKit

theorem Bk.sl {W : World} {b : Nat} {c : Nat → Value} {N : Nat → Nat} {V : Nat → Nat → Value} {U : Nat → Prop} (h : Bk W b c N V U) {k : Nat} (hk : U k) : ∃ ra q, c k = .slice ra (N k) q := by
  obtain ⟨_, _, hs⟩ := h.sh k hk
  exact own_sl hs.row
set_option maxRecDepth 100000 in
set_option maxHeartbeats 8000000 in
theorem bookOwn_any (Q : Nat → Prop) (b : Nat) (c : Nat → Value) (N : Nat → Nat) (V : Nat → Nat → Value) (w : World) (hN : ∀ k, N k ≤ 1000) (hQ : ∀ g, Q g → g < w.heap.size) (h : Bk w b c N V Fo) (hq : ∀ k, Fo k → ∀ j, j < N k → ∀ g, (V k j).ownBlock = some g → ¬ Q g) :
    Calls Tryz.prog 18 #[.pointer (some ⟨b, 0, none⟩)] w fun e w' => e = .returned (.bool true) ∧ FrQ Q w w' := by
  have HQ : Hid (∀ g, Q g → g < w.heap.size) := hQ
  have Hq : Hid (∀ k, Fo k → ∀ j, j < N k → ∀ g, (V k j).ownBlock = some g → ¬ Q g) := hq
  have HN : Hid (∀ k, N k ≤ 1000) := hN
  obtain ⟨r1, q1, hv1⟩ := h.sl (k := 1) (by unfold Fo; omega)
  have HV1 : Hid (c 1 = .slice r1 (N 1) q1) := hv1
  obtain ⟨r5, q5, hv5⟩ := h.sl (k := 5) (by unfold Fo; omega)
  have HV5 : Hid (c 5 = .slice r5 (N 5) q5) := hv5
  obtain ⟨r7, q7, hv7⟩ := h.sl (k := 7) (by unfold Fo; omega)
  have HV7 : Hid (c 7 = .slice r7 (N 7) q7) := hv7
  obtain ⟨r14, q14, hv14⟩ := h.sl (k := 14) (by unfold Fo; omega)
  have HV14 : Hid (c 14 = .slice r14 (N 14) q14) := hv14
  have HS0 : Hid (FrQ Q w w ∧ Bk w b c N V Fo) := ⟨FrQ.refl _ _, h⟩
  clear h hQ hq hN hv1 hv5 hv7 hv14
  go_enter Tryz.func18, Tryz.ntmps18
  have c0 : w.cell? ⟨b, 0, none⟩ = some (.slice none 0 0) := by
    have := heap_cell (j := 0) HS0.out.2.h rfl
    exact this
  have lb0 := heap_lt HS0.out.2.h
  have HO0 : Hid (Calls Tryz.prog 49 #[.slice none 0 0] w fun e w' => e = .returned (.bool true) ∧ FrQ Q w w' ∧ Bk w' b c N V Fo) := nil_step (ownBytes_nil _) HS0.out.2 HS0.out.1 HQ.out
  go_wp2_with fail
  refine Calls.mono HO0.out ?_
  rintro e w1 ⟨rfl, hx0⟩
  have HS1 : Hid (FrQ Q w w1 ∧ Bk w1 b c N V Fo) := hx0
  clear c0 lb0 HO0 HS0 hx0
  have c1 : w1.cell? ⟨b, 1, none⟩ = some (.slice r1 (N 1) q1) := by
    have := heap_cell (j := 1) HS1.out.2.h rfl
    rwa [HV1.out] at this
  have lb1 := heap_lt HS1.out.2.h
  have HO1 : Hid (Calls Tryz.prog 50 #[.slice r1 (N 1) q1] w1 fun e w' => e = .returned (.bool true) ∧ FrQ Q w w' ∧ Bk w' b c N V (fun k' => Fo k' ∧ k' ≠ 1)) := by
    have := own_step (k := 1) (show Owns (KK 1) _ from owns_texts) HS1.out.2 (by simp [Fo]) (HN.out _) HS1.out.1 HQ.out (Hq.out 1 (by simp [Fo]))
    rwa [HV1.out] at this
  go_wp2_with fail
  refine Calls.mono HO1.out ?_
  rintro e w2 ⟨rfl, hx1⟩
  have HS2 : Hid (FrQ Q w w2 ∧ Bk w2 b c N V (fun k' => Fo k' ∧ k' ≠ 1)) := hx1
  clear c1 lb1 HO1 HS1 hx1
  have c2 : w2.cell? ⟨b, 2, none⟩ = some (.slice none 0 0) := by
    have := heap_cell (j := 2) HS2.out.2.h rfl
    exact this
  have lb2 := heap_lt HS2.out.2.h
  have HO2 : Hid (Calls Tryz.prog 51 #[.slice none 0 0] w2 fun e w' => e = .returned (.bool true) ∧ FrQ Q w w' ∧ Bk w' b c N V (fun k' => Fo k' ∧ k' ≠ 1)) := nil_step (ownInts_nil _) HS2.out.2 HS2.out.1 HQ.out
  go_wp2_with fail
  refine Calls.mono HO2.out ?_
  rintro e w3 ⟨rfl, hx2⟩
  have HS3 : Hid (FrQ Q w w3 ∧ Bk w3 b c N V (fun k' => Fo k' ∧ k' ≠ 1)) := hx2
  clear c2 lb2 HO2 HS2 hx2
  have c3 : w3.cell? ⟨b, 3, none⟩ = some (.slice none 0 0) := by
    have := heap_cell (j := 3) HS3.out.2.h rfl
    exact this
  have lb3 := heap_lt HS3.out.2.h
  have HO3 : Hid (Calls Tryz.prog 52 #[.slice none 0 0] w3 fun e w' => e = .returned (.bool true) ∧ FrQ Q w w' ∧ Bk w' b c N V (fun k' => Fo k' ∧ k' ≠ 1)) := nil_step (ownLongs_nil _) HS3.out.2 HS3.out.1 HQ.out
  go_wp2_with fail
  refine Calls.mono HO3.out ?_
  rintro e w4 ⟨rfl, hx3⟩
  have HS4 : Hid (FrQ Q w w4 ∧ Bk w4 b c N V (fun k' => Fo k' ∧ k' ≠ 1)) := hx3
  clear c3 lb3 HO3 HS3 hx3
  have c4 : w4.cell? ⟨b, 4, none⟩ = some (.slice none 0 0) := by
    have := heap_cell (j := 4) HS4.out.2.h rfl
    exact this
  have lb4 := heap_lt HS4.out.2.h
  have HO4 : Hid (Calls Tryz.prog 53 #[.slice none 0 0] w4 fun e w' => e = .returned (.bool true) ∧ FrQ Q w w' ∧ Bk w' b c N V (fun k' => Fo k' ∧ k' ≠ 1)) := nil_step (ownNumbers_nil _) HS4.out.2 HS4.out.1 HQ.out
  go_wp2_with fail
  refine Calls.mono HO4.out ?_
  rintro e w5 ⟨rfl, hx4⟩
  have HS5 : Hid (FrQ Q w w5 ∧ Bk w5 b c N V (fun k' => Fo k' ∧ k' ≠ 1)) := hx4
  clear c4 lb4 HO4 HS4 hx4
  have c5 : w5.cell? ⟨b, 5, none⟩ = some (.slice r5 (N 5) q5) := by
    have := heap_cell (j := 5) HS5.out.2.h rfl
    rwa [HV5.out] at this
  have lb5 := heap_lt HS5.out.2.h
  have HO5 : Hid (Calls Tryz.prog 54 #[.slice r5 (N 5) q5] w5 fun e w' => e = .returned (.bool true) ∧ FrQ Q w w' ∧ Bk w' b c N V (fun k' => (fun k' => Fo k' ∧ k' ≠ 1) k' ∧ k' ≠ 5)) := by
    have := own_step (k := 5) (show Owns (KK 5) _ from owns_words) HS5.out.2 (by simp [Fo]) (HN.out _) HS5.out.1 HQ.out (Hq.out 5 (by simp [Fo]))
    rwa [HV5.out] at this
  go_wp2_with fail
  refine Calls.mono HO5.out ?_
  rintro e w6 ⟨rfl, hx5⟩
  have HS6 : Hid (FrQ Q w w6 ∧ Bk w6 b c N V (fun k' => (fun k' => Fo k' ∧ k' ≠ 1) k' ∧ k' ≠ 5)) := hx5
  clear c5 lb5 HO5 HS5 hx5
  have c6 : w6.cell? ⟨b, 6, none⟩ = some (.slice none 0 0) := by
    have := heap_cell (j := 6) HS6.out.2.h rfl
    exact this
  have lb6 := heap_lt HS6.out.2.h
  have HO6 : Hid (Calls Tryz.prog 55 #[.slice none 0 0] w6 fun e w' => e = .returned (.bool true) ∧ FrQ Q w w' ∧ Bk w' b c N V (fun k' => (fun k' => Fo k' ∧ k' ≠ 1) k' ∧ k' ≠ 5)) := nil_step (ownCells_nil _) HS6.out.2 HS6.out.1 HQ.out
  go_wp2_with fail
  refine Calls.mono HO6.out ?_
  rintro e w7 ⟨rfl, hx6⟩
  have HS7 : Hid (FrQ Q w w7 ∧ Bk w7 b c N V (fun k' => (fun k' => Fo k' ∧ k' ≠ 1) k' ∧ k' ≠ 5)) := hx6
  clear c6 lb6 HO6 HS6 hx6
  have c7 : w7.cell? ⟨b, 7, none⟩ = some (.slice r7 (N 7) q7) := by
    have := heap_cell (j := 7) HS7.out.2.h rfl
    rwa [HV7.out] at this
  have lb7 := heap_lt HS7.out.2.h
  have HO7 : Hid (Calls Tryz.prog 56 #[.slice r7 (N 7) q7] w7 fun e w' => e = .returned (.bool true) ∧ FrQ Q w w' ∧ Bk w' b c N V (fun k' => (fun k' => (fun k' => Fo k' ∧ k' ≠ 1) k' ∧ k' ≠ 5) k' ∧ k' ≠ 7)) := by
    have := own_step (k := 7) (show Owns (KK 7) _ from owns_instrs) HS7.out.2 (by simp [Fo]) (HN.out _) HS7.out.1 HQ.out (Hq.out 7 (by simp [Fo]))
    rwa [HV7.out] at this
  go_wp2_with fail
  refine Calls.mono HO7.out ?_
  rintro e w8 ⟨rfl, hx7⟩
  have HS8 : Hid (FrQ Q w w8 ∧ Bk w8 b c N V (fun k' => (fun k' => (fun k' => Fo k' ∧ k' ≠ 1) k' ∧ k' ≠ 5) k' ∧ k' ≠ 7)) := hx7
  clear c7 lb7 HO7 HS7 hx7
  have c8 : w8.cell? ⟨b, 8, none⟩ = some (.slice none 0 0) := by
    have := heap_cell (j := 8) HS8.out.2.h rfl
    exact this
  have lb8 := heap_lt HS8.out.2.h
  have HO8 : Hid (Calls Tryz.prog 57 #[.slice none 0 0] w8 fun e w' => e = .returned (.bool true) ∧ FrQ Q w w' ∧ Bk w' b c N V (fun k' => (fun k' => (fun k' => Fo k' ∧ k' ≠ 1) k' ∧ k' ≠ 5) k' ∧ k' ≠ 7)) := nil_step (ownTokens_nil _) HS8.out.2 HS8.out.1 HQ.out
  go_wp2_with fail
  refine Calls.mono HO8.out ?_
  rintro e w9 ⟨rfl, hx8⟩
  have HS9 : Hid (FrQ Q w w9 ∧ Bk w9 b c N V (fun k' => (fun k' => (fun k' => Fo k' ∧ k' ≠ 1) k' ∧ k' ≠ 5) k' ∧ k' ≠ 7)) := hx8
  clear c8 lb8 HO8 HS8 hx8
  have c9 : w9.cell? ⟨b, 9, none⟩ = some (.slice none 0 0) := by
    have := heap_cell (j := 9) HS9.out.2.h rfl
    exact this
  have lb9 := heap_lt HS9.out.2.h
  have HO9 : Hid (Calls Tryz.prog 58 #[.slice none 0 0] w9 fun e w' => e = .returned (.bool true) ∧ FrQ Q w w' ∧ Bk w' b c N V (fun k' => (fun k' => (fun k' => Fo k' ∧ k' ≠ 1) k' ∧ k' ≠ 5) k' ∧ k' ≠ 7)) := nil_step (ownWaiters_nil _) HS9.out.2 HS9.out.1 HQ.out
  go_wp2_with fail
  refine Calls.mono HO9.out ?_
  rintro e w10 ⟨rfl, hx9⟩
  have HS10 : Hid (FrQ Q w w10 ∧ Bk w10 b c N V (fun k' => (fun k' => (fun k' => Fo k' ∧ k' ≠ 1) k' ∧ k' ≠ 5) k' ∧ k' ≠ 7)) := hx9
  clear c9 lb9 HO9 HS9 hx9
  have c10 : w10.cell? ⟨b, 10, none⟩ = some (.slice none 0 0) := by
    have := heap_cell (j := 10) HS10.out.2.h rfl
    exact this
  have lb10 := heap_lt HS10.out.2.h
  have HO10 : Hid (Calls Tryz.prog 59 #[.slice none 0 0] w10 fun e w' => e = .returned (.bool true) ∧ FrQ Q w w' ∧ Bk w' b c N V (fun k' => (fun k' => (fun k' => Fo k' ∧ k' ≠ 1) k' ∧ k' ≠ 5) k' ∧ k' ≠ 7)) := nil_step (ownEndeds_nil _) HS10.out.2 HS10.out.1 HQ.out
  go_wp2_with fail
  refine Calls.mono HO10.out ?_
  rintro e w11 ⟨rfl, hx10⟩
  have HS11 : Hid (FrQ Q w w11 ∧ Bk w11 b c N V (fun k' => (fun k' => (fun k' => Fo k' ∧ k' ≠ 1) k' ∧ k' ≠ 5) k' ∧ k' ≠ 7)) := hx10
  clear c10 lb10 HO10 HS10 hx10
  have c11 : w11.cell? ⟨b, 11, none⟩ = some (.slice none 0 0) := by
    have := heap_cell (j := 11) HS11.out.2.h rfl
    exact this
  have lb11 := heap_lt HS11.out.2.h
  have HO11 : Hid (Calls Tryz.prog 60 #[.slice none 0 0] w11 fun e w' => e = .returned (.bool true) ∧ FrQ Q w w' ∧ Bk w' b c N V (fun k' => (fun k' => (fun k' => Fo k' ∧ k' ≠ 1) k' ∧ k' ≠ 5) k' ∧ k' ≠ 7)) := nil_step (ownErrs_nil _) HS11.out.2 HS11.out.1 HQ.out
  go_wp2_with fail
  refine Calls.mono HO11.out ?_
  rintro e w12 ⟨rfl, hx11⟩
  have HS12 : Hid (FrQ Q w w12 ∧ Bk w12 b c N V (fun k' => (fun k' => (fun k' => Fo k' ∧ k' ≠ 1) k' ∧ k' ≠ 5) k' ∧ k' ≠ 7)) := hx11
  clear c11 lb11 HO11 HS11 hx11
  have c12 : w12.cell? ⟨b, 16, none⟩ = some (.slice none 0 0) := by
    have := heap_cell (j := 16) HS12.out.2.h rfl
    exact this
  have lb12 := heap_lt HS12.out.2.h
  have HO12 : Hid (Calls Tryz.prog 61 #[.slice none 0 0] w12 fun e w' => e = .returned (.bool true) ∧ FrQ Q w w' ∧ Bk w' b c N V (fun k' => (fun k' => (fun k' => Fo k' ∧ k' ≠ 1) k' ∧ k' ≠ 5) k' ∧ k' ≠ 7)) := nil_step (ownBools_nil _) HS12.out.2 HS12.out.1 HQ.out
  go_wp2_with fail
  refine Calls.mono HO12.out ?_
  rintro e w13 ⟨rfl, hx12⟩
  have HS13 : Hid (FrQ Q w w13 ∧ Bk w13 b c N V (fun k' => (fun k' => (fun k' => Fo k' ∧ k' ≠ 1) k' ∧ k' ≠ 5) k' ∧ k' ≠ 7)) := hx12
  clear c12 lb12 HO12 HS12 hx12
  have c13 : w13.cell? ⟨b, 12, none⟩ = some (.slice none 0 0) := by
    have := heap_cell (j := 12) HS13.out.2.h rfl
    exact this
  have lb13 := heap_lt HS13.out.2.h
  have HO13 : Hid (Calls Tryz.prog 62 #[.slice none 0 0] w13 fun e w' => e = .returned (.bool true) ∧ FrQ Q w w' ∧ Bk w' b c N V (fun k' => (fun k' => (fun k' => Fo k' ∧ k' ≠ 1) k' ∧ k' ≠ 5) k' ∧ k' ≠ 7)) := nil_step (ownData_nil _) HS13.out.2 HS13.out.1 HQ.out
  go_wp2_with fail
  refine Calls.mono HO13.out ?_
  rintro e w14 ⟨rfl, hx13⟩
  have HS14 : Hid (FrQ Q w w14 ∧ Bk w14 b c N V (fun k' => (fun k' => (fun k' => Fo k' ∧ k' ≠ 1) k' ∧ k' ≠ 5) k' ∧ k' ≠ 7)) := hx13
  clear c13 lb13 HO13 HS13 hx13
  have c14 : w14.cell? ⟨b, 13, none⟩ = some (.slice none 0 0) := by
    have := heap_cell (j := 13) HS14.out.2.h rfl
    exact this
  have lb14 := heap_lt HS14.out.2.h
  have HO14 : Hid (Calls Tryz.prog 63 #[.slice none 0 0] w14 fun e w' => e = .returned (.bool true) ∧ FrQ Q w w' ∧ Bk w' b c N V (fun k' => (fun k' => (fun k' => Fo k' ∧ k' ≠ 1) k' ∧ k' ≠ 5) k' ∧ k' ≠ 7)) := nil_step (ownForms_nil _) HS14.out.2 HS14.out.1 HQ.out
  go_wp2_with fail
  refine Calls.mono HO14.out ?_
  rintro e w15 ⟨rfl, hx14⟩
  have HS15 : Hid (FrQ Q w w15 ∧ Bk w15 b c N V (fun k' => (fun k' => (fun k' => Fo k' ∧ k' ≠ 1) k' ∧ k' ≠ 5) k' ∧ k' ≠ 7)) := hx14
  clear c14 lb14 HO14 HS14 hx14
  have c15 : w15.cell? ⟨b, 14, none⟩ = some (.slice r14 (N 14) q14) := by
    have := heap_cell (j := 14) HS15.out.2.h rfl
    rwa [HV14.out] at this
  have lb15 := heap_lt HS15.out.2.h
  have HO15 : Hid (Calls Tryz.prog 64 #[.slice r14 (N 14) q14] w15 fun e w' => e = .returned (.bool true) ∧ FrQ Q w w' ∧ Bk w' b c N V (fun k' => (fun k' => (fun k' => (fun k' => Fo k' ∧ k' ≠ 1) k' ∧ k' ≠ 5) k' ∧ k' ≠ 7) k' ∧ k' ≠ 14)) := by
    have := own_step (k := 14) (show Owns (KK 14) _ from owns_procs) HS15.out.2 (by simp [Fo]) (HN.out _) HS15.out.1 HQ.out (Hq.out 14 (by simp [Fo]))
    rwa [HV14.out] at this
  go_wp2_with fail
  refine Calls.mono HO15.out ?_
  rintro e w16 ⟨rfl, hx15⟩
  have HS16 : Hid (FrQ Q w w16 ∧ Bk w16 b c N V (fun k' => (fun k' => (fun k' => (fun k' => Fo k' ∧ k' ≠ 1) k' ∧ k' ≠ 5) k' ∧ k' ≠ 7) k' ∧ k' ≠ 14)) := hx15
  clear c15 lb15 HO15 HS15 hx15
  have c16 : w16.cell? ⟨b, 15, none⟩ = some (.slice none 0 0) := by
    have := heap_cell (j := 15) HS16.out.2.h rfl
    exact this
  have lb16 := heap_lt HS16.out.2.h
  have HO16 : Hid (Calls Tryz.prog 65 #[.slice none 0 0] w16 fun e w' => e = .returned (.bool true) ∧ FrQ Q w w' ∧ Bk w' b c N V (fun k' => (fun k' => (fun k' => (fun k' => Fo k' ∧ k' ≠ 1) k' ∧ k' ≠ 5) k' ∧ k' ≠ 7) k' ∧ k' ≠ 14)) := nil_step (ownLanes_nil _) HS16.out.2 HS16.out.1 HQ.out
  go_wp2_with fail
  refine Calls.mono HO16.out ?_
  rintro e w17 ⟨rfl, hx16⟩
  have HS17 : Hid (FrQ Q w w17 ∧ Bk w17 b c N V (fun k' => (fun k' => (fun k' => (fun k' => Fo k' ∧ k' ≠ 1) k' ∧ k' ≠ 5) k' ∧ k' ≠ 7) k' ∧ k' ≠ 14)) := hx16
  clear c16 lb16 HO16 HS16 hx16
  go_wp2
  go_ret
  exact ⟨rfl, HS17.out.1⟩
end Go.Proofs.YtpkohocjgnodnaaGreatDoor
