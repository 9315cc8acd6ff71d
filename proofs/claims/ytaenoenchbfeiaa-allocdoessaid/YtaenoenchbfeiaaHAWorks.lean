/- What the chapter's examples fix. -/
import Derived.Test.YtaenoenchbfeiaaHAInv
namespace Go.Proofs.Ytaenoenchbfeiaa
open Go.RowKit

def A1 : Al := ⟨[-1, 0, 0, 0], []⟩
def A2 : Al := ⟨[-1, -1, 0, 0], []⟩
def A3 : Al := ⟨[0, -1, 0, 0], []⟩
theorem st1 : askM (al0 4) 1 0 = ((0, true, 0), A1) := by kernel_rfl
theorem st2 : askM A1 2 0 = ((1, true, 0), A2) := by kernel_rfl
theorem st3 : backM A2 0 = ((0, 0), A3) := by kernel_rfl
theorem st4 : backM A3 3 = ((0, 120), A3) := by kernel_rfl
theorem st5 : askM A3 9 0 = ((0, false, 120), A3) := by kernel_rfl
theorem fr3 : frs 0 A3.who = [0, 2, 3] := by decide
theorem in1 : Inv A1 := by have := ask_inv (inv_new (n := 4) (by omega)) 1 0; rwa [st1] at this
theorem in2 : Inv A2 := by have := ask_inv in1 2 0; rwa [st2] at this
theorem in3 : Inv A3 := by have := back_inv in2 0; rwa [st3] at this
set_option maxRecDepth 100000 in
set_option maxHeartbeats 8000000 in
theorem works_any (w : World) : Calls Try.prog 6 #[] w fun e w' => e = .returned (.bool true) ∧ Below w.heap.size w w' := by
  have HN : Hid _ := new_any 4 w (by omega) (by omega)
  go_enter Try.func6, Try.ntmps6
  go_wp2_with fail
  refine Calls.mono HN.out ?_
  rintro e w1 ⟨a, ga, gm, gf, cf, rfl, hal, hb1, hft⟩
  have HS : Hid (Own w.heap.size a ga gm gf cf 0 (al0 4) w w1) := ⟨inv_new (by omega), _, hal, hb1, hft⟩
  have HN2 : Hid (Calls Try.prog 7 #[.int .i64 3] w1 fun e w' => e = .returned (.tuple #[.pointer none, .int .i64 120]) ∧ w' = w1) := new_bad 3 w1 (by omega)
  clear hal hb1 hft HN
  go_wp2_with fail
  refine Calls.mono HN2.out ?_
  rintro e w2 ⟨rfl, hw2⟩
  rw [hw2]
  clear hw2 HN2
  have HK : Hid _ := ask_own HS.out (Nat.le_refl _) 1 0
  rw [st1] at HK
  clear HS
  go_wp2_with fail
  refine Calls.mono HK.out ?_
  rintro e w2 ⟨rfl, hs2⟩
  have HK2 : Hid _ := ask_own hs2 (Nat.le_refl _) 2 0
  rw [st2] at HK2
  clear hs2 HK
  go_wp2_with fail
  refine Calls.mono HK2.out ?_
  rintro e w3 ⟨rfl, hs3⟩
  have HK3 : Hid _ := back_own hs3 (Nat.le_refl _) (by omega) 0
  rw [st3] at HK3
  clear hs3 HK2
  go_wp2_with fail
  refine Calls.mono HK3.out ?_
  rintro e w4 ⟨rfl, n4, hn4, hs4⟩
  have HK4 : Hid _ := back_own hs4 (Nat.le_refl _) (by omega) 3
  rw [st4] at HK4
  clear hs4 HK3
  go_wp2_with fail
  refine Calls.mono HK4.out ?_
  rintro e w5 ⟨rfl, n5, hn5, hs5⟩
  have HS5 : Hid (Own w.heap.size a ga gm gf cf n5 A3 w w5) := hs5
  have HFr : Hid (Calls Try.prog 16 #[.pointer (some ⟨a, 0, none⟩)] w5 fun e w' => OutI [0, 2, 3] e w5 w') := by
    obtain ⟨hI, vr, h1, _, _⟩ := hs5
    have := free_any a ga gm gf cf n5 vr A3 w5 h1 hI
    rwa [fr3] at this
  clear hs5 HK4
  go_wp2_with fail
  refine Calls.mono HFr.out ?_
  rintro e w6 ⟨⟨v', rfl, ho6⟩, hb6⟩
  obtain ⟨ra, ca, rfl⟩ := own_sl ho6
  have HS6 : Hid (Own w.heap.size a ga gm gf cf n5 A3 w w6) := own_quiet HS5.out (Nat.le_refl _) hb6
  have HR6 : Hid (RX (Value.int .i64) w6 ra [0, 2, 3]) := own_rx ho6 rfl
  clear ho6 hb6 HS5 HFr
  have a6 := (Below.refl _ w6).alloc (Nat.le_refl w6.heap.size) (.cells #[.int .i64 0, .int .i64 2, .int .i64 3] 3)
  have n6 := heap_alloc_new w6 (.cells #[.int .i64 0, .int .i64 2, .int .i64 3] 3)
  have HSm : Hid (Calls Try.prog 21 #[.slice ra 3 ca, .slice (some ⟨w6.heap.size, 0, none⟩) 3 3] (w6.alloc (.cells #[.int .i64 0, .int .i64 2, .int .i64 3] 3)) fun e w' => e = .returned (.bool true) ∧ Below (w6.alloc (.cells #[.int .i64 0, .int .i64 2, .int .i64 3] 3)).heap.size (w6.alloc (.cells #[.int .i64 0, .int .i64 2, .int .i64 3] 3)) w') := sameI_any [0, 2, 3] [0, 2, 3] ra (some ⟨w6.heap.size, 0, none⟩) ca 3 _ (by decide) (by decide) (HR6.out.below a6) ⟨w6.heap.size, 0, .inr rfl, fun j x hx => ⟨heap_lt n6, by
    rw [Nat.zero_add]
    refine heap_cell n6 ?_
    match j, hx with
    | 0, hx => cases hx; rfl
    | 1, hx => cases hx; rfl
    | 2, hx => cases hx; rfl
    | j + 3, hx => simp at hx⟩⟩
  have HS7 : Hid (Own w.heap.size a ga gm gf cf n5 A3 w (w6.alloc (.cells #[.int .i64 0, .int .i64 2, .int .i64 3] 3))) := own_quiet HS6.out (Nat.le_refl _) a6
  clear a6 n6 HR6 HS6
  simp only [List.length_cons, List.length_nil]
  go_wp2_with fail
  refine Calls.mono HSm.out ?_
  rintro e w8 ⟨rfl, hb8⟩
  have HK9 : Hid _ := ask_own (own_quiet HS7.out (Nat.le_refl _) hb8) (Nat.le_refl _) 9 0
  rw [st5] at HK9
  clear HSm hb8 HS7
  go_wp2_with fail
  refine Calls.mono HK9.out ?_
  rintro e w9 ⟨rfl, hs9⟩
  have HB9 : Hid (Below w.heap.size w w9) := by
    obtain ⟨_, _, _, h, _⟩ := hs9
    exact h
  clear hs9 HK9
  go_wp2
  go_ret
  exact ⟨rfl, HB9.out⟩
set_option maxRecDepth 100000 in
theorem allocNumbers_walk (w : World) : Calls Try.prog 3 #[] w fun e w' => e = .returned (.bool true) ∧ Below w.heap.size w w' := by
  have HW : Hid _ := works_any w
  go_enter Try.func3, Try.ntmps3
  go_wp2_with fail
  refine Calls.mono HW.out ?_
  rintro e w1 ⟨rfl, hb⟩
  have HB : Hid (Below w.heap.size w w1) := hb
  clear hb HW
  go_wp2
  go_ret
  exact ⟨rfl, HB.out⟩
end Go.Proofs.Ytaenoenchbfeiaa
