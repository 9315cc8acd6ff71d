/- The chapter's first example. -/
import Derived.Test.YtjbfpklbgefacaaHWHeap
namespace Go.Proofs.Ytjbfpklbgefacaa
open Go.RowKit

/-- A sweeper and its heap, all whose blocks are new. -/
structure SN (w0 w : World) (sb hb ab : Nat) (h : List Cl) (a f : Nat) : Prop where
  s : SS w sb hb ab h a f
  b : Below w0.heap.size w0 w
  sb : w0.heap.size ≤ sb
  hb : w0.heap.size ≤ hb
  ab : w0.heap.size ≤ ab
theorem SN.step {w0 w w' : World} {sb hb ab : Nat} {h h' : List Cl} {a f a' f' : Nat} (H : SN w0 w sb hb ab h a f) (hS : SS w' sb hb ab h' a' f') (hF : Fr (fun g => g ≠ sb ∧ g ≠ ab) w w') : SN w0 w' sb hb ab h' a' f' :=
  ⟨hS, below_out H.b hF.1 (fun g hg => hF.2 g ⟨by have := H.sb; omega, by have := H.ab; omega⟩ (Nat.lt_of_lt_of_le hg H.b.size)), H.sb, H.hb, H.ab⟩
theorem SN.below {w0 w w' : World} {sb hb ab : Nat} {h : List Cl} {a f : Nat} (H : SN w0 w sb hb ab h a f) (hB : Below w.heap.size w w') : SN w0 w' sb hb ab h a f :=
  ⟨H.s.below hB, H.b.trans (hB.mono H.b.size), H.sb, H.hb, H.ab⟩
theorem SN.begin {w0 w w' : World} {sb hb ab : Nat} {h : List Cl} {a f : Nat} (H : SN w0 w sb hb ab h a f) (hS : SW w' sb hb 0 0) (hF : Fr (fun g => g ≠ sb) w w') : SN w0 w' sb hb ab h 0 0 :=
  H.step ⟨H.s.c.sw H.s.s hF, hS⟩ (hF.sub (fun _ h => h.1))
theorem SN.new {w0 w w' : World} {sb hb ab : Nat} {h : List Cl} (H : CN w0 w hb ab h) (hS : SW w' sb hb h.length 0) (hB : Below w.heap.size w w') (hs : w.heap.size ≤ sb) : SN w0 w' sb hb ab h h.length 0 :=
  ⟨⟨H.c.below hB, hS⟩, H.b.trans (hB.mono H.b.size), Nat.le_trans H.b.size hs, H.hb, H.ab⟩

def k4 : List Cl := [⟨1, 2, 0, 0⟩, ⟨2, 0, 0, 0⟩, c0, ⟨1, 0, 0, 0⟩]
def kH : Nat → List Cl
  | 0 => k4
  | j + 1 => swH (kH j) j
def kN : Nat → Nat
  | 0 => 0
  | j + 1 => if swB (kH j) j = true then 10 * kN j + j else kN j
def kF : Nat → Nat
  | 0 => 0
  | j + 1 => kF j + (swB (kH j) j).toNat
theorem k_map : k4.map plX = k4 := by kernel_rfl
theorem k_step : ∀ j, j < 4 → swE (kH j) j = 0 ∧ swN (kH j) j = j ∧ swA (kH j) j = j + 1 ∧ (kH j).length = 4 ∧ kN j ≤ 13 ∧ kF j ≤ 4
  | 0, _ => ⟨by kernel_rfl, by kernel_rfl, by kernel_rfl, by kernel_rfl, by decide, by decide⟩
  | 1, _ => ⟨by kernel_rfl, by kernel_rfl, by kernel_rfl, by kernel_rfl, by decide, by decide⟩
  | 2, _ => ⟨by kernel_rfl, by kernel_rfl, by kernel_rfl, by kernel_rfl, by decide, by decide⟩
  | 3, _ => ⟨by kernel_rfl, by kernel_rfl, by kernel_rfl, by kernel_rfl, by decide, by decide⟩
  | n + 4, h => absurd h (by omega)
theorem k_end : kN 4 = 13 ∧ kF 4 = 2 ∧ (kH 4).length = 4 ∧ swE (kH 4) 4 = 160 ∧ swN (kH 4) 4 = 0 ∧ swB (kH 4) 4 = false ∧ swH (kH 4) 4 = kH 4 ∧ swA (kH 4) 4 = 4 ∧ hdK (kH 4) 0 = 1 ∧ hdC (kH 4) 0 = 0 ∧ hdE (kH 4) 0 = 0 :=
  ⟨by kernel_rfl, by kernel_rfl, by kernel_rfl, by kernel_rfl, by kernel_rfl, by kernel_rfl, by kernel_rfl, by kernel_rfl, by kernel_rfl, by kernel_rfl, by kernel_rfl⟩
abbrev kO : Obj := .cells #[.int .u8 1, .int .u8 2, .int .u64 0, .int .u64 0, .int .u8 2, .int .u8 0, .int .u64 0, .int .u64 0, .int .u8 0, .int .u8 0, .int .u64 0, .int .u64 0, .int .u8 1, .int .u8 0, .int .u64 0, .int .u64 0] 39
theorem k_hr (w : World) : HR (w.alloc kO) (some ⟨w.heap.size, 0, none⟩) k4 := by
  refine ⟨w.heap.size, 0, .inr rfl, fun j x hx => ⟨by rw [World.size_alloc]; omega, ?_, ?_⟩⟩
  · have hj : j < 4 := (List.getElem?_eq_some_iff.1 hx).1
    have hn := heap_alloc_new w kO
    match j, hj, hx with
    | 0, _, hx => cases hx; exact ⟨heap_cell hn rfl, heap_cell hn rfl, heap_cell hn rfl, heap_cell hn rfl⟩
    | 1, _, hx => cases hx; exact ⟨heap_cell hn rfl, heap_cell hn rfl, heap_cell hn rfl, heap_cell hn rfl⟩
    | 2, _, hx => cases hx; exact ⟨heap_cell hn rfl, heap_cell hn rfl, heap_cell hn rfl, heap_cell hn rfl⟩
    | 3, _, hx => cases hx; exact ⟨heap_cell hn rfl, heap_cell hn rfl, heap_cell hn rfl, heap_cell hn rfl⟩
  · have hm := List.mem_of_getElem? hx
    unfold k4 at hm
    simp at hm
    rcases hm with h | h | h | h <;> (rw [h]; exact ⟨⟨by decide, by decide⟩, ⟨by decide, by decide⟩, ⟨by decide, by decide⟩, ⟨by decide, by decide⟩⟩)
set_option maxRecDepth 100000 in
set_option maxHeartbeats 16000000 in
theorem known_any (w : World) : Calls Try.prog 7 #[] w fun e w' => e = .returned (.bool true) ∧ Below w.heap.size w w' := by
  have qP : ∀ (g : Nat) (W : World), (binOp .eql 25 (.pointer (some ⟨g, 0, none⟩)) (.pointer none)).run Try.prog W = .ok (.bool false) W := fun g W => by simp [go_sem]
  have qS : ∀ (g : Nat) (W : World), (binOp .eql 28 (.pointer (some ⟨g, 0, none⟩)) (.pointer none)).run Try.prog W = .ok (.bool false) W := fun g W => by simp [go_sem]
  have HC0 : Hid (Calls Try.prog 8 #[.slice (some ⟨w.heap.size, 0, none⟩) 4 4] (w.alloc kO) fun e w' => HpR k4 (w.alloc kO) e w') := heap_any k4 (some ⟨w.heap.size, 0, none⟩) 4 (w.alloc kO) (k_hr w) (by decide) (by decide)
  go_enter Try.func7, Try.ntmps7
  go_wp2_with fail
  refine Calls.mono HC0.out ?_
  rintro e w1 ⟨hb, ab, g, rfl, c1, _, _⟩
  rw [k_map] at c1
  have HC1 : Hid (CN (w.alloc kO) w1 hb ab k4) := c1
  clear c1 HC0
  go_wp2_with fail
  refine Calls.mono (snew_any w1 HC1.out.c) ?_
  rintro e w2 ⟨sb, rfl, s2, b2, l2⟩
  have HS2 : Hid (SN (w.alloc kO) w2 sb hb ab k4 4 0) := SN.new HC1.out s2 b2 l2
  clear s2 b2 l2 HC1
  go_wp2_with fail
  refine Calls.mono (done_any w2 HS2.out.s.s HS2.out.s.c) ?_
  rintro e w3 ⟨rfl, b3⟩
  have HS3 : Hid (SN (w.alloc kO) w3 sb hb ab k4 4 0) := HS2.out.below b3
  rw [show (((4 : Nat) : Int) == ((k4.length : Nat) : Int)) = true from rfl]
  clear b3 HS2
  go_wp2_with fail
  refine Calls.mono (begin_any w3 HS3.out.s.s) ?_
  rintro e w4 ⟨rfl, s4, f4⟩
  have HS4 : Hid (SN (w.alloc kO) w4 sb hb ab (kH 0) 0 0) := HS3.out.begin s4 f4
  clear s4 f4 HS3
  go_wp2_with fail
  go_loopw [5, 6, 7, 8, 9] (fun n i _ _ _ wr => ∃ j : Nat, i = .int .i64 j ∧ j ≤ 4 ∧ n = .int .i64 (kN j) ∧ Hid (SN (w.alloc kO) wr sb hb ab (kH j) j (kF j))) (fun _ i _ _ _ _ => 4 - (intOf i).toNat)
  case atStart => exact ⟨0, rfl, by omega, rfl, HS4⟩
  case round =>
    clear HS4
    obtain ⟨j, rfl, hj, rfl, HI⟩ := hrel
    by_cases hjl : j < 4
    · have k1 : (j : Int) < 4 := by omega
      have k1' : decide ((j : Int) < 4) = true := by simp; omega
      obtain ⟨p1, p2, p3, p4, p5, p6⟩ := k_step j hjl
      have HN : Hid (kN (j + 1) = if swB (kH j) j = true then 10 * kN j + j else kN j) := rfl
      have HST : Hid (Calls Try.prog 15 #[.pointer (some ⟨sb, 0, none⟩)] wr fun e w' => StR sb hb ab (kH j) j (kF j) wr e w') := step_any wr HI.out.s (by omega) (by omega)
      unfold StR at HST
      rw [p1, p2, p3] at HST
      have HST2 : Hid (Calls Try.prog 15 #[.pointer (some ⟨sb, 0, none⟩)] wr fun e w' => e = .returned (.tuple #[.int .i64 j, .bool (swB (kH j) j), .int .i64 0]) ∧ SS w' sb hb ab (kH (j + 1)) (j + 1) (kF (j + 1)) ∧ Fr (fun g => g ≠ sb ∧ g ≠ ab) wr w') := HST.out
      clear HST p1 p2 p3 p4 p6
      generalize hn : kN j = n at HN p5 ⊢
      cases hbb : swB (kH j) j
      · rw [hbb] at HST2 HN
        clear hn hbb
        go_wp2_with fail
        refine Calls.mono HST2.out ?_
        rintro e w5 ⟨rfl, s5, f5⟩
        have HS5 : Hid (SN (w.alloc kO) w5 sb hb ab (kH (j + 1)) (j + 1) (kF (j + 1))) := HI.out.step s5 f5
        clear s5 f5 HST2
        go_wp2_with fail
        refine ⟨⟨j + 1, by go_num, by omega, ?_, HS5⟩, by simp [intOf]; omega⟩
        rw [HN.out]; rfl
      · rw [hbb] at HST2 HN
        clear hn hbb
        go_wp2_with fail
        refine Calls.mono HST2.out ?_
        rintro e w5 ⟨rfl, s5, f5⟩
        have HS5 : Hid (SN (w.alloc kO) w5 sb hb ab (kH (j + 1)) (j + 1) (kF (j + 1))) := HI.out.step s5 f5
        clear s5 f5 HST2
        go_wp2_with fail
        refine ⟨⟨j + 1, by go_num, by omega, ?_, HS5⟩, by simp [intOf]; omega⟩
        rw [HN.out]; simp
    · have e : j = 4 := by omega
      subst e
      obtain ⟨p1, p2, p3, p4, p5, p6, p7, p8, p9, p10, p11⟩ := k_end
      have HST : Hid (Calls Try.prog 15 #[.pointer (some ⟨sb, 0, none⟩)] wr fun e w' => StR sb hb ab (kH 4) 4 (kF 4) wr e w') := step_any wr HI.out.s (by omega) (by omega)
      unfold StR at HST
      rw [p4, p5, p6, p7, p8, p2] at HST
      rw [p2] at HI
      have HE : Hid (hdK (kH 4) 0 = 1 ∧ hdC (kH 4) 0 = 0 ∧ hdE (kH 4) 0 = 0 ∧ (kH 4).length = 4) := ⟨p9, p10, p11, p3⟩
      rw [p1]
      generalize kH 4 = h4 at HI HST HE
      clear p1 p2 p3 p4 p5 p6 p7 p8 p9 p10 p11
      have k1 : ¬ ((4 : Int) < 4) := by omega
      go_wp2_with fail
      refine Calls.mono HST.out ?_
      rintro e w5 ⟨rfl, s5, f5⟩
      have HS5 : Hid (SN (w.alloc kO) w5 sb hb ab h4 4 2) := HI.out.step s5 f5
      clear s5 f5 HST
      go_wp2_with fail
      refine Calls.mono (head_any (0 : Int) HS5.out.s.c) ?_
      rintro e w6 ⟨rfl, b6⟩
      rw [HE.out.1, HE.out.2.1, HE.out.2.2.1]
      have HS6 : Hid (SN (w.alloc kO) w6 sb hb ab h4 4 2) := HS5.out.below b6
      clear b6 HS5
      go_wp2_with fail
      refine Calls.mono (at_any w6 HS6.out.s.s) ?_
      rintro e w' ⟨rfl, hw'⟩
      rw [hw']
      clear hw'
      go_wp2_with fail
      refine Calls.mono (freed_any w6 HS6.out.s.s) ?_
      rintro e w' ⟨rfl, hw'⟩
      rw [hw']
      clear hw'
      go_wp2_with fail
      refine Calls.mono (done_any w6 HS6.out.s.s HS6.out.s.c) ?_
      rintro e w7 ⟨rfl, b7⟩
      rw [HE.out.2.2.2]
      have HB7 : Hid (Below w.heap.size w w7) := ((Below.refl _ w).alloc (Nat.le_refl _) _).trans ((HS6.out.below b7).b.mono (by rw [World.size_alloc]; omega))
      clear b7 HS6
      go_wp2_with fail
      go_ret
      exact ⟨rfl, HB7.out⟩
set_option maxRecDepth 100000 in
set_option maxHeartbeats 4000000 in
theorem sweepNumbers_walk (w : World) : Calls Try.prog 3 #[] w fun e w' => e = .returned (.bool true) ∧ Below w.heap.size w w' := by
  go_enter Try.func3, Try.ntmps3
  go_wp2_with fail
  refine Calls.mono (known_any w) ?_
  rintro e w1 ⟨rfl, hb⟩
  have HB : Hid (Below w.heap.size w w1) := hb
  clear hb
  go_wp2_with fail
  go_ret
  exact ⟨rfl, HB.out⟩
end Go.Proofs.Ytjbfpklbgefacaa
