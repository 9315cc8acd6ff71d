/- One step with both markers: the whole heaps; any step. -/
import Derived.Test.YtiglmffnhbegiaaDoorHDLay
namespace Go.Proofs.YtiglmffnhbegiaaDoor
open Go.RowKit

theorem RH.hx {w : World} {rb g : Nat} {h : List Cl} (H : RH w rb g h) : HX w (some ⟨g, 0, none⟩) h := by
  refine ⟨g, 0, .inr rfl, fun j x hx => ?_⟩
  obtain ⟨_, a, _⟩ := H.at hx
  rw [Nat.zero_add]
  exact ⟨H.lt.2, a⟩
section
variable {w0 w w' : World} {mb hb ab db rb g b Ni : Nat} {rv rd vi : Value} {row : List Int} {h : List Cl} {Vi : Nat → Value}
set_option maxRecDepth 100000 in
set_option maxHeartbeats 16000000 in
theorem step_all (H : GT w0 w mb hb ab db rb g b rv rd row row h h vi Ni Vi) (ws cs : Value) (i c d x : Int) :
    Calls Tryd.prog 9 #[.pointer (some ⟨mb, 0, none⟩), .pointer (some ⟨hb, 0, none⟩), .pointer (some ⟨db, 0, none⟩), .agg (opC 8 ws cs i c d x), .pointer (some ⟨b, 0, none⟩)] w fun e w' => StR w0 mb hb ab db rb g b row Ni 2 e w' := by
  obtain ⟨w1, hw1⟩ : ∃ w1, w1 = w.alloc (.cells (opC 8 ws cs i c d x) 31) := ⟨_, rfl⟩
  have hB1 : Below w.heap.size w w1 := hw1 ▸ (Below.refl _ w).alloc (Nat.le_refl _) _
  have H1 := H.below hB1
  have HH1 : Hid (GT w0 w1 mb hb ab db rb g b rv rd row row h h vi Ni Vi) := H1
  have q0 := op_head w 8 ws cs i c d x hw1
  have HW1 : Hid (w1 = w.alloc (.cells (opC 8 ws cs i c d x) 31)) := hw1
  have hlen := H1.m.c.len
  have m0 : w1.cell? ⟨db, 0, none⟩ = some (.pointer (some ⟨rb, 0, none⟩)) := heap_cell H1.d.m rfl
  have m1 : w1.cell? ⟨rb, 0, none⟩ = some (.slice (some ⟨g, 0, none⟩) h.length h.length) := heap_cell H1.d.r.v rfl
  have ld := heap_lt H1.d.m
  have lr := H1.d.r.lt.1
  have HC1 : Hid (Calls Tryd.prog 44 #[.pointer (some ⟨hb, 0, none⟩)] w1.drew fun e w' => SnR h w1.drew e w') := snapshot_any H1.below_drew.m.c
  have HC2 : Hid (∀ (wx : World) (g' : Nat), KR wx g' h h.length → Below w1.heap.size w1 wx → Calls Tryd.prog 43 #[.slice (some ⟨g', 0, none⟩) h.length h.length, .slice (some ⟨g, 0, none⟩) h.length h.length] wx fun e w' => e = .returned (.bool true) ∧ Below wx.heap.size wx w') := fun wx g' hk hb' => by
    have := sameK_any h h (some ⟨g', 0, none⟩) (some ⟨g, 0, none⟩) h.length h.length wx (by unfold maxLen; omega) (by unfold maxLen; omega) (hk.hr HH1.out.m.c.ok).hx ((HH1.out.d.r.hx).below hb')
    rw [decide_eq_true rfl] at this
    exact this
  have HMk : Hid (∀ wx, Below w1.heap.size w1 wx → wx.cell? ⟨db, 0, none⟩ = some (.pointer (some ⟨rb, 0, none⟩)) ∧ wx.cell? ⟨rb, 0, none⟩ = some (.slice (some ⟨g, 0, none⟩) h.length h.length)) := fun wx hw => ⟨(hw.cell (p := ⟨db, 0, none⟩) ld).trans m0, (hw.cell (p := ⟨rb, 0, none⟩) lr).trans m1⟩
  have HD : Hid (Below w1.heap.size w1 w1.drew) := (Below.refl _ _).drew
  clear hw1 hB1 H H1
  go_enter Tryd.func9, Tryd.ntmps9
  go_wp2_with fail
  rw [← HW1.out]
  go_region_held3 (fun wx => wx.cell? ⟨db, 0, none⟩ = some (.pointer (some ⟨rb, 0, none⟩)) ∧ wx.cell? ⟨rb, 0, none⟩ = some (.slice (some ⟨g, 0, none⟩) h.length h.length)) (first | (go_keep; done) | exact ⟨m0, m1⟩ | exact HMk.out _ (HD.out.trans hbs) | exact HMk.out _ ((HD.out.trans hbs).trans (hb2.mono hbs.size))) (first | (go_at_call 44; refine HC1.out.mono ?_; rintro e w' ⟨g', rfl, hks, hbs, hgs⟩) | (go_at_call 43; refine (HC2.out _ _ hks (HD.out.trans hbs)).mono ?_; rintro e w'' ⟨rfl, hb2⟩) | fail)
  have HF : Hid (StR w0 mb hb ab db rb g b row Ni 2 (.returned (.bool true)) w'') := ⟨rfl, rv, rd, row, h, vi, Ni, Vi, (HH1.out.below (HD.out.trans hbs)).below hb2, by omega, by omega⟩
  clear hks hbs hgs hb2
  go_wp2_with fail
  go_ret
  exact HF.out
set_option maxRecDepth 100000 in
set_option maxHeartbeats 16000000 in
theorem step_else (H : GT w0 w mb hb ab db rb g b rv rd row row h h vi Ni Vi) (ws cs : Value) (k i c d x : Int) (hk : ¬ (1 ≤ k ∧ k ≤ 8)) :
    Calls Tryd.prog 9 #[.pointer (some ⟨mb, 0, none⟩), .pointer (some ⟨hb, 0, none⟩), .pointer (some ⟨db, 0, none⟩), .agg (opC k ws cs i c d x), .pointer (some ⟨b, 0, none⟩)] w fun e w' => StR w0 mb hb ab db rb g b row Ni 2 e w' := by
  have hB1 : Below w.heap.size w (w.alloc (.cells (opC k ws cs i c d x) 31)) := (Below.refl _ w).alloc (Nat.le_refl _) _
  have HF : Hid (StR w0 mb hb ab db rb g b row Ni 2 (.returned (.bool true)) (w.alloc (.cells (opC k ws cs i c d x) 31))) := ⟨rfl, rv, rd, row, h, vi, Ni, Vi, H.below hB1, by omega, by omega⟩
  have z1 : (k == 1) = false := by simp; omega
  have z2 : (k == 2) = false := by simp; omega
  have z3 : (k == 3) = false := by simp; omega
  have z4 : (k == 4) = false := by simp; omega
  have z5 : (k == 5) = false := by simp; omega
  have z6 : (k == 6) = false := by simp; omega
  have z7 : (k == 7) = false := by simp; omega
  have z8 : (k == 8) = false := by simp; omega
  obtain ⟨q0, _⟩ := op_at w k ws cs i c d x
  clear H hB1 hk
  go_enter Tryd.func9, Tryd.ntmps9
  go_wp2_with fail
  go_ret
  exact HF.out
/-- A step as it comes in. -/
structure OpM where
  k : Int
  ws : List Int
  cs : List Int
  i : Int
  c : Int
  d : Int
  x : Int
def OpM.cost (o : OpM) : Nat := 1 + o.ws.length + o.cs.length
structure OpI (w0 : World) (o : OpM) (wr : Option Addr) (wc : Nat) (cr : Option Addr) (cc : Nat) : Prop where
  w : WR w0 wr o.ws
  c : RX (Value.int .i64) w0 cr o.cs
  d : 0 ≤ o.d ∧ o.d ≤ 255
  x : Rng o.x
theorem StR.le {c c' : Nat} {e : Ending} {w' : World} (H : StR w0 mb hb ab db rb g b row Ni c e w') (hc : c ≤ c') : StR w0 mb hb ab db rb g b row Ni c' e w' := by
  obtain ⟨h1, rv', rd', row', h', vi', Ni', Vi', g', l1, l2⟩ := H
  exact ⟨h1, rv', rd', row', h', vi', Ni', Vi', g', by omega, l2⟩
theorem step_any (H : GT w0 w mb hb ab db rb g b rv rd row row h h vi Ni Vi) (o : OpM) (wr cr : Option Addr) (wc cc : Nat) (hO : OpI w0 o wr wc cr cc) (hl : o.cost ≤ 20001) (hN : Ni ≤ 800000) (hrl : row.length ≤ 200000) (hT : Tab w0) :
    Calls Tryd.prog 9 #[.pointer (some ⟨mb, 0, none⟩), .pointer (some ⟨hb, 0, none⟩), .pointer (some ⟨db, 0, none⟩), .agg (opC o.k (.slice wr o.ws.length wc) (.slice cr o.cs.length cc) o.i o.c o.d o.x), .pointer (some ⟨b, 0, none⟩)] w fun e w' => StR w0 mb hb ab db rb g b row Ni (2 * o.cost) e w' := by
  unfold OpM.cost at hl ⊢
  have fin : ∀ {c : Nat}, c ≤ 2 * (1 + o.ws.length + o.cs.length) → ∀ (e : Ending) (w' : World), StR w0 mb hb ab db rb g b row Ni c e w' → StR w0 mb hb ab db rb g b row Ni (2 * (1 + o.ws.length + o.cs.length)) e w' := fun hc e w' hs => hs.le hc
  by_cases hk : 1 ≤ o.k ∧ o.k ≤ 8
  · have : o.k = 1 ∨ o.k = 2 ∨ o.k = 3 ∨ o.k = 4 ∨ o.k = 5 ∨ o.k = 6 ∨ o.k = 7 ∨ o.k = 8 := by omega
    rcases this with e | e | e | e | e | e | e | e <;> rw [e]
    · exact (step_shade H _ o.i o.c o.d o.x o.ws wr wc hO.w (by omega) hN (by omega) hT).mono (fin (by omega))
    · exact (step_lay H _ o.i o.c o.d o.x o.cs cr cc hO.c (by omega) hN (by omega) hT).mono (fin (by omega))
    · cases row with
      | nil => exact (step_scan0 H _ _ o.i o.c o.d o.x hN hT).mono (fin (by omega))
      | cons p row => exact (step_scan1 H _ _ o.i o.c o.d o.x hN (by rw [List.length_cons] at hrl; omega) hT).mono (fin (by omega))
    · exact (step_grey H _ _ o.i o.c o.d o.x hN (by omega)).mono (fin (by omega))
    · exact (step_turn H _ _ o.i o.c o.d o.x hO.d).mono (fin (by omega))
    · exact (step_drop H _ _ o.i o.c o.d o.x).mono (fin (by omega))
    · exact (step_swap H _ _ o.i o.c o.d o.x hO.x).mono (fin (by omega))
    · exact (step_all H _ _ o.i o.c o.d o.x).mono (fin (by omega))
  · exact (step_else H _ _ o.k o.i o.c o.d o.x hk).mono (fin (by omega))
end
end Go.Proofs.YtiglmffnhbegiaaDoor
