/- Words and cells in memory; isWord. -/
import Derived.Test.YtigcpbndmiefhaaDoorHWBase
import Derived.Test.YtigcpbndmiefhaaDoorHGMath
import Derived.BigQuiet
namespace Go.Proofs.YtigcpbndmiefhaaDoor
open Go.RowKit

/-- A row of words that is read. -/
def WR (w : World) (ra : Option Addr) (l : List Int) : Prop := ∃ b o, (l.length = 0 ∨ ra = some ⟨b, o, none⟩) ∧ ∀ (j : Nat) (x : Int), l[j]? = some x → b < w.heap.size ∧ w.cell? ⟨b, o + j, none⟩ = some (.int .u64 x) ∧ Rng x
structure OkK (x : Cl) : Prop where
  k : 0 ≤ x.k ∧ x.k ≤ 255
  c : 0 ≤ x.c ∧ x.c ≤ 255
  a : Rng x.a
  b : Rng x.b
/-- A row of cells that is read. -/
def HR (w : World) (ra : Option Addr) (l : List Cl) : Prop := ∃ b o, (l.length = 0 ∨ ra = some ⟨b, o, none⟩) ∧ ∀ (j : Nat) (x : Cl), l[j]? = some x → b < w.heap.size ∧ (w.cell? ⟨b, o + j * 4, none⟩ = some (.int .u8 x.k) ∧ w.cell? ⟨b, o + j * 4 + 1, none⟩ = some (.int .u8 x.c) ∧ w.cell? ⟨b, o + j * 4 + 1 + 1, none⟩ = some (.int .u64 x.a) ∧ w.cell? ⟨b, o + j * 4 + 1 + 1 + 1, none⟩ = some (.int .u64 x.b)) ∧ OkK x
theorem WR.below {w w' : World} {ra : Option Addr} {l : List Int} (h : WR w ra l) (hb : Below w.heap.size w w') : WR w' ra l := by
  obtain ⟨b, o, h1, h2⟩ := h
  exact ⟨b, o, h1, fun j x hx => ⟨Nat.lt_of_lt_of_le (h2 j x hx).1 hb.size, (hb.cell (p := ⟨b, o + j, none⟩) (h2 j x hx).1).trans (h2 j x hx).2.1, (h2 j x hx).2.2⟩⟩
theorem HR.below {w w' : World} {ra : Option Addr} {l : List Cl} (h : HR w ra l) (hb : Below w.heap.size w w') : HR w' ra l := by
  obtain ⟨b, o, h1, h2⟩ := h
  refine ⟨b, o, h1, fun j x hx => ?_⟩
  obtain ⟨g, ⟨a0, a1, a2, a3⟩, k⟩ := h2 j x hx
  have e := fun q => hb.cell (p := ⟨b, q, none⟩) g
  exact ⟨Nat.lt_of_lt_of_le g hb.size, ⟨(e _).trans a0, (e _).trans a1, (e _).trans a2, (e _).trans a3⟩, k⟩
theorem ofN_ref {x : Int} (h : refB x = true) : 0 ≤ ofN x ∧ ofN x ≤ 2147483647 := by
  have h8 : ofT x = 8 := by simpa [refB] using h
  have hw : wd x = true := by
    cases hw : wd x
    · unfold ofT at h8; rw [hw] at h8; simp at h8
    · rfl
  unfold ofT at h8
  rw [if_pos hw] at h8
  have := (may_iff.1 (wd_iff.1 hw).2)
  rw [h8] at this
  unfold ofN
  rw [if_pos hw]
  simp [lo, hi] at this
  exact this
/-- May a word stand there, by what the program reckons? -/
theorem fits_is (n : Nat) (x : Int) : fitsW n x = (wd x && (!refB x || decide (cellV x < (n : Int)))) := by
  unfold fitsW refN
  cases hr : refB x
  · have : ¬ ofT x = 8 := by simpa [refB] using hr
    rw [if_neg this]; rfl
  · have h8 : ofT x = 8 := by simpa [refB] using hr
    have hb := ofN_ref hr
    rw [if_pos h8]
    unfold cellV
    rw [if_pos h8]
    congr 1
    show decide ((ofN x).toNat < n) = decide (ofN x < (n : Int))
    exact decide_eq_decide.2 (by omega)
set_option maxRecDepth 100000 in
set_option maxHeartbeats 4000000 in
theorem isWord_any (x : Int) (n : Nat) (w : World) (hx : Rng x) (hT : Tab w) :
    Calls Tryd.prog 105 #[.int .u64 x, .int .i64 n] w fun e w' => e = .returned (.bool (fitsW n x)) ∧ w' = w := by
  have HV : Hid (fitsW n x = (wd x && (!refB x || decide (cellV x < (n : Int))))) := fits_is n x
  have HO : Hid (Calls Tryd.prog 101 #[.int .u64 x] w fun e w' => e = .returned (.tuple #[.int .u8 (ofT x), .int .i64 (ofN x), .bool (wd x)]) ∧ w' = w) := of_any x w hx hT
  have HC : Hid (Calls Tryd.prog 80 #[.int .u64 x] w fun e w' => e = .returned (.tuple #[.int .i64 (cellV x), .bool (refB x)]) ∧ w' = w) := cell_any x w hx hT
  clear hx hT
  generalize fitsW n x = fv at *
  generalize wd x = b1 at *
  generalize refB x = b2 at *
  generalize cellV x = cv at *
  cases b1
  · go_enter Tryd.func105, Tryd.ntmps105
    go_wp2_with (first | (go_at_call 101; refine HO.out.mono ?_; rintro e w' ⟨rfl, rfl⟩))
    go_ret
    exact ⟨by rw [HV.out]; rfl, rfl⟩
  · cases b2
    · go_enter Tryd.func105, Tryd.ntmps105
      go_wp2_with (first | (go_at_call 101; refine HO.out.mono ?_; rintro e w' ⟨rfl, rfl⟩) | (go_at_call 80; refine HC.out.mono ?_; rintro e w' ⟨rfl, rfl⟩))
      go_ret
      exact ⟨by rw [HV.out]; rfl, rfl⟩
    · go_enter Tryd.func105, Tryd.ntmps105
      go_wp2_with (first | (go_at_call 101; refine HO.out.mono ?_; rintro e w' ⟨rfl, rfl⟩) | (go_at_call 80; refine HC.out.mono ?_; rintro e w' ⟨rfl, rfl⟩))
      go_ret
      exact ⟨by rw [HV.out]; rfl, rfl⟩
end Go.Proofs.YtigcpbndmiefhaaDoor
