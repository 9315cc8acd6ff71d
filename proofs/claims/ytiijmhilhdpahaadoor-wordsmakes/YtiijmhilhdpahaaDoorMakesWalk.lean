/- The walk of WordsMakes: it returns true wherever the table lies as its initialiser lays it, and leaves what was there. -/
import Derived.Test.YtiijmhilhdpahaaDoorKnown
import Derived.Test.YtiijmhilhdpahaaDoorNumbersWalk
namespace Go.Proofs.YtiijmhilhdpahaaDoor
open Go.RowKit

theorem Tab.one {w : World} (h : Tab w) (o : Obj) : Tab (w.alloc o) := h.later ((Below.refl _ _).alloc (Nat.le_refl _) _)
theorem Tab.two' {w : World} (h : Tab w) (o p : Obj) : Tab ((w.alloc o).alloc p) := h.later (((Below.refl _ _).alloc (Nat.le_refl _) _).alloc (by simp) _)

set_option maxRecDepth 100000 in
set_option maxHeartbeats 2000000 in
theorem wordsMakes_walk (t n c x : Int) (w : World) (h0 : 0 ≤ t) (h1 : t ≤ 255) (hx : Rng x) (hT : Tab w) :
    Calls Tryd.prog 4 #[.agg #[.int .u8 t, .int .i64 n, .int .i64 c, .int .u64 x]] w fun e w' => e = .returned (.bool true) ∧ Below w.heap.size w w' := by
  have HT : Hid (Tab w) := hT
  have Hx : Hid (Rng x) := hx
  have Ha : Hid _ := mkW_rng t n
  have Hb : Hid _ := mkW_rng 5 n
  have Hc : Hid _ := mkW_rng 8 c
  have H0 : Hid (Rng 0) := rng_of 0 (by omega) (by omega)
  clear hT hx
  go_enter Tryd.func4, Tryd.ntmps4
  go_wp2_with fail
  refine (known_any _ (by exact HT.out.one _)).mono ?_
  rintro e w2 ⟨rfl, rfl⟩
  go_wp2_with fail
  refine (make_any _ _ _ (by omega) (by omega) (by exact HT.out.one _)).mono ?_
  rintro e w2 ⟨rfl, rfl⟩
  go_wp2_with fail
  refine (refMake_any _ _ _ (by omega) (by omega)).mono ?_
  rintro e w2 ⟨rfl, rfl⟩
  go_wp2_with fail
  refine (int_any _ _ (by exact HT.out.one _)).mono ?_
  rintro e w2 ⟨rfl, rfl⟩
  go_wp2_with fail
  refine (refMake_any _ _ _ (by omega) (by omega)).mono ?_
  rintro e w2 ⟨rfl, rfl⟩
  go_wp2_with fail
  refine (ref_any _ _ (by exact HT.out.one _)).mono ?_
  rintro e w2 ⟨rfl, rfl⟩
  go_wp2_with fail
  go_loopw [16] (fun i wx => ∃ k : Nat, k ≤ 5 ∧ i = .int .i64 k ∧ wx = (w.alloc (.cells #[.int .u8 t, .int .i64 n, .int .i64 c, .int .u64 x] 28)).alloc (.cells #[.int .u64 x, .int .u64 (mkW t n), .int .u64 (mkW 5 n), .int .u64 (mkW 8 c), .int .u64 0] 26)) (fun i _ => 5 - (intOf i).toNat)
  case atStart => exact ⟨0, by omega, rfl, rfl⟩
  case round =>
    obtain ⟨k, hk, rfl, rfl⟩ := hrel
    by_cases hlt : k < 5
    · have hd : k = 0 ∨ k = 1 ∨ k = 2 ∨ k = 3 ∨ k = 4 := by omega
      clear hlt hk
      rcases hd with rfl | rfl | rfl | rfl | rfl
      · go_wp2_with fail
        refine (of_any _ _ Hx.out (by exact HT.out.two' _ _)).mono ?_
        rintro e w2 ⟨rfl, rfl⟩
        go_wp2_with fail
        refine (refOf_any _ _ Hx.out).mono ?_
        rintro e w2 ⟨rfl, rfl⟩
        go_wp2_with fail
        refine (cell_any _ _ Hx.out (by exact HT.out.two' _ _)).mono ?_
        rintro e w2 ⟨rfl, rfl⟩
        go_wp2_with fail
        refine (refCell_any _ _ Hx.out).mono ?_
        rintro e w2 ⟨rfl, rfl⟩
        go_wp2_with fail
        refine (true_any _ _ Hx.out (by exact HT.out.two' _ _)).mono ?_
        rintro e w2 ⟨rfl, rfl⟩
        go_wp2_with fail
        exact ⟨⟨1, by omega, rfl, trivial⟩, by simp [intOf]⟩
      · go_wp2_with fail
        refine (of_any _ _ Ha.out (by exact HT.out.two' _ _)).mono ?_
        rintro e w2 ⟨rfl, rfl⟩
        go_wp2_with fail
        refine (refOf_any _ _ Ha.out).mono ?_
        rintro e w2 ⟨rfl, rfl⟩
        go_wp2_with fail
        refine (cell_any _ _ Ha.out (by exact HT.out.two' _ _)).mono ?_
        rintro e w2 ⟨rfl, rfl⟩
        go_wp2_with fail
        refine (refCell_any _ _ Ha.out).mono ?_
        rintro e w2 ⟨rfl, rfl⟩
        go_wp2_with fail
        refine (true_any _ _ Ha.out (by exact HT.out.two' _ _)).mono ?_
        rintro e w2 ⟨rfl, rfl⟩
        go_wp2_with fail
        exact ⟨⟨2, by omega, rfl, trivial⟩, by simp [intOf]⟩
      · go_wp2_with fail
        refine (of_any _ _ Hb.out (by exact HT.out.two' _ _)).mono ?_
        rintro e w2 ⟨rfl, rfl⟩
        go_wp2_with fail
        refine (refOf_any _ _ Hb.out).mono ?_
        rintro e w2 ⟨rfl, rfl⟩
        go_wp2_with fail
        refine (cell_any _ _ Hb.out (by exact HT.out.two' _ _)).mono ?_
        rintro e w2 ⟨rfl, rfl⟩
        go_wp2_with fail
        refine (refCell_any _ _ Hb.out).mono ?_
        rintro e w2 ⟨rfl, rfl⟩
        go_wp2_with fail
        refine (true_any _ _ Hb.out (by exact HT.out.two' _ _)).mono ?_
        rintro e w2 ⟨rfl, rfl⟩
        go_wp2_with fail
        exact ⟨⟨3, by omega, rfl, trivial⟩, by simp [intOf]⟩
      · go_wp2_with fail
        refine (of_any _ _ Hc.out (by exact HT.out.two' _ _)).mono ?_
        rintro e w2 ⟨rfl, rfl⟩
        go_wp2_with fail
        refine (refOf_any _ _ Hc.out).mono ?_
        rintro e w2 ⟨rfl, rfl⟩
        go_wp2_with fail
        refine (cell_any _ _ Hc.out (by exact HT.out.two' _ _)).mono ?_
        rintro e w2 ⟨rfl, rfl⟩
        go_wp2_with fail
        refine (refCell_any _ _ Hc.out).mono ?_
        rintro e w2 ⟨rfl, rfl⟩
        go_wp2_with fail
        refine (true_any _ _ Hc.out (by exact HT.out.two' _ _)).mono ?_
        rintro e w2 ⟨rfl, rfl⟩
        go_wp2_with fail
        exact ⟨⟨4, by omega, rfl, trivial⟩, by simp [intOf]⟩
      · go_wp2_with fail
        refine (of_any _ _ H0.out (by exact HT.out.two' _ _)).mono ?_
        rintro e w2 ⟨rfl, rfl⟩
        go_wp2_with fail
        refine (refOf_any _ _ H0.out).mono ?_
        rintro e w2 ⟨rfl, rfl⟩
        go_wp2_with fail
        refine (cell_any _ _ H0.out (by exact HT.out.two' _ _)).mono ?_
        rintro e w2 ⟨rfl, rfl⟩
        go_wp2_with fail
        refine (refCell_any _ _ H0.out).mono ?_
        rintro e w2 ⟨rfl, rfl⟩
        go_wp2_with fail
        refine (true_any _ _ H0.out (by exact HT.out.two' _ _)).mono ?_
        rintro e w2 ⟨rfl, rfl⟩
        go_wp2_with fail
        exact ⟨⟨5, by omega, rfl, trivial⟩, by simp [intOf]⟩
    · go_wp2_with fail
      refine (ref_any _ _ (by exact HT.out.two' _ _)).mono ?_
      rintro e w2 ⟨rfl, rfl⟩
      go_wp2_with fail
      refine (refRef_any _ _).mono ?_
      rintro e w2 ⟨rfl, rfl⟩
      go_wp2_with fail
      go_ret
      exact ⟨rfl, ((Below.refl _ _).alloc (Nat.le_refl _) _).alloc (by simp) _⟩
end Go.Proofs.YtiijmhilhdpahaaDoor
