/- The walk of WordsReckons: it returns true wherever the table lies as its initialiser lays it, and leaves what was there. -/
import Derived.Test.YtiijmhilhdpahaaDoorKnown
import Derived.Test.YtiijmhilhdpahaaDoorReck
import Derived.Test.YtiijmhilhdpahaaDoorNumbersWalk
namespace Go.Proofs.YtiijmhilhdpahaaDoor
open Go.RowKit

theorem Tab.two {w : World} (h : Tab w) (o p : Obj) : Tab ((w.alloc o).alloc p) := h.later (((Below.refl _ _).alloc (Nat.le_refl _) _).alloc (by simp) _)

set_option maxHeartbeats 1000000 in
theorem wordsReckons_walk (a b : Int) (w : World) (ha : Rng a) (hb : Rng b) (hT : Tab w) :
    Calls Tryd.prog 5 #[.int .u64 a, .int .u64 b] w fun e w' => e = .returned (.bool true) ∧ Below w.heap.size w w' := by
  have HT : Hid (Tab w) := hT
  have Ha : Hid (Rng a) := ha
  have Hb : Hid (Rng b) := hb
  clear hT ha hb
  have mk1 : ∀ w, (Instr.makeSlice 34 (.int .i64 5) (.int .i64 5)).run Tryd.prog w = .ok (.slice (some ⟨w.heap.size, 0, none⟩) 5 5) (w.alloc (.cells #[.int .u64 0, .int .u64 0, .int .u64 0, .int .u64 0, .int .u64 0] 26)) := fun _ => by kernel_rfl
  have mk2 : ∀ w, (Instr.makeSlice 41 (.int .i64 5) (.int .i64 5)).run Tryd.prog w = .ok (.slice (some ⟨w.heap.size, 0, none⟩) 5 5) (w.alloc (.cells #[.int .i64 0, .int .i64 0, .int .i64 0, .int .i64 0, .int .i64 0] 29)) := fun _ => by kernel_rfl
  go_enter Tryd.func5, Tryd.ntmps5
  go_wp2_with fail
  refine (known_any _ HT.out).mono ?_
  rintro e w' ⟨rfl, rfl⟩
  go_wp2_with fail
  refine (add_any _ _ _ Ha.out Hb.out (by exact HT.out.two _ _)).mono ?_
  rintro e w2 ⟨rfl, rfl⟩
  go_wp2_with fail
  refine (sub_any _ _ _ Ha.out Hb.out (by exact HT.out.two _ _)).mono ?_
  rintro e w2 ⟨rfl, rfl⟩
  go_wp2_with fail
  refine (mul_any _ _ _ Ha.out Hb.out (by exact HT.out.two _ _)).mono ?_
  rintro e w2 ⟨rfl, rfl⟩
  go_wp2_with fail
  refine (quo_any _ _ _ Ha.out Hb.out (by exact HT.out.two _ _)).mono ?_
  rintro e w2 ⟨rfl, rfl⟩
  go_wp2_with fail
  refine (rem_any _ _ _ Ha.out Hb.out (by exact HT.out.two _ _)).mono ?_
  rintro e w2 ⟨rfl, rfl⟩
  go_wp2_with fail
  go_loopw [8] (fun i wx => ∃ k : Nat, k ≤ 5 ∧ i = .int .i64 k ∧ wx = (w'.alloc (.cells #[.int .u64 (addW a b), .int .u64 (subW a b), .int .u64 (mulW a b), .int .u64 (quoW a b), .int .u64 (remW a b)] 26)).alloc (.cells #[.int .i64 (addE a b), .int .i64 (subE a b), .int .i64 (mulE a b), .int .i64 (quoE a b), .int .i64 (remE a b)] 29)) (fun i _ => 5 - (intOf i).toNat)
  case atStart => exact ⟨0, by omega, rfl, rfl⟩
  case round =>
    obtain ⟨k, hk, rfl, rfl⟩ := hrel
    by_cases hlt : k < 5
    · have hd : k = 0 ∨ k = 1 ∨ k = 2 ∨ k = 3 ∨ k = 4 := by omega
      clear hlt hk
      rcases hd with rfl | rfl | rfl | rfl | rfl
      · go_wp2_with fail
        refine (reckon_any 0 _ _ _ Ha.out Hb.out (by omega)).mono ?_
        rintro e w2 ⟨rfl, rfl⟩
        rw [show rkW 0 a b = addW a b from rfl, show rkE 0 a b = addE a b from rfl]
        go_wp2_with fail
        exact ⟨⟨1, by omega, rfl, trivial⟩, by simp [intOf]⟩
      · go_wp2_with fail
        refine (reckon_any 1 _ _ _ Ha.out Hb.out (by omega)).mono ?_
        rintro e w2 ⟨rfl, rfl⟩
        rw [show rkW 1 a b = subW a b from rfl, show rkE 1 a b = subE a b from rfl]
        go_wp2_with fail
        exact ⟨⟨2, by omega, rfl, trivial⟩, by simp [intOf]⟩
      · go_wp2_with fail
        refine (reckon_any 2 _ _ _ Ha.out Hb.out (by omega)).mono ?_
        rintro e w2 ⟨rfl, rfl⟩
        rw [show rkW 2 a b = mulW a b from rfl, show rkE 2 a b = mulE a b from rfl]
        go_wp2_with fail
        exact ⟨⟨3, by omega, rfl, trivial⟩, by simp [intOf]⟩
      · go_wp2_with fail
        refine (reckon_any 3 _ _ _ Ha.out Hb.out (by omega)).mono ?_
        rintro e w2 ⟨rfl, rfl⟩
        rw [show rkW 3 a b = quoW a b from rfl, show rkE 3 a b = quoE a b from rfl]
        go_wp2_with fail
        exact ⟨⟨4, by omega, rfl, trivial⟩, by simp [intOf]⟩
      · go_wp2_with fail
        refine (reckon_any 4 _ _ _ Ha.out Hb.out (by omega)).mono ?_
        rintro e w2 ⟨rfl, rfl⟩
        rw [show rkW 4 a b = remW a b from rfl, show rkE 4 a b = remE a b from rfl]
        go_wp2_with fail
        exact ⟨⟨5, by omega, rfl, trivial⟩, by simp [intOf]⟩
    · cases h : bothB a b
      · have HL : Hid (lessB a b = false) := by show lessB a b = false; simp [lessB, h]
        have HE : Hid (lessE a b = 10) := by show lessE a b = 10; simp [lessE, h]
        have hn := both_no h
        clear h
        rcases hn with hn | ⟨h1, hn⟩
        · have hn' := bne_of_false hn
          clear hn
          go_wp2_with fail
          refine (less_any _ _ _ Ha.out Hb.out (by exact HT.out.two _ _)).mono ?_
          rintro e w2 ⟨rfl, rfl⟩
          rw [HL.out, HE.out]
          go_wp2_with fail
          refine (refOf_any _ _ Ha.out).mono ?_
          rintro e w2 ⟨rfl, rfl⟩
          go_wp2_with fail
          refine (refOf_any _ _ Hb.out).mono ?_
          rintro e w2 ⟨rfl, rfl⟩
          go_wp2_with fail
          go_ret
          exact ⟨rfl, ((Below.refl _ _).alloc (Nat.le_refl _) _).alloc (by simp) _⟩
        · have h1' := bne_of_true h1
          have hn' := bne_of_false hn
          clear hn h1
          go_wp2_with fail
          refine (less_any _ _ _ Ha.out Hb.out (by exact HT.out.two _ _)).mono ?_
          rintro e w2 ⟨rfl, rfl⟩
          rw [HL.out, HE.out]
          go_wp2_with fail
          refine (refOf_any _ _ Ha.out).mono ?_
          rintro e w2 ⟨rfl, rfl⟩
          go_wp2_with fail
          refine (refOf_any _ _ Hb.out).mono ?_
          rintro e w2 ⟨rfl, rfl⟩
          go_wp2_with fail
          go_ret
          exact ⟨rfl, ((Below.refl _ _).alloc (Nat.le_refl _) _).alloc (by simp) _⟩
      · have HL : Hid (lessB a b = decide (ofN a < ofN b)) := by show lessB a b = _; simp [lessB, h]
        have HE : Hid (lessE a b = 0) := by show lessE a b = 0; simp [lessE, h]
        obtain ⟨h1, h2⟩ := both_iff.1 h
        have h1' := bne_of_true h1
        have h2' := bne_of_true h2
        clear h h1 h2
        go_wp2_with fail
        refine (less_any _ _ _ Ha.out Hb.out (by exact HT.out.two _ _)).mono ?_
        rintro e w2 ⟨rfl, rfl⟩
        rw [HL.out, HE.out]
        go_wp2_with fail
        refine (refOf_any _ _ Ha.out).mono ?_
        rintro e w2 ⟨rfl, rfl⟩
        go_wp2_with fail
        refine (refOf_any _ _ Hb.out).mono ?_
        rintro e w2 ⟨rfl, rfl⟩
        go_wp2_with fail
        go_ret
        exact ⟨rfl, ((Below.refl _ _).alloc (Nat.le_refl _) _).alloc (by simp) _⟩
end Go.Proofs.YtiijmhilhdpahaaDoor
