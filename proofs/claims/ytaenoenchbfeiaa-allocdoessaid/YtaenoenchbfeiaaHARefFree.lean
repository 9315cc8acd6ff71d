/- The document's Free. -/
import Derived.Test.YtaenoenchbfeiaaHARef
namespace Go.Proofs.Ytaenoenchbfeiaa
open Go.RowKit

set_option maxRecDepth 100000 in
set_option maxHeartbeats 8000000 in
theorem refFree_any (r gr : Nat) (vw : Value) (A : Al) (w : World) (h : RL w r gr vw A) (hl : A.who.length ≤ 4096) :
    Calls Try.prog 28 #[.pointer (some ⟨r, 0, none⟩)] w fun e w' => OutI (frs 0 A.who) e w w' := by
  have HR : Hid (RL w r gr vw A) := h
  have c0 := h.c0
  have lr := h.lt r (.inl (.inl rfl))
  have lg := h.lt gr (.inl (.inr rfl))
  obtain ⟨i0, hi0, hz0, hz1, hz2⟩ := info_parts infoI
  have HI0 : Hid (Try.prog.info? 3 = some i0 ∧ _ ∧ _ ∧ _) := ⟨hi0, hz0, hz1, hz2⟩
  clear h hi0 hz0 hz1 hz2
  go_enter Try.func28, Try.ntmps28
  go_wp2
  go_loopw [3, 4] (fun s i wr => ∃ j : Nat, i = .int .i64 j ∧ j ≤ A.who.length ∧ Hid (wr.ownsRow w.heap.size 3 1 s (frs 0 (A.who.take j)).length ((frs 0 (A.who.take j)).map (Value.int .i64))) ∧ Hid (Below w.heap.size w wr)) (fun _ i _ => A.who.length - (intOf i).toNat)
  case atStart => exact ⟨0, rfl, Nat.zero_le _, World.ownsRow_nil _ _ _ _, Below.refl _ _⟩
  case round =>
    obtain ⟨j, rfl, hj, HS, HB⟩ := hrel
    have sz := HB.out.size
    have c0r := (HB.out.cell (p := ⟨r, 0, none⟩) lr).trans c0
    have lrr : r < wr.heap.size := Nat.lt_of_lt_of_le lr sz
    have lgr : gr < wr.heap.size := Nat.lt_of_lt_of_le lg sz
    obtain ⟨rs, cs, rfl⟩ := own_sl HS.out
    have lf1 := frs_len 0 (A.who.take j)
    rw [List.length_take] at lf1
    by_cases hlt : j < A.who.length
    · have k1 : (j : Int) < (A.who.length : Int) := by omega
      obtain ⟨x, hx⟩ : ∃ x, A.who[j]? = some x := ⟨_, List.getElem?_eq_getElem hlt⟩
      have cx := (HB.out.cell (p := ⟨gr, j, none⟩) lg).trans (HR.out.who hx)
      have hn0 := frs_next hx
      clear hx
      by_cases h0 : x = 0
      · have HN : Hid (frs 0 (A.who.take (j + 1)) = frs 0 (A.who.take j) ++ [(j : Int)]) := by rw [if_pos h0] at hn0; exact hn0
        clear hn0
        subst h0
        obtain ⟨hi0, hz0, hz1, hz2⟩ := HI0.out
        go_wp2_with (at_builtin; refine stop_of ?_)
        unfold Hid
        refine wpList_append_lies _ rfl _ _ 65 rfl w.heap.size 3 i0 _ 1 8 Try.underlying65 hi0 hz0 hz1 hz2 rfl (by decide) (.slice rs (frs 0 (A.who.take j)).length cs) (frs 0 (A.who.take j)).length ((frs 0 (A.who.take j)).map (Value.int .i64)) rfl (World.ownsRow.alloc HS.out _) ⟨wr.heap.size, 0, none⟩ 1 1 [.int .i64 j] rfl rfl (fun k u hu => ?_) (fun u hu => ?_) (by omega) (by unfold maxLen; omega) (by omega) (by rw [World.size_alloc]; omega) _ rfl ?_
        · rw [ad_add, Nat.zero_add]
          exact new_cell _ #[.int .i64 j] _ k u hu
        · simp at hu; subst hu; rfl
        intro g2 cp w3 hown hgr hat hl3
        have hmid : Below w.heap.size w (wr.alloc (.cells #[.int .i64 (j : Int)] 3)) := HB.out.alloc sz _
        have HBn : Hid (Below w.heap.size w w3) := hmid.grown hgr hmid.size (fun k hk => (World.ownsRow.lt HS.out k hk).1)
        have HSn : Hid (w3.ownsRow w.heap.size 3 1 (.slice (some ⟨g2, 0, none⟩) ((frs 0 (A.who.take j)).length + 1) cp) (frs 0 (A.who.take (j + 1))).length ((frs 0 (A.who.take (j + 1))).map (Value.int .i64))) := by
          have hn := HN.out
          show World.ownsRow ..
          rw [hn, List.map_append, List.length_append]
          exact hown
        clear hown hgr hat hmid HS HB HN hi0 hz0 hz1 hz2
        go_wp2
        go_roundw
        case rel => exact ⟨j + 1, by go_num, by omega, HSn, HBn⟩
        case measure => simp [intOf]; omega
      · have HN : Hid (frs 0 (A.who.take (j + 1)) = frs 0 (A.who.take j)) := by rw [if_neg h0, List.append_nil] at hn0; exact hn0
        clear hn0
        have z : (x == 0) = false := by simpa using h0
        have HSn : Hid (wr.ownsRow w.heap.size 3 1 (.slice rs (frs 0 (A.who.take j)).length cs) (frs 0 (A.who.take (j + 1))).length ((frs 0 (A.who.take (j + 1))).map (Value.int .i64))) := by
          have hn := HN.out
          show World.ownsRow ..
          rw [hn]
          exact HS.out
        clear HS HN
        go_wp2
        go_roundw
        case rel => exact ⟨j + 1, by go_num, by omega, HSn, HB⟩
        case measure => simp [intOf]; omega
    · obtain rfl : j = A.who.length := by omega
      have k1 : ¬ (A.who.length : Int) < (A.who.length : Int) := by omega
      rw [List.take_length] at HS ⊢
      go_wp2
      go_ret
      exact ⟨⟨_, rfl, HS.out⟩, HB.out⟩
end Go.Proofs.Ytaenoenchbfeiaa
