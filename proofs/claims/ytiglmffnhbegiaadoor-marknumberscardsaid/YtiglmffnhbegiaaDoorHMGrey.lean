/- Grey: the row, laid once more. -/
import Derived.Test.YtiglmffnhbegiaaDoorHMScanL
namespace Go.Proofs.YtiglmffnhbegiaaDoor
open Go.RowKit

set_option maxRecDepth 100000 in
set_option maxHeartbeats 4000000 in
theorem cloneI_any (l : List Int) (v : Value) (w : World) (hl : l.length ≤ 1000000) (hO : RQ w v l) :
    Calls Tryd.prog 82 #[v] w fun e w' => (∃ v', e = .returned v' ∧ w'.ownsRow w.heap.size 3 1 v' l.length (iL l)) ∧ Below w.heap.size w w' := by
  rcases hO with ⟨rfl, rfl⟩ | ⟨g, off, ca, cs, rfl, hh, hn, hs, hcs⟩
  · have qT : ∀ (w : World), (binOp .eql 26 (.slice none 0 0) (.slice none 0 0)).run Tryd.prog w = .ok (.bool true) w := fun w => Lib.run_eql_slice_nil w 26 _ none 0 0 0 0 Tryd.underlying26
    go_enter Tryd.func82, Tryd.ntmps82
    go_wp2
    go_ret
    exact ⟨⟨_, rfl, World.ownsRow_nil _ _ _ _⟩, Below.refl _ _⟩
  · have hcell : ∀ (j : Nat) (u : Value), (iL l)[j]? = some u → w.cell? ⟨g, off + j, none⟩ = some u := fun j u hj => heap_cell hh (hcs j u hj)
    have hxl : (iL l).length = l.length * 1 := by simp
    have h1c : ∀ u ∈ iL l, u.oneCell' = true := fun u hu => by
      obtain ⟨x, _, rfl⟩ := List.mem_map.1 hu
      rfl
    have lg := heap_lt hh
    obtain ⟨i1, hi1, hy0, hy1, hy2⟩ := info_parts infoI
    have HC : Hid (∀ (j : Nat) (u : Value), (iL l)[j]? = some u → w.cell? ⟨g, off + j, none⟩ = some u) := hcell
    have H1 : Hid (∀ u ∈ iL l, u.oneCell' = true) := h1c
    clear hh hs hcs hcell h1c
    have qT : ∀ (w : World), (binOp .eql 26 (.slice (some ⟨g, off, none⟩) l.length ca) (.slice none 0 0)).run Tryd.prog w = .ok (.bool false) w := fun w => Lib.run_eql_slice_nil w 26 _ (some ⟨g, off, none⟩) l.length ca 0 0 Tryd.underlying26
    go_enter Tryd.func82, Tryd.ntmps82
    go_wp2_with (at_builtin; refine stop_of ?_)
    unfold Hid
    have al := (Below.refl _ w).alloc (Nat.le_refl w.heap.size) (.cells #[] 3)
    have hw : (w.alloc (.cells #[] 3)).ownsRow w.heap.size 3 1 (.slice (some ⟨w.heap.size, 0, none⟩) 0 0) 0 [] := ⟨by simp, .inr ⟨w.heap.size, 0, #[], rfl, Nat.le_refl _, heap_alloc_new _ _, Nat.le_refl _, by unfold maxLen; omega, rfl, rfl⟩⟩
    refine wpList_append_own _ rfl _ _ 26 rfl w.heap.size 3 i1 (.int .i64 0) 1 8 Tryd.underlying26 hi1 hy0 hy1 hy2 rfl (by decide) _ 0 [] rfl hw ⟨g, off, none⟩ l.length ca (iL l) rfl hxl (fun j u hj => ?_) H1.out (by unfold maxLen; omega) (by omega) al.size ?_
    · rw [ad_add, al.cell (p := ⟨g, off + j, none⟩) lg]
      exact HC.out j u hj
    intro v' w' hown hgr _
    rw [Nat.zero_add, List.nil_append] at hown
    have HB : Hid (Below w.heap.size w w') := al.grown hgr al.size (fun k hk => by cases hk; exact Nat.le_refl _)
    have HO : Hid (w'.ownsRow w.heap.size 3 1 v' l.length (iL l)) := hown
    clear hown hgr hw al
    go_wp2
    go_ret
    exact ⟨⟨_, rfl, HO.out⟩, HB.out⟩
set_option maxRecDepth 100000 in
set_option maxHeartbeats 4000000 in
theorem grey_any {mb hb ab : Nat} {rv : Value} {row : List Int} {h : List Cl} (w : World) (H : MM w mb hb ab rv row h) (hl : row.length ≤ 1000000) :
    Calls Tryd.prog 36 #[.pointer (some ⟨mb, 0, none⟩)] w fun e w' => OutL w row e w' := by
  have lm := heap_lt H.m
  obtain ⟨ra, c, rfl⟩ := H.q.sl
  have m1 : w.cell? ⟨mb, 1, none⟩ = some (.slice ra row.length c) := heap_cell H.m rfl
  have HC : Hid (Calls Tryd.prog 82 #[.slice ra row.length c] w fun e w' => (∃ v', e = .returned v' ∧ w'.ownsRow w.heap.size 3 1 v' row.length (iL row)) ∧ Below w.heap.size w w') := cloneI_any row _ w hl H.q
  clear H
  go_enter Tryd.func36, Tryd.ntmps36
  go_wp2_with fail
  refine Calls.mono HC.out ?_
  rintro e w' ⟨⟨v', rfl, ho⟩, hb'⟩
  obtain ⟨r', c', rfl⟩ := own_sl ho
  have HO : Hid (w'.ownsRow w.heap.size 3 1 (.slice r' row.length c') row.length (iL row)) := ho
  have HB : Hid (Below w.heap.size w w') := hb'
  clear ho hb'
  go_wp2_with fail
  go_ret
  exact ⟨_, _, rfl, HO.out, HB.out⟩
end Go.Proofs.YtiglmffnhbegiaaDoor
