/- A list is laid once more. -/
import Derived.Test.YtaenoenchbfeiaaHABack
namespace Go.Proofs.Ytaenoenchbfeiaa
open Go.RowKit

set_option maxRecDepth 100000 in
set_option maxHeartbeats 4000000 in
theorem cloneI_any (xs : List Value) (v : Value) (n : Nat) (w : World) (hl : n ≤ 1000000) (hO : w.ownsRow 0 3 1 v n xs) (h1c : ∀ u ∈ xs, u.oneCell' = true) :
    Calls Try.prog 47 #[v] w fun e w' => (∃ v', e = .returned v' ∧ w'.ownsRow w.heap.size 3 1 v' n xs) ∧ Below w.heap.size w w' := by
  rcases hO.2 with ⟨rfl, rfl⟩ | ⟨g, ca, cur, rfl, hb, hh, hn, hm, hs, ht⟩
  · have hx : xs = [] := List.eq_nil_of_length_eq_zero (by simpa using hO.1)
    subst hx
    have qT : ∀ (w : World), (binOp .eql 65 (.slice none 0 0) (.slice none 0 0)).run Try.prog w = .ok (.bool true) w := fun w => Lib.run_eql_slice_nil w 65 _ none 0 0 0 0 Try.underlying65
    clear hO
    go_enter Try.func47, Try.ntmps47
    go_wp2
    go_ret
    exact ⟨⟨_, rfl, World.ownsRow_nil _ _ _ _⟩, Below.refl _ _⟩
  · have hcell : ∀ (j : Nat) (u : Value), xs[j]? = some u → w.cell? ⟨g, j, none⟩ = some u := fun j u hj => own_cell hO hj
    have hxl := hO.1
    have lg := heap_lt hh
    obtain ⟨i1, hi1, hy0, hy1, hy2⟩ := info_parts infoI
    have HC : Hid (∀ (j : Nat) (u : Value), xs[j]? = some u → w.cell? ⟨g, j, none⟩ = some u) := hcell
    have H1 : Hid (∀ u ∈ xs, u.oneCell' = true) := h1c
    clear hO hb hh hm hs ht hcell h1c
    have qT : ∀ (w : World), (binOp .eql 65 (.slice (some ⟨g, 0, none⟩) n ca) (.slice none 0 0)).run Try.prog w = .ok (.bool false) w := fun w => Lib.run_eql_slice_nil w 65 _ (some ⟨g, 0, none⟩) n ca 0 0 Try.underlying65
    go_enter Try.func47, Try.ntmps47
    go_wp2_with (at_builtin; refine stop_of ?_)
    unfold Hid
    have al := (Below.refl _ w).alloc (Nat.le_refl w.heap.size) (.cells #[] 3)
    have hw : (w.alloc (.cells #[] 3)).ownsRow w.heap.size 3 1 (.slice (some ⟨w.heap.size, 0, none⟩) 0 0) 0 [] := ⟨by simp, .inr ⟨w.heap.size, 0, #[], rfl, Nat.le_refl _, heap_alloc_new _ _, Nat.le_refl _, by unfold maxLen; omega, rfl, rfl⟩⟩
    refine wpList_append_own _ rfl _ _ 65 rfl w.heap.size 3 i1 (.int .i64 0) 1 8 Try.underlying65 hi1 hy0 hy1 hy2 rfl (by decide) _ 0 [] rfl hw ⟨g, 0, none⟩ n ca xs rfl hxl (fun j u hj => ?_) H1.out (by unfold maxLen; omega) (by omega) al.size ?_
    · rw [ad_add, Nat.zero_add, al.cell (p := ⟨g, j, none⟩) lg]
      exact HC.out j u hj
    intro v' w' hown hgr _
    rw [Nat.zero_add, List.nil_append] at hown
    have HB : Hid (Below w.heap.size w w') := al.grown hgr al.size (fun k hk => by cases hk; exact Nat.le_refl _)
    have HO : Hid (w'.ownsRow w.heap.size 3 1 v' n xs) := hown
    clear hown hgr hw al
    go_wp2
    go_ret
    exact ⟨⟨_, rfl, HO.out⟩, HB.out⟩
set_option maxRecDepth 100000 in
set_option maxHeartbeats 4000000 in
theorem cloneW_any (xs : List Value) (v : Value) (n : Nat) (w : World) (hl : n ≤ 1000000) (hO : w.ownsRow 0 103 2 v n xs) (h1c : ∀ u ∈ xs, u.oneCell' = true) :
    Calls Try.prog 48 #[v] w fun e w' => (∃ v', e = .returned v' ∧ w'.ownsRow w.heap.size 103 2 v' n xs) ∧ Below w.heap.size w w' := by
  rcases hO.2 with ⟨rfl, rfl⟩ | ⟨g, ca, cur, rfl, hb, hh, hn, hm, hs, ht⟩
  · have hx : xs = [] := List.eq_nil_of_length_eq_zero (by simpa using hO.1)
    subst hx
    have qT : ∀ (w : World), (binOp .eql 60 (.slice none 0 0) (.slice none 0 0)).run Try.prog w = .ok (.bool true) w := fun w => Lib.run_eql_slice_nil w 60 _ none 0 0 0 0 Try.underlying60
    clear hO
    go_enter Try.func48, Try.ntmps48
    go_wp2
    go_ret
    exact ⟨⟨_, rfl, World.ownsRow_nil _ _ _ _⟩, Below.refl _ _⟩
  · have hcell : ∀ (j : Nat) (u : Value), xs[j]? = some u → w.cell? ⟨g, j, none⟩ = some u := fun j u hj => own_cell hO hj
    have hxl := hO.1
    have lg := heap_lt hh
    obtain ⟨i1, hi1, hy0, hy1, hy2⟩ := info_parts infoW
    have HC : Hid (∀ (j : Nat) (u : Value), xs[j]? = some u → w.cell? ⟨g, j, none⟩ = some u) := hcell
    have H1 : Hid (∀ u ∈ xs, u.oneCell' = true) := h1c
    clear hO hb hh hm hs ht hcell h1c
    have qT : ∀ (w : World), (binOp .eql 60 (.slice (some ⟨g, 0, none⟩) n ca) (.slice none 0 0)).run Try.prog w = .ok (.bool false) w := fun w => Lib.run_eql_slice_nil w 60 _ (some ⟨g, 0, none⟩) n ca 0 0 Try.underlying60
    go_enter Try.func48, Try.ntmps48
    go_wp2_with (at_builtin; refine stop_of ?_)
    unfold Hid
    have al := (Below.refl _ w).alloc (Nat.le_refl w.heap.size) (.cells #[] 103)
    have hw : (w.alloc (.cells #[] 103)).ownsRow w.heap.size 103 2 (.slice (some ⟨w.heap.size, 0, none⟩) 0 0) 0 [] := ⟨by simp, .inr ⟨w.heap.size, 0, #[], rfl, Nat.le_refl _, heap_alloc_new _ _, Nat.le_refl _, by unfold maxLen; omega, rfl, rfl⟩⟩
    refine wpList_append_own _ rfl _ _ 60 rfl w.heap.size 103 i1 (.agg #[.int .i64 0, .int .i64 0]) 2 16 Try.underlying60 hi1 hy0 hy1 hy2 rfl (by decide) _ 0 [] rfl hw ⟨g, 0, none⟩ n ca xs rfl hxl (fun j u hj => ?_) H1.out (by unfold maxLen; omega) (by omega) al.size ?_
    · rw [ad_add, Nat.zero_add, al.cell (p := ⟨g, j, none⟩) lg]
      exact HC.out j u hj
    intro v' w' hown hgr _
    rw [Nat.zero_add, List.nil_append] at hown
    have HB : Hid (Below w.heap.size w w') := al.grown hgr al.size (fun k hk => by cases hk; exact Nat.le_refl _)
    have HO : Hid (w'.ownsRow w.heap.size 103 2 v' n xs) := hown
    clear hown hgr hw al
    go_wp2
    go_ret
    exact ⟨⟨_, rfl, HO.out⟩, HB.out⟩
/-- A list that comes out: in memory of its own. -/
def OutI (l : List Int) (e : Ending) (w w' : World) : Prop := (∃ v', e = .returned v' ∧ w'.ownsRow w.heap.size 3 1 v' l.length (l.map (Value.int .i64))) ∧ Below w.heap.size w w'
def OutW (l : List (Int × Int)) (e : Ending) (w w' : World) : Prop := (∃ v', e = .returned v' ∧ w'.ownsRow w.heap.size 103 2 v' l.length (rowCells l)) ∧ Below w.heap.size w w'
set_option maxRecDepth 100000 in
set_option maxHeartbeats 4000000 in
theorem free_any (a ga gm gf cf n : Nat) (vr : Value) (A : Al) (w : World) (hA : AL w a ga gm gf cf vr n A) (hI : Inv A) :
    Calls Try.prog 16 #[.pointer (some ⟨a, 0, none⟩)] w fun e w' => OutI (frs 0 A.who) e w w' := by
  have c1 := heap_cell (j := 1) hA.obj rfl
  have la := heap_lt hA.obj
  have hlen := frs_len 0 A.who
  have hl2 := hI.len
  have HC : Hid _ := cloneI_any ((frs 0 A.who).map (Value.int .i64)) _ (frs 0 A.who).length w (by omega) hA.fr (fun u hu => by obtain ⟨x, _, rfl⟩ := List.mem_map.1 hu; rfl)
  clear hA hI
  generalize frs 0 A.who = zs at *
  go_enter Try.func16, Try.ntmps16
  go_wp2_with fail
  refine Calls.mono HC.out ?_
  rintro e w1 ⟨⟨v', rfl, ho⟩, hb⟩
  have HF : Hid (w1.ownsRow w.heap.size 3 1 v' zs.length (zs.map (Value.int .i64)) ∧ Below w.heap.size w w1) := ⟨ho, hb⟩
  clear ho hb HC
  go_wp2
  go_ret
  exact ⟨⟨_, rfl, HF.out.1⟩, HF.out.2⟩
set_option maxRecDepth 100000 in
set_option maxHeartbeats 4000000 in
theorem waiting_any (a ga gm gf cf n : Nat) (vr : Value) (A : Al) (w : World) (hA : AL w a ga gm gf cf vr n A) (hrow : A.row.length ≤ 1000) :
    Calls Try.prog 18 #[.pointer (some ⟨a, 0, none⟩)] w fun e w' => OutW A.row e w w' := by
  have c2 := heap_cell (j := 2) hA.obj rfl
  have la := heap_lt hA.obj
  have HC : Hid _ := cloneW_any (rowCells A.row) _ A.row.length w (by omega) hA.rw (rowCells_one _)
  clear hA
  go_enter Try.func18, Try.ntmps18
  go_wp2_with fail
  refine Calls.mono HC.out ?_
  rintro e w1 ⟨⟨v', rfl, ho⟩, hb⟩
  have HF : Hid (w1.ownsRow w.heap.size 103 2 v' A.row.length (rowCells A.row) ∧ Below w.heap.size w w1) := ⟨ho, hb⟩
  clear ho hb HC
  go_wp2
  go_ret
  exact ⟨⟨_, rfl, HF.out.1⟩, HF.out.2⟩
end Go.Proofs.Ytaenoenchbfeiaa
