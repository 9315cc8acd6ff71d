/- named: the cells that references among some words name. -/
import Derived.Test.YtiglmffnhbegiaaDoorHMRow
namespace Go.Proofs.YtiglmffnhbegiaaDoor
open Go.RowKit

def namL (l : List Int) : List Int := (l.filter refB).map cellV
theorem nam_take {l : List Int} {j : Nat} {x : Int} (hx : l[j]? = some x) : namL (l.take (j + 1)) = namL (l.take j) ++ if refB x = true then [cellV x] else [] := by
  unfold namL
  rw [List.take_add_one, hx]
  simp only [Option.toList_some, List.filter_append, List.map_append]
  congr 1
  cases h : refB x <;> simp [List.filter, h]
theorem nam_len (l : List Int) (j : Nat) : (namL (l.take j)).length ≤ j := by
  unfold namL
  rw [List.length_map]
  exact Nat.le_trans (List.length_filter_le _ _) (by rw [List.length_take]; omega)
/-- A list of ints that comes out, in a row of its own. -/
def OutL (w : World) (l : List Int) (e : Ending) (w' : World) : Prop := ∃ ra c, e = .returned (.slice ra l.length c) ∧ w'.ownsRow w.heap.size 3 1 (.slice ra l.length c) l.length (iL l) ∧ Below w.heap.size w w'
structure NmI (w wr : World) (v : Value) (l : List Int) : Prop where
  o : wr.ownsRow w.heap.size 3 1 v l.length (iL l)
  b : Below w.heap.size w wr
set_option maxRecDepth 100000 in
set_option maxHeartbeats 8000000 in
theorem named_any (l : List Int) (ra : Option Addr) (c : Nat) (w : World) (hW : WR w ra l) (hl : l.length ≤ 100000) (hT : Tab w) :
    Calls Tryd.prog 64 #[.slice ra l.length c] w fun e w' => OutL w (namL l) e w' := by
  obtain ⟨b, o, hor, hcs⟩ := hW
  have HCS : Hid (∀ (j : Nat) (x : Int), l[j]? = some x → b < w.heap.size ∧ w.cell? ⟨b, o + j, none⟩ = some (.int .u64 x) ∧ Rng x) := hcs
  have HOR : Hid (l.length = 0 ∨ ra = some ⟨b, o, none⟩) := hor
  have HT : Hid (Tab w) := hT
  have H0 : Hid (NmI w w (.slice none 0 0) (namL (l.take 0))) := ⟨⟨rfl, .inl ⟨rfl, rfl⟩⟩, Below.refl _ _⟩
  clear hor hcs hT
  obtain ⟨i0, hi0, hz0, hz1, hz2⟩ := info_parts infoI
  go_enter Tryd.func64, Tryd.ntmps64
  go_wp2_with fail
  go_loopw [3, 10, 5, 6, 7] (fun v i _ _ _ wr => ∃ (j : Nat) (r : Option Addr) (c' : Nat), i = .int .i64 j ∧ j ≤ l.length ∧ v = .slice r (namL (l.take j)).length c' ∧ Hid (NmI w wr (.slice r (namL (l.take j)).length c') (namL (l.take j)))) (fun _ i _ _ _ _ => l.length - (intOf i).toNat)
  case atStart => exact ⟨0, none, 0, rfl, Nat.zero_le _, by simp [namL], H0⟩
  case round =>
    clear H0
    obtain ⟨j, r, c', rfl, hj, rfl, HI⟩ := hrel
    have hnl := nam_len l j
    by_cases hjl : j < l.length
    · have k1 : (j : Int) < (l.length : Int) := by omega
      obtain ⟨x, hx⟩ : ∃ x, l[j]? = some x := ⟨_, List.getElem?_eq_getElem hjl⟩
      obtain ⟨g1, y1, y2⟩ := HCS.out j x hx
      have hra : ra = some ⟨b, o, none⟩ := HOR.out.resolve_left (by omega)
      have y3 : wr.cell? ⟨b, o + j, none⟩ = some (.int .u64 x) := (HI.out.b.cell (p := ⟨b, o + j, none⟩) g1).trans y1
      have HC : Hid (Calls Tryd.prog 63 #[.int .u64 x] wr fun e w' => e = .returned (.tuple #[.int .i64 (cellV x), .bool (refB x)]) ∧ w' = wr) := cell_any x wr y2 (HT.out.below HI.out.b)
      have HN : Hid _ := nam_take hx
      rw [hra]
      generalize hL : namL (l.take j) = L at HI HN hnl ⊢
      cases hb : refB x
      · rw [hb] at HC HN
        clear hb hx y1 hra hL
        go_wp2_with fail
        refine Calls.mono HC.out ?_
        rintro e w' ⟨rfl, hw'⟩
        rw [hw']
        clear hw'
        go_wp2_with fail
        go_roundw
        case rel =>
          have e : namL (l.take (j + 1)) = L := by rw [HN.out]; simp
          refine ⟨j + 1, r, c', by go_num, by omega, by rw [e], ?_⟩
          rw [e]
          exact HI
        case measure => simp [intOf]; omega
      · rw [hb] at HC HN
        clear hb hx y1 hra hL
        have hs : w.heap.size ≤ wr.heap.size := HI.out.b.size
        go_wp2_with fail
        refine Calls.mono HC.out ?_
        rintro e w' ⟨rfl, hw'⟩
        rw [hw']
        clear hw'
        go_wp2_with (at_builtin; refine stop_of ?_)
        unfold Hid
        refine wpList_append_lies _ rfl _ _ 26 rfl w.heap.size 3 i0 (.int .i64 0) 1 8 Tryd.underlying26 hi0 hz0 hz1 hz2 rfl (by decide) (.slice r L.length c') L.length (iL L) rfl (HI.out.o.alloc _) ⟨wr.heap.size, 0, none⟩ 1 1 [.int .i64 (cellV x)] rfl rfl (fun j u hu => ?_) (fun u hu => ?_) (by omega) (by unfold maxLen; omega) (by omega) (by rw [World.size_alloc]; omega) _ rfl ?_
        · rw [ad_add, Nat.zero_add]
          exact new_cell _ #[.int .i64 (cellV x)] _ j u hu
        · simp at hu; subst hu; rfl
        intro g cap w2 hown hgr hat hlt2
        have b2 : Below w.heap.size w w2 := (HI.out.b.alloc hs _).grown hgr (by rw [World.size_alloc]; omega) (fun g hg => (HI.out.o.lt g hg).1)
        have HE : Hid (NmI w w2 (.slice (some ⟨g, 0, none⟩) (L.length + 1) cap) (L ++ [cellV x])) := ⟨by simpa using hown, b2⟩
        clear hown hgr hat hlt2 b2
        go_wp2_with fail
        go_roundw
        case rel =>
          have e : namL (l.take (j + 1)) = L ++ [cellV x] := by rw [HN.out]; simp
          refine ⟨j + 1, some ⟨g, 0, none⟩, cap, by go_num, by omega, by rw [e]; simp, ?_⟩
          rw [e, show (L ++ [cellV x]).length = L.length + 1 by simp]
          exact HE
        case measure => simp [intOf]; omega
    · have e : j = l.length := by omega
      subst e
      have k1 : ¬ ((l.length : Int) < (l.length : Int)) := by omega
      rw [List.take_length] at HI ⊢
      go_wp2_with fail
      go_ret
      exact ⟨_, _, rfl, HI.out.o, HI.out.b⟩
end Go.Proofs.YtiglmffnhbegiaaDoor
