/- The document's Shade. -/
import Derived.Test.YtiglmffnhbegiaaDoorHRRefs
namespace Go.Proofs.YtiglmffnhbegiaaDoor
open Go.RowKit

theorem rcell_any (x : Int) (w : World) (hx : Rng x) : Calls Tryd.prog 77 #[.int .u64 x] w fun e w' => e = .returned (.tuple #[.int .i64 (cellV x), .bool (refB x)]) ∧ w' = w := by
  have := refCell_any x w hx
  rw [cellN_is, isRef_is] at this
  exact this
set_option maxRecDepth 100000 in
set_option maxHeartbeats 8000000 in
theorem rshadeM_any {db rb g : Nat} {rv : Value} {row : List Int} {h : List Cl} (l : List Int) (ra : Option Addr) (c : Nat) (w : World) (H : DM w db rb g rv row h) (hW : WR w ra l) (hl : l.length ≤ 100000) (hrl : row.length ≤ 500000) :
    Calls Tryd.prog 26 #[.pointer (some ⟨db, 0, none⟩), .slice ra l.length c] w fun e w' => DLayO db rb g rv row h (namL l) w e w' := by
  obtain ⟨b, o, hor, hcs⟩ := hW
  have HCS : Hid (∀ (j : Nat) (x : Int), l[j]? = some x → b < w.heap.size ∧ w.cell? ⟨b, o + j, none⟩ = some (.int .u64 x) ∧ Rng x) := hcs
  have HOR : Hid (l.length = 0 ∨ ra = some ⟨b, o, none⟩) := hor
  have HM : Hid (DM w db rb g rv row h) := H
  have H0 : Hid (NmI w w (.slice none 0 0) (namL (l.take 0))) := ⟨⟨rfl, .inl ⟨rfl, rfl⟩⟩, Below.refl _ _⟩
  clear hor hcs H
  obtain ⟨i0, hi0, hz0, hz1, hz2⟩ := info_parts infoI
  go_enter Tryd.func26, Tryd.ntmps26
  go_wp2_with fail
  go_loopw [5, 6, 7, 8] (fun v i _ _ wr => ∃ (j : Nat) (r : Option Addr) (c' : Nat), i = .int .i64 j ∧ j ≤ l.length ∧ v = .slice r (namL (l.take j)).length c' ∧ Hid (NmI w wr (.slice r (namL (l.take j)).length c') (namL (l.take j)))) (fun _ i _ _ _ => l.length - (intOf i).toNat)
  case atStart => exact ⟨0, none, 0, rfl, Nat.zero_le _, by simp [namL], H0⟩
  case round =>
    clear H0
    obtain ⟨j, r, c', rfl, hj, rfl, HI⟩ := hrel
    have hnl := nam_len l j
    by_cases hjl : j < l.length
    · have k1 : (j : Int) < (l.length : Int) := by omega
      obtain ⟨x, hx⟩ : ∃ x, l[j]? = some x := ⟨_, List.getElem?_eq_getElem hjl⟩
      obtain ⟨g1, y1, y2⟩ := HCS.out j x hx
      have hra : ra = some ⟨b, o, none⟩ := HOR.out.resolve_left (by omega)
      have y3 : wr.cell? ⟨b, o + j, none⟩ = some (.int .u64 x) := (HI.out.b.cell (p := ⟨b, o + j, none⟩) g1).trans y1
      have HC : Hid (Calls Tryd.prog 77 #[.int .u64 x] wr fun e w' => e = .returned (.tuple #[.int .i64 (cellV x), .bool (refB x)]) ∧ w' = wr) := rcell_any x wr y2
      have HN : Hid _ := nam_take hx
      rw [hra]
      generalize hL : namL (l.take j) = L at HI HN hnl ⊢
      cases hb : refB x
      · rw [hb] at HC HN
        clear hb hx y1 hra hL
        go_wp2_with fail
        refine Calls.mono HC.out ?_
        rintro e w' ⟨rfl, hw'⟩
        rw [hw']
        clear hw'
        go_wp2_with fail
        have e : namL (l.take (j + 1)) = L := by rw [HN.out]; simp
        refine ⟨⟨j + 1, r, c', by go_num, by omega, by rw [e], ?_⟩, by simp [intOf]; omega⟩
        rw [e]
        exact HI
      · rw [hb] at HC HN
        clear hb hx y1 hra hL
        have hs : w.heap.size ≤ wr.heap.size := HI.out.b.size
        go_wp2_with fail
        refine Calls.mono HC.out ?_
        rintro e w' ⟨rfl, hw'⟩
        rw [hw']
        clear hw'
        go_wp2_with (at_builtin; refine stop_of ?_)
        unfold Hid
        refine wpList_append_lies _ rfl _ _ 26 rfl w.heap.size 3 i0 (.int .i64 0) 1 8 Tryd.underlying26 hi0 hz0 hz1 hz2 rfl (by decide) (.slice r L.length c') L.length (iL L) rfl (HI.out.o.alloc _) ⟨wr.heap.size, 0, none⟩ 1 1 [.int .i64 (cellV x)] rfl rfl (fun j u hu => ?_) (fun u hu => ?_) (by omega) (by unfold maxLen; omega) (by omega) (by rw [World.size_alloc]; omega) _ rfl ?_
        · rw [ad_add, Nat.zero_add]
          exact new_cell _ #[.int .i64 (cellV x)] _ j u hu
        · simp at hu; subst hu; rfl
        intro g cap w2 hown hgr hat hlt2
        have b2 : Below w.heap.size w w2 := (HI.out.b.alloc hs _).grown hgr (by rw [World.size_alloc]; omega) (fun g hg => (HI.out.o.lt g hg).1)
        have HE : Hid (NmI w w2 (.slice (some ⟨g, 0, none⟩) (L.length + 1) cap) (L ++ [cellV x])) := ⟨by simpa using hown, b2⟩
        clear hown hgr hat hlt2 b2
        go_wp2_with fail
        have e : namL (l.take (j + 1)) = L ++ [cellV x] := by rw [HN.out]; simp
        refine ⟨⟨j + 1, some ⟨g, 0, none⟩, cap, by go_num, by omega, by rw [e]; simp, ?_⟩, by simp [intOf]; omega⟩
        rw [e, show (L ++ [cellV x]).length = L.length + 1 by simp]
        exact HE
    · have e : j = l.length := by omega
      subst e
      have k1 : ¬ ((l.length : Int) < (l.length : Int)) := by omega
      rw [List.take_length] at HI hnl ⊢
      have hB := HI.out.b
      have hso := HI.out.o
      have S1 := DkS.of HM.out hB
      obtain ⟨b1, o1, h1, h2⟩ := own_rx hso rfl
      have HC : Hid (Calls Tryd.prog 32 #[.pointer (some ⟨db, 0, none⟩), .slice r (namL l).length c'] wr fun e w' => DLayO db rb g rv row h (namL l) wr e w') := by
        refine rlay_any (namL l) r c' b1 o1 wr S1.m h1 h2 (fun hne => ?_) (by omega)
        have hpos : 0 < (namL l).length := List.length_pos_iff.2 hne
        have hr : r = some ⟨b1, o1, none⟩ := h1.resolve_left (by omega)
        have hbl : (Value.slice r (namL l).length c').ownBlock = some b1 := by rw [hr]; rfl
        obtain ⟨cs, q1⟩ := own_blk hso hbl
        obtain ⟨cs2, r1, _⟩ := S1.m.r.r
        refine ⟨ty_ne q1 S1.m.m (by decide), ty_ne q1 r1 (by decide), fun e => ?_⟩
        obtain ⟨cs3, q3⟩ := HM.out.q.blk e
        have := heap_lt q3
        have := (hso.lt b1 hbl).1
        omega
      have HB : Hid (Below w.heap.size w wr) := hB
      clear hB hso S1 h1 h2
      go_wp2_with fail
      refine Calls.mono HC.out ?_
      rintro e w2 ⟨r2, c2, rv', rfl, ho, hs, hd⟩
      have HR : Hid (DLayO db rb g rv row h (namL l) w (.returned (.slice r2 (layL h (namL l)).length c2)) w2) := ⟨r2, c2, rv', rfl, own_mono ho HB.out.size, (DkS.of HM.out HB.out).trans hs, hd⟩
      clear ho hs hd
      go_wp2_with fail
      go_ret
      exact HR.out
end Go.Proofs.YtiglmffnhbegiaaDoor
