/- The document's shake: Begin, Born. -/
import Derived.Test.YtnhbmkakjhkgdaaHKRef2
namespace Go.Proofs.Ytnhbmkakjhkgdaa
open Go.RowKit

/-- All up to j stand as new ones. -/
def NW (L : List (Bool × Bool)) (j : Nat) : Prop := ∀ (i : Nat) p, i < j → L[i]? = some p → p = (false, false)
set_option maxRecDepth 100000 in
set_option maxHeartbeats 4000000 in
theorem refBegin_any (r : Nat) (v : Value) (L : List (Bool × Bool)) (s : Sk) (w : World) (h : DL w r v L s.c) (hm : Mt s L) (hk : Ok s) : Calls Try.prog 19 #[.pointer (some ⟨r, 0, none⟩)] w fun e w' => e = .returned (.int .i64 (begM s).1) ∧ RP r v (begM s).2 w w' := by
  have HS : Hid (RP r v s w w) := h.same hm
  have lr := h.lt
  have c1 := h.c1
  obtain ⟨ra, ca, rfl⟩ := h.sl
  cases hc : s.c
  · have e : begM s = (0, bg s s.n) := by unfold begM; rw [if_neg (by rw [hc]; decide)]; rfl
    rw [e]
    dsimp only
    rw [hc] at c1
    have hn := hm.1
    have h8 := hk.le
    have fz := h.fz 1
    have HD0 : Hid (DL (w.setCell ⟨r, 1, none⟩ (.bool true)) r (.slice ra L.length ca) L true) := h.setC true
    have HB0 : Hid (Below 0 w (w.setCell ⟨r, 1, none⟩ (.bool true))) := (Below.refl 0 w).setCell (p := ⟨r, 1, none⟩) (Nat.zero_le _) _
    have HF0 : Hid (∀ g, ¬ DF r (.slice ra L.length ca) g → (w.setCell ⟨r, 1, none⟩ (.bool true)).heap[g]? = w.heap[g]?) := fun g hg => Below.heap_setCell _ _ _ _ (fun e => hg (.inl e))
    obtain ⟨W, hW⟩ : ∃ W, W = w.setCell ⟨r, 1, none⟩ (.bool true) := ⟨_, rfl⟩
    have lW : r < W.heap.size := by rw [hW, World.size_setCell]; exact lr
    have HSz : Hid (W.heap.size = w.heap.size) := by show _ = _; rw [hW, World.size_setCell]
    have HOk : Hid (Ok s) := hk
    go_enter Try.func19, Try.ntmps19
    go_upto_region 4 with fail
    rw [← hW] at HD0 HB0 HF0 ⊢
    clear h hc e hW fz c1 hm hk HS
    go_wp2
    go_loopw [3] (fun i wr => ∃ (j : Nat) (M : List (Bool × Bool)), i = .int .i64 j ∧ j ≤ s.n ∧ M.length = L.length ∧ Hid (NW M j) ∧ Hid (DL wr r (.slice ra L.length ca) M true) ∧ Hid (Below 0 w wr) ∧ Hid (∀ g, ¬ DF r (.slice ra L.length ca) g → wr.heap[g]? = w.heap[g]?)) (fun i _ => s.n - (intOf i).toNat)
    case atStart => exact ⟨0, L, rfl, Nat.zero_le _, rfl, fun _ _ h => absurd h (Nat.not_lt_zero _), HD0, HB0, HF0⟩
    case round =>
      clear HD0 HB0 HF0
      obtain ⟨j, M, rfl, hj, hM, HN, HD, HB, HF⟩ := hrel
      have c0 := HD.out.c0
      have lr2 := HD.out.lt
      by_cases hjl : j < s.n
      · have k1 : (j : Int) < (L.length : Int) := by omega
        obtain ⟨p, hp⟩ : ∃ p, M[j]? = some p := ⟨_, List.getElem?_eq_getElem (by omega)⟩
        obtain ⟨g, rfl, lg, hgr, d1, d2, fz⟩ := HD.out.at hp
        have f1 := fz (j * 2)
        have f2 := fz (j * 2 + 1)
        have hset := HD.out.set1 hgr hp false
        have hp' : (M.set j (false, p.2))[j]? = some (false, p.2) := List.getElem?_set_self (List.getElem?_eq_some_iff.1 hp).1
        have hset2 := hset.set2 hgr hp' false
        rw [List.set_set] at hset2
        have HD2 : Hid (DL ((wr.setCell ⟨g, j * 2, none⟩ (.bool false)).setCell ⟨g, j * 2 + 1, none⟩ (.bool false)) r (.slice (some ⟨g, 0, none⟩) L.length ca) (M.set j (false, false)) true) := hset2
        have HB2 : Hid (Below 0 w ((wr.setCell ⟨g, j * 2, none⟩ (.bool false)).setCell ⟨g, j * 2 + 1, none⟩ (.bool false))) := (HB.out.setCell (p := ⟨g, j * 2, none⟩) (Nat.zero_le _) _).setCell (p := ⟨g, j * 2 + 1, none⟩) (Nat.zero_le _) _
        have HF2 : Hid (∀ k, ¬ DF r (.slice (some ⟨g, 0, none⟩) L.length ca) k → ((wr.setCell ⟨g, j * 2, none⟩ (.bool false)).setCell ⟨g, j * 2 + 1, none⟩ (.bool false)).heap[k]? = w.heap[k]?) := fun k hk => by
          have hkg : k ≠ g := fun e => hk (.inr (by rw [e]; rfl))
          rw [Below.heap_setCell _ _ _ _ hkg, Below.heap_setCell _ _ _ _ hkg]
          exact HF.out k hk
        have HN2 : Hid (NW (M.set j (false, false)) (j + 1)) := fun i q hi hq => by
          by_cases e : i = j
          · subst e
            rw [List.getElem?_set_self (by omega)] at hq
            cases hq
            rfl
          · rw [List.getElem?_set_ne (fun e' => e e'.symm)] at hq
            exact HN.out i q (by omega) hq
        clear hset hset2 hp hp' fz HD HB HF HN
        go_wp2
        go_roundw
        case rel => exact ⟨j + 1, M.set j (false, false), by go_num, by omega, by rw [List.length_set]; exact hM, HN2, HD2, HB2, HF2⟩
        case measure => simp [intOf]; omega
      · have k1 : ¬ (j : Int) < (L.length : Int) := by omega
        obtain rfl : j = s.n := by omega
        have HE : Hid (RP r (.slice ra L.length ca) (bg s s.n) w wr) := by
          refine ⟨_, M, HD.out, ⟨by rw [hM]; exact hn, fun _ i p hp => ?_⟩, fun g _ hg => HF.out g hg, HB.out, fun _ h => .inl h⟩
          have hi := (List.getElem?_eq_some_iff.1 hp).1
          rw [HN.out i p (by omega) hp]
          unfold bg
          dsimp only
          rw [if_pos (by omega), if_pos (by omega)]
          rfl
        clear HD HB HF HN
        go_wp2
        go_ret
        exact ⟨rfl, by have := HE.out; rw [hn] at this; exact this⟩
  · have e : begM s = (140, s) := by unfold begM; rw [if_pos hc]
    rw [e]
    dsimp only
    rw [hc] at c1
    clear h e hc hm hk
    go_enter Try.func19, Try.ntmps19
    go_wp2
    go_ret
    exact ⟨rfl, HS.out⟩
theorem infoT : (Try.prog.info? 54).map (fun i => (i.zero, i.size, i.bytes)) = some (some (.agg #[.bool false, .bool false]), 2, 2) := by kernel_rfl
theorem mt_born {s : Sk} {L : List (Bool × Bool)} (h : Mt s L) {x : Bool} {p : Nat} (hx : s.c = true → x = !s.l p) (ha : s.a (s.n + 1) = false) : Mt ⟨s.n + 1, s.c, put s.l (s.n + 1) (s.l p), s.a⟩ (L ++ [(x, false)]) := by
  refine ⟨by rw [List.length_append, h.1]; rfl, fun hc k q hk => ?_⟩
  dsimp only at hc ⊢
  by_cases e : k < L.length
  · rw [List.getElem?_append_left e] at hk
    rw [put_ne (by have := h.1; omega)]
    exact h.2 hc k q hk
  · have hl := (List.getElem?_eq_some_iff.1 hk).1
    simp at hl
    obtain rfl : k = L.length := by omega
    rw [List.getElem?_append_right (Nat.le_refl _), Nat.sub_self] at hk
    cases hk
    rw [h.1, put_same, ha, hx hc]
theorem rowB_app (L M : List (Bool × Bool)) : rowB (L ++ M) = rowB L ++ rowB M := by unfold rowB; rw [List.flatMap_append]
theorem born_put {w w3 : World} {r g cp p : Nat} {ra : Option Addr} {ca : Nat} {L : List (Bool × Bool)} {s : Sk} {o : Obj} (h : DL w r (.slice ra L.length ca) L s.c) (hm : Mt s L) (x : Bool) (hx : s.c = true → x = !s.l p) (ha : s.a (s.n + 1) = false)
    (hgr : (w.alloc o).grownBy w3 (Value.slice ra L.length ca).ownBlock) (hown : w3.ownsRow 0 54 2 (.slice (some ⟨g, 0, none⟩) (L.length + 1) cp) (L.length + 1) (rowB L ++ [.bool x, .bool false])) (hat : (Value.slice ra L.length ca).ownBlock = some g ∨ g = (w.alloc o).heap.size) :
    w3.heap[r]? = some (.cells #[.slice ra L.length ca, .bool s.c] 30 (0, 0)) ∧ RP r (.slice ra L.length ca) ⟨s.n + 1, s.c, put s.l (s.n + 1) (s.l p), s.a⟩ w (w3.setCell ⟨r, 0, none⟩ (.slice (some ⟨g, 0, none⟩) (L.length + 1) cp)) := by
  have al : Below 0 w (w.alloc o) := (Below.refl 0 w).alloc (Nat.zero_le _) _
  have hb : Below 0 w w3 := al.trans (grown_low hgr (fun _ _ => Nat.zero_le _) (Nat.zero_le _))
  have hs : w.heap.size ≤ (w.alloc o).heap.size := al.size
  have hk : ∀ k, k < w.heap.size → (Value.slice ra L.length ca).ownBlock ≠ some k → w3.heap[k]? = w.heap[k]? := fun k hk hn => (hgr.block k (by omega) (fun e => hn e.symm)).trans (Below.heap_alloc _ _ _ hk)
  have hob : w3.heap[r]? = some (.cells #[.slice ra L.length ca, .bool s.c] 30 (0, 0)) := by
    refine (hk r h.lt (fun e => ?_)).trans h.obj
    obtain ⟨cs, hc⟩ := own_blk h.row e
    exact ty_ne hc h.obj (by decide) rfl
  obtain ⟨cs, hcs⟩ := own_blk hown rfl
  have hgr2 : g ≠ r := ty_ne hcs hob (by decide)
  refine ⟨hob, .slice (some ⟨g, 0, none⟩) (L.length + 1) cp, L ++ [(x, false)], ⟨?_, ?_⟩, mt_born hm hx ha, fun k hk' hn => ?_, hb.setCell (p := ⟨r, 0, none⟩) (Nat.zero_le _) _, fun k hk' => ?_⟩
  · rw [set_atC hob]; rfl
  · rw [rowB_app, List.length_append]
    exact own_same hown (fun k hk' => Below.heap_setCell _ _ _ _ (by cases hk'; exact hgr2))
  · rw [Below.heap_setCell _ _ _ _ (show k ≠ r from fun e => hn (.inl e))]
    exact hk k hk' (fun e => hn (.inr e))
  · cases hk'
    rcases hat with h' | h'
    · exact .inl h'
    · exact .inr (by rw [h']; exact hs)
set_option maxRecDepth 100000 in
set_option maxHeartbeats 8000000 in
theorem refBorn_any (r : Nat) (v : Value) (L : List (Bool × Bool)) (s : Sk) (p : Int) (w : World) (h : DL w r v L s.c) (hm : Mt s L) (hk : Ok s) : Calls Try.prog 18 #[.pointer (some ⟨r, 0, none⟩), .int .i64 p] w fun e w' => e = .returned (.tuple #[.int .i64 (bornM s p).1.1, .int .i64 (bornM s p).1.2]) ∧ RP r v (bornM s p).2 w w' := by
  have HS : Hid (RP r v s w w) := h.same hm
  have HD : Hid (DL w r v L s.c) := h
  have HM : Hid (Mt s L) := hm
  have lr := h.lt
  have c0 := h.c0
  have c1 := h.c1
  have hn := hm.1
  have h8 := hk.le
  have HN : Hid (L.length = s.n) := hn
  have h8L : L.length ≤ 8 := by omega
  obtain ⟨ra, ca, rfl⟩ := h.sl
  by_cases hn8 : s.n = 8
  · have e : bornM s p = ((0, 2), s) := by unfold bornM; rw [if_pos hn8]
    rw [e]
    dsimp only
    have k1 : (L.length : Int) ≥ 8 := by omega
    clear h e hm hk HD HM hn
    go_enter Try.func18, Try.ntmps18
    go_wp2
    go_ret2
    exact ⟨rfl, HS.out⟩
  · have k1 : ¬ (L.length : Int) ≥ 8 := by omega
    by_cases hp : p ≠ 0 ∧ isT s p = false
    · have e : bornM s p = ((0, 140), s) := by unfold bornM; rw [if_neg hn8, if_pos hp]
      rw [e]
      dsimp only
      clear h e hm hk HD HM
      by_cases hp0 : p < 0
      · clear hp hn
        go_enter Try.func18, Try.ntmps18
        go_wp2
        go_ret2
        exact ⟨rfl, HS.out⟩
      · have k2 : p > (L.length : Int) := Decidable.byContradiction fun hh => by
          have := isT_iff.2 (show 1 ≤ p ∧ p ≤ s.n from ⟨by omega, by omega⟩)
          rw [hp.2] at this; cases this
        clear hp hn
        go_enter Try.func18, Try.ntmps18
        go_wp2
        go_ret2
        exact ⟨rfl, HS.out⟩
    · have hp1 : 0 ≤ p ∧ p ≤ s.n := by
        by_cases e0 : p = 0
        · omega
        · have : isT s p = true := by
            cases e : isT s p
            · exact absurd ⟨e0, e⟩ hp
            · rfl
          have := isT_iff.1 this
          omega
      have e : bornM s p = ((((s.n + 1 : Nat) : Int), 0), ⟨s.n + 1, s.c, put s.l (s.n + 1) (s.l p.toNat), s.a⟩) := by unfold bornM; rw [if_neg hn8, if_neg hp]
      rw [e]
      dsimp only
      have ha : s.a (s.n + 1) = false := by
        cases e : s.a (s.n + 1)
        · rfl
        · have := hk.far (s.n + 1) (by omega)
          rw [hk.ask _ e] at this; cases this
      have k2 : ¬ p < 0 := by omega
      have k3 : ¬ p > (L.length : Int) := by omega
      obtain ⟨i0, hi0, hz0, hz1, hz2⟩ := info_parts infoT
      have HA : Hid (s.a (s.n + 1) = false) := ha
      rcases Bool.eq_false_or_eq_true s.c with hc | hc
      rotate_left
      · rw [hc] at c1
        have HX : Hid (s.c = true → false = !s.l p.toNat) := fun h => by rw [hc] at h; cases h
        clear h e hm hk ha hp HS hn
        clear hc
        go_enter Try.func18, Try.ntmps18
        go_upto_region 6 with fail
        go_wp2_with (at_builtin; refine stop_of ?_)
        unfold Hid
        refine wpList_append_lies _ rfl _ _ 28 rfl 0 54 i0 (.agg #[.bool false, .bool false]) 2 2 Try.underlying28 hi0 hz0 hz1 hz2 rfl (by decide) (.slice ra L.length ca) L.length (rowB L) rfl (HD.out.row.alloc _) ⟨w.heap.size, 0, none⟩ 1 1 [.bool false, .bool false] rfl rfl (fun k u hu => ?_) (fun u hu => ?_) (by omega) (by unfold maxLen; omega) (by omega) (Nat.zero_le _) _ rfl ?_
        · rw [ad_add, Nat.zero_add]
          exact new_cell _ #[.bool false, .bool false] _ k u hu
        · simp at hu; rcases hu with rfl | rfl <;> rfl
        intro g cp w3 hown hgr hat hl3
        obtain ⟨hob, HE0⟩ := born_put HD.out HM.out false HX.out HA.out hgr hown hat
        have HE : Hid _ := HE0
        clear HE0
        have c3 := heap_cell (j := 0) hob rfl
        have f3 : w3.frozen? ⟨r, 0, none⟩ = false := by simp [World.frozen?, hob]
        have l3 := heap_lt hob
        have d3 : (w3.setCell ⟨r, 0, none⟩ (.slice (some ⟨g, 0, none⟩) (L.length + 1) cp)).cell? ⟨r, 0, none⟩ = some (.slice (some ⟨g, 0, none⟩) (L.length + 1) cp) := heap_cell (set_atC hob _) rfl
        have l4 : r < (w3.setCell ⟨r, 0, none⟩ (.slice (some ⟨g, 0, none⟩) (L.length + 1) cp)).heap.size := by rw [World.size_setCell]; exact l3
        clear hown hgr hat hob HD HM HX HA c0 c1
        go_wp2
        go_ret2
        exact ⟨by rw [← HN.out]; first | rfl | (push_cast; rfl), HE.out⟩
      · rw [hc] at c1
        by_cases hp0 : p = 0
        · subst hp0
          have HX : Hid (s.c = true → true = !s.l (0 : Int).toNat) := fun _ => by show true = !s.l 0; rw [hk.nil]; rfl
          clear h e hm hk ha hp HS hn
          clear hc
          go_enter Try.func18, Try.ntmps18
          go_upto_region 6 with fail
          go_wp2_with (at_builtin; refine stop_of ?_)
          unfold Hid
          refine wpList_append_lies _ rfl _ _ 28 rfl 0 54 i0 (.agg #[.bool false, .bool false]) 2 2 Try.underlying28 hi0 hz0 hz1 hz2 rfl (by decide) (.slice ra L.length ca) L.length (rowB L) rfl (HD.out.row.alloc _) ⟨w.heap.size, 0, none⟩ 1 1 [.bool true, .bool false] rfl rfl (fun k u hu => ?_) (fun u hu => ?_) (by omega) (by unfold maxLen; omega) (by omega) (Nat.zero_le _) _ rfl ?_
          · rw [ad_add, Nat.zero_add]
            exact new_cell _ #[.bool true, .bool false] _ k u hu
          · simp at hu; rcases hu with rfl | rfl <;> rfl
          intro g cp w3 hown hgr hat hl3
          obtain ⟨hob, HE0⟩ := born_put HD.out HM.out true HX.out HA.out hgr hown hat
          have HE : Hid _ := HE0
          clear HE0
          have c3 := heap_cell (j := 0) hob rfl
          have f3 : w3.frozen? ⟨r, 0, none⟩ = false := by simp [World.frozen?, hob]
          have l3 := heap_lt hob
          have d3 : (w3.setCell ⟨r, 0, none⟩ (.slice (some ⟨g, 0, none⟩) (L.length + 1) cp)).cell? ⟨r, 0, none⟩ = some (.slice (some ⟨g, 0, none⟩) (L.length + 1) cp) := heap_cell (set_atC hob _) rfl
          have l4 : r < (w3.setCell ⟨r, 0, none⟩ (.slice (some ⟨g, 0, none⟩) (L.length + 1) cp)).heap.size := by rw [World.size_setCell]; exact l3
          clear hown hgr hat hob HD HM HX HA c0 c1
          go_wp2
          go_ret2
          exact ⟨by rw [← HN.out]; first | rfl | (push_cast; rfl), HE.out⟩
        · obtain ⟨i, hi, hi2⟩ := int1 (t := p) (by omega)
          obtain ⟨q, hq, hq2⟩ := hm.at (i := i) (by omega)
          obtain ⟨gq, rfl, lgq, _, dq, _, _⟩ := h.at hq
          have kp : (p == 0) = false := by simpa using hp0
          have kq : (i : Int) < (L.length : Int) := by omega
          have HX : Hid (s.c = true → (p == 0 || q.1) = !s.l p.toNat) := fun hh => by rw [hq2 hh, hi2, kp]; rfl
          clear hi2 hq hq2 kp
          clear h e hm hk ha hp HS hn
          clear hc
          go_enter Try.func18, Try.ntmps18
          go_upto_region 6 with fail
          go_wp2_with (at_builtin; refine stop_of ?_)
          unfold Hid
          refine wpList_append_lies _ rfl _ _ 28 rfl 0 54 i0 (.agg #[.bool false, .bool false]) 2 2 Try.underlying28 hi0 hz0 hz1 hz2 rfl (by decide) (.slice (some ⟨gq, 0, none⟩) L.length ca) L.length (rowB L) rfl (HD.out.row.alloc _) ⟨w.heap.size, 0, none⟩ 1 1 [.bool (p == 0 || q.1), .bool false] rfl rfl (fun k u hu => ?_) (fun u hu => ?_) (by omega) (by unfold maxLen; omega) (by omega) (Nat.zero_le _) _ rfl ?_
          · rw [ad_add, Nat.zero_add]
            exact new_cell _ #[.bool (p == 0 || q.1), .bool false] _ k u hu
          · simp at hu; rcases hu with rfl | rfl <;> rfl
          intro g cp w3 hown hgr hat hl3
          obtain ⟨hob, HE0⟩ := born_put HD.out HM.out (p == 0 || q.1) HX.out HA.out hgr hown hat
          have HE : Hid _ := HE0
          clear HE0
          have c3 := heap_cell (j := 0) hob rfl
          have f3 : w3.frozen? ⟨r, 0, none⟩ = false := by simp [World.frozen?, hob]
          have l3 := heap_lt hob
          have d3 : (w3.setCell ⟨r, 0, none⟩ (.slice (some ⟨g, 0, none⟩) (L.length + 1) cp)).cell? ⟨r, 0, none⟩ = some (.slice (some ⟨g, 0, none⟩) (L.length + 1) cp) := heap_cell (set_atC hob _) rfl
          have l4 : r < (w3.setCell ⟨r, 0, none⟩ (.slice (some ⟨g, 0, none⟩) (L.length + 1) cp)).heap.size := by rw [World.size_setCell]; exact l3
          clear hown hgr hat hob HD HM HX HA c0 c1
          go_wp2
          go_ret2
          exact ⟨by rw [← HN.out]; first | rfl | (push_cast; rfl), HE.out⟩
end Go.Proofs.Ytnhbmkakjhkgdaa
