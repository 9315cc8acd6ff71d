/- A lent heap: what is read of it; WholeCells.; A list of words that is lent. -/
import Derived.Test.YtdcmkifljcdmmaaGreatDoorGB
import Derived.Laws.StructEq
/- A lent heap: what is read of it; WholeCells. -/
namespace Go.Proofs.YtdcmkifljcdmmaaGreatDoor
open Go.RowKit

abbrev LentW (W : World) (B g : Nat) (H : List Cl) : Prop := W.ownsRow B 55 4 (.slice (some ⟨g, 0, none⟩) (H.length + 2) (H.length + 2)) (H.length + 2) (clCells H ++ mkC)
theorem lent_at {W : World} {B g : Nat} {H : List Cl} (h : LentW W B g H) : ∃ cs, W.heap[g]? = some (.cells cs 55 (0, 0)) ∧ B ≤ g ∧ ∀ (k : Nat) (u : Value), (clCells H ++ mkC)[k]? = some u → cs[k]? = some u := by
  obtain ⟨cs, h1, _, _, _, h5, _, h7⟩ := own_out h
  exact ⟨cs, h1, h5, h7⟩
theorem hr_lent {W : World} {B g : Nat} {H : List Cl} (h : LentW W B g H) (hk : ∀ x ∈ H, OkK x) : HR W (some ⟨g, 0, none⟩) H := by
  obtain ⟨cs, h1, _, h3⟩ := lent_at h
  refine ⟨g, 0, .inr rfl, fun j x hx => ⟨heap_lt h1, ?_, hk x (List.mem_of_getElem? hx)⟩⟩
  obtain ⟨q0, q1, q2, q3⟩ := clCells_at H j x hx
  have e : ∀ (k : Nat) (u : Value), (clCells H)[k]? = some u → cs[k]? = some u := fun k u hu => h3 k u (by rw [List.getElem?_append_left (List.getElem?_eq_some_iff.1 hu).1]; exact hu)
  simp only [Nat.zero_add]
  exact ⟨heap_cell h1 (e _ _ q0), heap_cell h1 (e _ _ q1), heap_cell h1 (e _ _ q2), heap_cell h1 (e _ _ q3)⟩
theorem mark_at {W : World} {B g : Nat} {H : List Cl} (h : LentW W B g H) (j : Nat) (u : Value) (hu : mkC[j]? = some u) : W.cell? ⟨g, H.length * 4 + j, none⟩ = some u := by
  obtain ⟨cs, h1, _, h3⟩ := lent_at h
  refine heap_cell h1 (h3 _ _ ?_)
  rw [List.getElem?_append_right (by rw [clCells_len]; omega), clCells_len, Nat.add_sub_cancel_left]
  exact hu
theorem eqCl_same (a : Int) (w : World) : (binOp .eql 55 (.agg #[.int .u8 0, .int .u8 0, .int .u64 a, .int .u64 0]) (.agg #[.int .u8 0, .int .u8 0, .int .u64 a, .int .u64 0])).run Tryz.prog w = .ok (.bool true) w := by
  have u1 := Tryz.underlying50
  have u2 := Tryz.underlying51
  have u3 := Tryz.underlying53
  have hS : Tryz.prog.underlying 55 = some (.struct (Tryz.prog.fieldsOf 55)) := by kernel_rfl
  have hp : Tryz.prog.stoodInHeld 55 = false := by kernel_rfl
  rw [run_eql_struct, show (10000 : Nat) = 9999 + 1 from rfl, run_equalIn_agg w 9999 55 _ _ hS hp]
  simp only [Program.fieldsOf, Tryz.underlying55]
  have e : (a == a) = true := by simp
  go_simp
set_option maxRecDepth 100000 in
set_option maxHeartbeats 8000000 in
theorem wholeK_any (H : List Cl) (g B : Nat) (rb : Option Addr) (cb : Nat) (w : World) (hl : H.length ≤ 1000000) (h : LentW w B g H) (hk : ∀ x ∈ H, OkK x) (hR : HX w rb H) :
    Calls Tryz.prog 9 #[.slice (some ⟨g, 0, none⟩) H.length (H.length + 2), .slice rb H.length cb] w fun e w' => e = .returned (.bool true) ∧ Below w.heap.size w w' := by
  have HS : Hid _ := sameK_any H H (some ⟨g, 0, none⟩) rb (H.length + 2) cb w (by unfold maxLen; omega) (by unfold maxLen; omega) (hr_lent h hk).hx hR
  rw [decide_eq_true rfl] at HS
  have m0 := mark_at h 0 _ rfl
  have m1 := mark_at h 1 _ rfl
  have m2 := mark_at h 2 _ rfl
  have m3 := mark_at h 3 _ rfl
  have m4 := mark_at h 4 _ rfl
  have m5 := mark_at h 5 _ rfl
  have m6 := mark_at h 6 _ rfl
  have m7 := mark_at h 7 _ rfl
  rw [Nat.add_zero] at m0
  rw [show H.length * 4 + 2 = H.length * 4 + 1 + 1 by omega] at m2
  rw [show H.length * 4 + 3 = H.length * 4 + 1 + 1 + 1 by omega] at m3
  rw [show H.length * 4 + 4 = (H.length + 1) * 4 by omega] at m4
  rw [show H.length * 4 + 5 = (H.length + 1) * 4 + 1 by omega] at m5
  rw [show H.length * 4 + 6 = (H.length + 1) * 4 + 1 + 1 by omega] at m6
  rw [show H.length * 4 + 7 = (H.length + 1) * 4 + 1 + 1 + 1 by omega] at m7
  obtain ⟨cs, h1, _, _⟩ := lent_at h
  have lg := heap_lt h1
  have q1 := eqCl_same 77777771 w
  have q2 := eqCl_same 77777772 w
  clear h hk hR h1
  go_enter Tryz.func9, Tryz.ntmps9
  go_wp2_with fail
  refine Calls.mono HS.out ?_
  rintro e w1 ⟨rfl, hb⟩
  have HB : Hid (Below w.heap.size w w1) := hb
  clear hb HS
  go_wp2
  go_ret
  exact ⟨rfl, HB.out⟩
end Go.Proofs.YtdcmkifljcdmmaaGreatDoor

/- A list of words that is lent. -/
namespace Go.Proofs.YtdcmkifljcdmmaaGreatDoor
open Go.RowKit
set_option maxRecDepth 100000 in
set_option maxHeartbeats 4000000 in
theorem lentV_any (l : List Int) (ra : Option Addr) (ca : Nat) (w : World) (hR : RX (Value.int .u64) w ra l) (hl : l.length ≤ 1000000) :
    Calls Tryz.prog 7 #[.slice ra l.length ca] w fun e w' => LentR 53 1 l.length (l.map (Value.int .u64) ++ [.int .u64 77777771, .int .u64 77777772]) w.heap.size e w' ∧ Below w.heap.size w w' := by
  obtain ⟨i0, hi0, hz0, hz1, hz2⟩ := info_parts infoWd
  obtain ⟨b, o, h1', h2⟩ := hR
  have h1 : l.length ≠ 0 → ra = some ⟨b, o, none⟩ := fun q => h1'.resolve_left q
  have HN : Hid (ra = none → l.length = 0) := fun h => by
    rcases Nat.eq_zero_or_pos l.length with h0 | h0
    · exact h0
    · rw [h1 (by omega)] at h; cases h
  have HC : Hid (∀ w5 : World, Below w.heap.size w w5 → ∀ ad, ra = some ad → ∀ j u, (l.map (Value.int .u64))[j]? = some u → w5.cell? (ad.add j) = some u) := fun w5 h5 ad had j u hu => by
    rw [List.getElem?_map] at hu
    cases hx : l[j]? with
    | none => rw [hx] at hu; cases hu
    | some x =>
      rw [hx] at hu
      cases hu
      obtain ⟨g1, g2⟩ := h2 j x hx
      have := h1 (by have := (List.getElem?_eq_some_iff.1 hx).1; omega)
      rw [this] at had
      cases had
      rw [ad_add]
      exact (h5.cell (p := ⟨b, o + j, none⟩) g1).trans g2
  have HU : Hid (∀ u ∈ l.map (Value.int .u64), u.oneCell' = true) := fun u hu => by
    obtain ⟨x, _, rfl⟩ := List.mem_map.1 hu
    rfl
  have HLn : Hid ((l.map (Value.int .u64)).length = l.length * 1) := by show _ = _; simp
  clear h1 h1' h2
  go_enter Tryz.func7, Tryz.ntmps7
  go_wp2_with (first | (at_make; refine wpList_make_own _ rfl _ _ 23 rfl w.heap.size 53 i0 (.int .u64 0) 1 Tryz.underlying23 hi0 hz0 hz1 .i64 .i64 _ (l.length + 2) rfl rfl (by first | rfl | omega) (by rw [hz2]; omega) (by unfold maxLen; omega) (Nat.le_refl _) ?_; intro w0 hown0 hgrow0; have HB0 : Hid (Below w.heap.size w w0) := (Below.refl _ w).grown hgrow0 (Nat.le_refl _) (fun k hk => by cases hk); have HO0 : Hid (w0.ownsRow w.heap.size 53 1 (.slice (some ⟨w.heap.size, 0, none⟩) 0 (l.length + 2)) 0 []) := hown0; clear hown0 hgrow0) | (at_builtin; refine stop_of ?_))
  unfold Hid
  refine wpList_append_room0 _ rfl _ _ 23 rfl w.heap.size 53 i0 1 Tryz.underlying23 hi0 hz1 w.heap.size 0 (l.length + 2) [] rfl HO0.out ra l.length ca (l.map (Value.int .u64)) rfl HLn.out HN.out (HC.out w0 HB0.out) HU.out (by omega) ?_
  intro w1 hown1 hgr1
  rw [Nat.zero_add, List.nil_append] at hown1
  have HB1 : Hid (Below w.heap.size w w1) := HB0.out.trans (grown_below hgr1 (Nat.le_refl _) HB0.out.size)
  have HO1 : Hid (w1.ownsRow w.heap.size 53 1 (.slice (some ⟨w.heap.size, 0, none⟩) l.length (l.length + 2)) l.length (l.map (Value.int .u64))) := hown1
  clear hown1 hgr1 HO0 HB0
  rw [Nat.zero_add]
  go_wp2_with (at_builtin; refine stop_of ?_)
  unfold Hid
  refine wpList_append_room0 _ rfl _ _ 23 rfl w.heap.size 53 i0 1 Tryz.underlying23 hi0 hz1 w.heap.size l.length (l.length + 2) (l.map (Value.int .u64)) rfl (HO1.out.alloc _) (some ⟨w1.heap.size, 0, none⟩) 2 2 [.int .u64 77777771, .int .u64 77777772] rfl rfl (fun h => by cases h) (fun ad had j u hu => ?_) (fun u hu => ?_) (Nat.le_refl _) ?_
  · cases had
    rw [ad_add, Nat.zero_add]
    exact new_cell _ #[.int .u64 77777771, .int .u64 77777772] _ j u hu
  · simp only [List.mem_cons, List.not_mem_nil, or_false] at hu
    rcases hu with rfl | rfl <;> rfl
  intro w2 hown2 hgr2
  have HB2 : Hid (Below w.heap.size w w2) := HB1.out.trans (((Below.refl _ w1).alloc HB1.out.size _).trans (grown_below hgr2 (Nat.le_refl _) (by rw [World.size_alloc]; have := HB1.out.size; omega)))
  have HO2 : Hid (w2.ownsRow w.heap.size 53 1 (.slice (some ⟨w.heap.size, 0, none⟩) (l.length + 2) (l.length + 2)) (l.length + 2) (l.map (Value.int .u64) ++ [.int .u64 77777771, .int .u64 77777772])) := hown2
  clear hown2 hgr2 HO1 HB1
  go_wp2
  go_ret
  exact ⟨⟨w.heap.size, rfl, HO2.out⟩, HB2.out⟩
/-- A lent list. -/
abbrev LenV (w : World) (B g : Nat) (l : List Int) : Prop := w.ownsRow B 53 1 (.slice (some ⟨g, 0, none⟩) (l.length + 2) (l.length + 2)) (l.length + 2) (l.map (Value.int .u64) ++ [.int .u64 77777771, .int .u64 77777772])
theorem lenV_at {w : World} {B g : Nat} {l : List Int} (h : LenV w B g l) : (∀ (j : Nat) (x : Int), l[j]? = some x → w.cell? ⟨g, j, none⟩ = some (.int .u64 x)) ∧ w.cell? ⟨g, l.length, none⟩ = some (.int .u64 77777771) ∧ w.cell? ⟨g, l.length + 1, none⟩ = some (.int .u64 77777772) ∧ g < w.heap.size ∧ DR w 53 g (l.length + 2) (fun _ _ => True) := by
  obtain ⟨cs, h1, h2, _, _, _, _, h7⟩ := own_out h
  refine ⟨fun j x hx => heap_cell h1 (h7 j _ ?_), heap_cell h1 (h7 _ _ ?_), heap_cell h1 (h7 _ _ ?_), heap_lt h1, cs, h1, by omega, fun _ _ _ => trivial⟩
  · rw [List.getElem?_append_left (by rw [List.length_map]; exact (List.getElem?_eq_some_iff.1 hx).1), List.getElem?_map, hx]; rfl
  · rw [List.getElem?_append_right (by simp)]; simp
  · rw [List.getElem?_append_right (by simp)]; simp
theorem lenV_rx {w : World} {B g : Nat} {l : List Int} (h : LenV w B g l) : RX (Value.int .u64) w (some ⟨g, 0, none⟩) l := ⟨g, 0, .inr rfl, fun j x hx => ⟨(lenV_at h).2.2.2.1, by rw [Nat.zero_add]; exact (lenV_at h).1 j x hx⟩⟩
set_option maxRecDepth 100000 in
set_option maxHeartbeats 8000000 in
theorem wholeV_any (l : List Int) (g B : Nat) (rb : Option Addr) (cb : Nat) (w : World) (hl : l.length ≤ 1000000) (h : LenV w B g l) (hR : RX (Value.int .u64) w rb l) :
    Calls Tryz.prog 10 #[.slice (some ⟨g, 0, none⟩) l.length (l.length + 2), .slice rb l.length cb] w fun e w' => e = .returned (.bool true) ∧ Below w.heap.size w w' := by
  have HS : Hid _ := sameW_any l l (some ⟨g, 0, none⟩) rb (l.length + 2) cb w (by unfold maxLen; omega) (by unfold maxLen; omega) (lenV_rx h) hR
  rw [decide_eq_true rfl] at HS
  obtain ⟨_, m0, m1, lg, _⟩ := lenV_at h
  clear h hR
  go_enter Tryz.func10, Tryz.ntmps10
  go_wp2_with fail
  refine Calls.mono HS.out ?_
  rintro e w1 ⟨rfl, hb⟩
  have HB : Hid (Below w.heap.size w w1) := hb
  clear hb HS
  go_wp2
  go_ret
  exact ⟨rfl, HB.out⟩
end Go.Proofs.YtdcmkifljcdmmaaGreatDoor
