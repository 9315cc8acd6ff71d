/- The contract of Make (of WBase).; slices.Repeat of one word. -/
import Derived.Test.YtdlnkdcgipaoeaaDoorHLEnd
import Derived.Test.YtdlnkdcgipaoeaaDoorHWMath
import Derived.Below
import Derived.Deep.QuietTactic
import Derived.WalkKit
import Derived.WalkSpells
import Derived.WalkLawsBesides
import Derived.Laws.CopyOwn
import Derived.Deep.RegionLaw
/- The contract of Make (of WBase). -/
namespace Go.Proofs.YtdlnkdcgipaoeaaDoor
open Go.RowKit

/-- The table lies in its block as its initialiser lays it. -/
def Tab (w : World) : Prop := ∀ t : Nat, t < 9 → w.cell? ⟨0, t * 2, none⟩ = some (.int .i64 (lo t)) ∧ w.cell? ⟨0, t * 2 + 1, none⟩ = some (.int .i64 (hi t))

theorem ret_we {a b c d : Int} (h : a = b) (h' : c = d) : Ending.returned (.tuple #[.int .u64 a, .int .i64 c]) = .returned (.tuple #[.int .u64 b, .int .i64 d]) := by rw [h, h']

set_option maxHeartbeats 400000 in
theorem isTag_any (t : Int) (w : World) (h0 : 0 ≤ t) (h1 : t ≤ 255) :
    Calls Tryd.prog 74 #[.int .u8 t] w fun e w' => e = .returned (.bool (isTagB t)) ∧ w' = w := by
  go_enter Tryd.func74, Tryd.ntmps74
  go_wp2
  all_goals go_ret
  all_goals exact ⟨ret_bool (by unfold isTagB; rw [Bool.eq_iff_iff]; simp; omega), rfl⟩

set_option maxHeartbeats 400000 in
theorem isNumberOf_any (t n : Int) (w : World) (ht : 1 ≤ t) (ht' : t ≤ 8) (hT : Tab w) :
    Calls Tryd.prog 75 #[.int .u8 t, .int .i64 n] w fun e w' => e = .returned (.bool (mayB t n)) ∧ w' = w := by
  obtain ⟨k, rfl⟩ := Int.eq_ofNat_of_zero_le (show 0 ≤ t by omega)
  obtain ⟨c1, c2⟩ := hT k (by omega)
  clear hT
  have hk : k < 9 := by omega
  generalize hl : lo k = l at *
  generalize hh : hi k = h at *
  have Hl : Hid (lo k = l) := hl
  have Hh : Hid (hi k = h) := hh
  clear hl hh
  go_enter Tryd.func75, Tryd.ntmps75
  go_wp2
  all_goals go_ret
  all_goals exact ⟨ret_bool (by unfold mayB; rw [Hl.out, Hh.out, Bool.eq_iff_iff]; simp; omega), rfl⟩

set_option maxHeartbeats 400000 in
theorem make_any (t n : Int) (w : World) (h0 : 0 ≤ t) (h1 : t ≤ 255) (hT : Tab w) :
    Calls Tryd.prog 29 #[.int .u8 t, .int .i64 n] w fun e w' => e = .returned (.tuple #[.int .u64 (mkW t n), .int .i64 (mkE t n)]) ∧ w' = w := by
  have HT : Hid (Tab w) := hT
  clear hT
  cases h : isTagB t
  · go_enter Tryd.func29, Tryd.ntmps29
    go_wp2_with (first | (go_at_call 74; refine (isTag_any _ _ (by omega) (by omega)).mono ?_; rintro e w' ⟨rfl, rfl⟩))
    go_ret2
    exact ⟨ret_we (by simp [mkW, h]) (by simp [mkE, h]), rfl⟩
  · have ht := isTag_iff.1 h
    obtain ⟨h1', h8⟩ := ht
    cases hm : mayB t n
    · go_enter Tryd.func29, Tryd.ntmps29
      go_wp2_with (first | (go_at_call 74; refine (isTag_any _ _ (by omega) (by omega)).mono ?_; rintro e w' ⟨rfl, rfl⟩) | (go_at_call 75; refine (isNumberOf_any _ _ _ (by omega) (by omega) HT.out).mono ?_; rintro e w' ⟨rfl, rfl⟩))
      go_ret2
      exact ⟨ret_we (by simp [mkW, h, hm]) (by simp [mkE, h, hm]), rfl⟩
    · go_enter Tryd.func29, Tryd.ntmps29
      go_wp2_with (first | (go_at_call 74; refine (isTag_any _ _ (by omega) (by omega)).mono ?_; rintro e w' ⟨rfl, rfl⟩) | (go_at_call 75; refine (isNumberOf_any _ _ _ (by omega) (by omega) HT.out).mono ?_; rintro e w' ⟨rfl, rfl⟩))
      go_ret2
      exact ⟨ret_we (by rw [or_tag n t (by omega) (by omega)]; simp [mkW, h, hm]) (by simp [mkE, h, hm]), rfl⟩

end Go.Proofs.YtdlnkdcgipaoeaaDoor

/- slices.Repeat of one word. -/
namespace Go.Proofs.YtdlnkdcgipaoeaaDoor
open Go.RowKit

theorem infoWd : (Tryd.prog.info? 56).map (fun i => (i.zero, i.size, i.bytes)) = some (some (.int .u64 0), 1, 8) := by kernel_rfl
theorem dr_made {W : World} {base g n t : Nat} {xs : List Value} {u0 : Value} (h : W.ownsRow base t 1 (.slice (some ⟨g, 0, none⟩) n n) n xs) (hx : ∀ u ∈ xs, u = u0) : DR W t g n (fun _ u => u = u0) := by
  rcases h.2 with ⟨h0, _⟩ | ⟨g', cap', cur, hv, _, hh, _, _, hsz, ht⟩
  · cases h0
  · cases hv
    refine ⟨cur, hh, by simpa using hsz, fun k u hk => hx u ?_⟩
    have hk2 : k < cur.size := (Array.getElem?_eq_some_iff.1 hk).1
    rw [← ht, List.take_of_length_le (by simp; omega)]
    exact Array.mem_toList_iff.2 (Array.mem_of_getElem? hk)
theorem made_zero (n : Nat) : ∀ u ∈ (madeCells (Value.int .u64 0).cells (n * 1)).toList, u = .int .u64 0 := by
  intro u hu
  unfold madeCells at hu
  rw [Array.toList_map] at hu
  obtain ⟨i, _, rfl⟩ := List.mem_map.1 hu
  show (#[Value.int .u64 0])[i % 1]! = _
  rw [Nat.mod_one]; rfl
theorem infoI1 : (Tryd.prog.info? 56).map (·.size) = some 1 := by kernel_rfl
/-- A row whose first k cells hold u. -/
def Fill (W : World) (g n k : Nat) (u : Value) : Prop := ∃ cur : List Value, W.heap[g]? = some (.cells cur.toArray 56 (0, 0)) ∧ cur.length = n ∧ ∀ j, j < k → cur[j]? = some u
theorem fill_splice {cur : List Value} {n k : Nat} {u : Value} (hl : cur.length = n) (hk : k ≤ n) (hu : ∀ j, j < k → cur[j]? = some u) (m : Nat) (hm : m ≤ k) (hmn : k + m ≤ n) : (splice cur k (cur.take m)).length = n ∧ ∀ j, j < k + m → (splice cur k (cur.take m))[j]? = some u := by
  have hlt : (cur.take m).length = m := by simp; omega
  refine ⟨by rw [length_splice _ _ _ (by omega)]; exact hl, fun j hj => ?_⟩
  unfold splice
  by_cases h : j < k
  · rw [List.getElem?_append_left (by simp; omega), List.getElem?_take_of_lt h]; exact hu j h
  · rw [List.getElem?_append_right (by simp; omega), List.getElem?_append_left (by simp; omega), List.getElem?_take_of_lt (by simp; omega)]
    exact hu _ (by simp; omega)
theorem cut_from {W : World} (g n k : Nat) (hk : k < n) : (Instr.slice 92 (.slice (some ⟨g, 0, none⟩) n n) (some (.int .i64 (k : Int))) none none).run Tryd.prog W = .ok (.slice (some ⟨g, k, none⟩) (n - k) (n - k)) W := by
  have e : ¬ n = k := by omega
  rw [run_slice_l (P := Tryd.prog) (w := W) 92 _ n n (by kernel_rfl) .i64 k (by omega) (by omega)]
  go_simp
theorem cut_to {W : World} (g n k : Nat) (hk : k < n) : (Instr.slice 92 (.slice (some ⟨g, 0, none⟩) n n) none (some (.int .i64 (k : Int))) none).run Tryd.prog W = .ok (.slice (some ⟨g, 0, none⟩) k n) W := by
  rw [run_slice_h (P := Tryd.prog) (w := W) 92 _ n n (by kernel_rfl) .i64 k (by omega) (by omega)]
  go_simp
theorem copy_fill {W : World} {B g n k : Nat} {u : Int} (hF : Fill W g n k (.int .u64 u)) (hk : k < n) (hB : B ≤ g) : ∃ W', (Builtin.copy_ #[92, 92] 3 #[.slice (some ⟨g, k, none⟩) (n - k) (n - k), .slice (some ⟨g, 0, none⟩) k n]).run Tryd.prog W = .ok (.int .i64 ((min k (n - k) : Nat) : Int)) W' ∧ Fill W' g n (k + min k (n - k)) (.int .u64 u) ∧ Below B W W' := by
  obtain ⟨cur, hg, hl, hu⟩ := hF
  have hc : (cur.take (min k (n - k))).length = min k (n - k) := by simp; omega
  have hr := run_copy_row (P := Tryd.prog) W 92 92 3 56 g k (n - k) (n - k) ⟨g, 0, none⟩ k n cur.toArray 56 (cur.take (min k (n - k))) Tryd.underlying92 infoI1 hg hc (fun j v hj => by
    have hlt : j < (cur.take (min k (n - k))).length := (List.getElem?_eq_some_iff.1 hj).1
    rw [List.getElem?_take_of_lt (by omega)] at hj
    rw [ad_add, Nat.zero_add]
    exact heap_cell hg (by simpa using hj)) (by simp; omega) (fun v hv => by
    obtain ⟨j, hj, rfl⟩ := List.mem_iff_getElem.1 hv
    have hj2 := List.getElem?_eq_getElem hj
    rw [List.getElem?_take_of_lt (by omega), hu j (by omega)] at hj2
    rw [← Option.some.inj hj2]; rfl)
  obtain ⟨f1, f2⟩ := fill_splice hl (by omega) hu (min k (n - k)) (by omega) (by omega)
  have e : List.take k cur.toArray.toList ++ List.take (min k (n - k)) cur ++ List.drop (k + (List.take (min k (n - k)) cur).length) cur.toArray.toList = splice cur k (cur.take (min k (n - k))) := List.append_assoc ..
  rw [e, hc] at hr
  exact ⟨_, hr, ⟨_, (setRow_heap W g _ _ _ _ hg), f1, f2⟩, below_setRow (Below.refl _ _) hB _⟩
theorem copy_first {W : World} {B g n b : Nat} {u : Int} (hF : Fill W g n 0 (.int .u64 u)) (hB : B ≤ g) (hv : W.cell? ⟨b, 0, none⟩ = some (.int .u64 u)) : ∃ W', (Builtin.copy_ #[92, 92] 3 #[.slice (some ⟨g, 0, none⟩) n n, .slice (some ⟨b, 0, none⟩) 1 1]).run Tryd.prog W = .ok (.int .i64 ((min 1 n : Nat) : Int)) W' ∧ Fill W' g n (min 1 n) (.int .u64 u) ∧ Below B W W' := by
  obtain ⟨cur, hg, hl, hu⟩ := hF
  have hc : (List.replicate (min 1 n) (Value.int .u64 u)).length = min 1 n := by simp
  have hr := run_copy_row (P := Tryd.prog) W 92 92 3 56 g 0 n n ⟨b, 0, none⟩ 1 1 cur.toArray 56 (List.replicate (min 1 n) (Value.int .u64 u)) Tryd.underlying92 infoI1 hg hc (fun j v hj => by
    have hlt : j < (List.replicate (min 1 n) (Value.int .u64 u)).length := (List.getElem?_eq_some_iff.1 hj).1
    have : j = 0 := by omega
    subst this
    rw [List.getElem?_replicate, if_pos (by omega)] at hj
    rw [ad_add, ← Option.some.inj hj]
    exact hv) (by simp; omega) (fun v hv => by
    rw [List.eq_of_mem_replicate hv]; rfl)
  refine ⟨_, hr.trans (by rw [hc]; rfl), ⟨_, (setRow_heap W g _ _ _ _ hg), ?_, ?_⟩, below_setRow (Below.refl _ _) hB _⟩
  · simp; omega
  · intro j hj
    have : j = 0 := by omega
    subst this
    have : min 1 n = 1 := by omega
    rw [this]; simp
def MulOk (P : Program) (f : Nat) : Prop := ∀ (x y : Nat) (w : World), x < 18446744073709551616 → y < 18446744073709551616 → Calls P f #[.int .u64 x, .int .u64 y] w fun e w' => e = .returned (.tuple #[.int .u64 ((x * y / 18446744073709551616 : Nat) : Int), .int .u64 ((x * y % 18446744073709551616 : Nat) : Int)]) ∧ w' = w
set_option maxRecDepth 100000 in
set_option maxHeartbeats 8000000 in
theorem repeat_any (v : Int) (n b : Nat) (w : World) (hM : MulOk Tryd.prog 76) (hb : b < w.heap.size) (hv : w.cell? ⟨b, 0, none⟩ = some (.int .u64 v)) (hn : n ≤ 1000000) :
    Calls Tryd.prog 30 #[.slice (some ⟨b, 0, none⟩) 1 1, .int .i64 n] w fun e w' => (∃ g, w.heap.size ≤ g ∧ e = .returned (.slice (some ⟨g, 0, none⟩) n n) ∧ DR w' 56 g n (fun _ u => u = .int .u64 v)) ∧ Below w.heap.size w w' := by
  obtain ⟨i0, hi0, hz0, hz1, hz2⟩ := info_parts infoWd
  have HM : Hid (Calls Tryd.prog 76 #[.int .u64 1, .int .u64 n] w fun e w' => e = .returned (.tuple #[.int .u64 0, .int .u64 n]) ∧ w' = w) := by
    refine Calls.mono (hM 1 n w (by omega) (by omega)) ?_
    rintro e w' ⟨rfl, rfl⟩
    refine ⟨?_, rfl⟩
    rw [Nat.one_mul, Nat.div_eq_of_lt (by omega), Nat.mod_eq_of_lt (by omega)]; rfl
  clear hM
  have n0 : ¬ (n : Int) < 0 := by omega
  have n1 : ¬ (n : Int) > 9223372036854775807 := by omega
  go_enter Tryd.func30, Tryd.ntmps30
  go_wp2_with fail
  refine Calls.mono HM.out ?_
  rintro e w1 ⟨rfl, hw1⟩
  rw [hw1]
  clear hw1 HM
  go_wp2_with (at_make; refine stop_of ?_)
  unfold Hid
  refine wpList_make_full _ rfl _ _ 92 rfl w.heap.size 56 i0 (.int .u64 0) 1 Tryd.underlying92 hi0 hz0 hz1 .i64 .i64 _ _ n rfl rfl rfl rfl (by rw [hz2]; omega) (by unfold maxLen; omega) (Nat.le_refl _) ?_
  intro w2 hown hgr
  have hd2 := dr_made hown (made_zero _)
  have hb2 : Below w.heap.size w w2 := grown_low hgr (fun g hg => by cases hg) (Nat.le_refl _)
  obtain ⟨cs, hcs, hsz, _⟩ := hd2
  have hg2 : w2.heap[w.heap.size]? = some (.cells cs.toList.toArray 56 (0, 0)) := by simpa using hcs
  have hl2 : cs.toList.length = n := by simpa using hsz
  generalize cs.toList = cur at *
  clear hown hgr hcs hsz
  have hv2 : w2.cell? ⟨b, 0, none⟩ = some (.int .u64 v) := (hb2.cell (p := ⟨b, 0, none⟩) hb).trans hv
  obtain ⟨W3, hr3, hF3, hb3⟩ := copy_first (B := w.heap.size) (n := n) (u := v) ⟨cur, hg2, hl2, fun j hj => by omega⟩ (Nat.le_refl _) hv2
  have HF3 : Hid (Fill W3 w.heap.size n (min 1 n) (.int .u64 v)) := hF3
  have HB3 : Hid (Below w.heap.size w W3) := hb2.trans hb3
  clear hF3 hb3 hb2 hg2 hl2 hv2
  go_wp2
  go_loopw [8] (fun i wr => ∃ k : Nat, i = .int .i64 k ∧ min 1 n ≤ k ∧ k ≤ n ∧ Hid (Fill wr w.heap.size n k (.int .u64 v)) ∧ Hid (Below w.heap.size w wr)) (fun i _ => n - (intOf i).toNat)
  case atStart => exact ⟨min 1 n, rfl, by omega, by omega, HF3, HB3⟩
  case round =>
    obtain ⟨k, rfl, hk0, hk1, HF, HB⟩ := hrel
    by_cases hlt : k < n
    · have i1 : (k : Int) < (n : Int) := by omega
      have i2 : ¬ n = k := by omega
      have i3 : (k : Int) ≤ (n : Int) := by omega
      obtain ⟨W4, hr4, hF4, hb4⟩ := copy_fill (W := wr.drew) (B := w.heap.size) (show Fill wr.drew _ _ _ _ from HF.out) hlt (Nat.le_refl _)
      have HF4 : Hid (Fill W4 w.heap.size n (k + min k (n - k)) (.int .u64 v)) := hF4
      have HB4 : Hid (Below w.heap.size w W4) := (show Below _ w wr.drew from ⟨HB.out.os, HB.out.tape, HB.out.output, HB.out.size, HB.out.block⟩).trans hb4
      have c1 := fun W => cut_from (W := W) w.heap.size n k hlt
      have c2 := fun W => cut_to (W := W) w.heap.size n k hlt
      clear hF4 hb4
      generalize hm : min k (n - k) = m at *
      have i6 : 1 ≤ m := by omega
      have i7 : k + m ≤ n := by omega
      have i4 : m ≤ 1000000 := by omega
      have i5 : (k : Int) + (m : Int) ≤ 9223372036854775807 := by omega
      clear hm
      go_wp2
      go_region
      go_wp2
      go_roundw
      case rel => exact ⟨k + m, by go_num, by omega, by omega, HF4, HB4⟩
      case measure => simp [intOf]; omega
    · have i1 : ¬ (k : Int) < (n : Int) := by omega
      obtain rfl : k = n := by omega
      go_wp2
      go_ret
      obtain ⟨cur4, hg4, hl4, hu4⟩ := HF.out
      refine ⟨⟨w.heap.size, Nat.le_refl _, rfl, cur4.toArray, hg4, by simpa using hl4, fun j u hj => ?_⟩, HB.out⟩
      have hj2 : j < k := by
        have := (Array.getElem?_eq_some_iff.1 hj).1
        simp at this; omega
      have := hu4 j hj2
      rw [List.getElem?_toArray] at hj
      rw [this] at hj
      exact (Option.some.inj hj).symm
end Go.Proofs.YtdlnkdcgipaoeaaDoor
