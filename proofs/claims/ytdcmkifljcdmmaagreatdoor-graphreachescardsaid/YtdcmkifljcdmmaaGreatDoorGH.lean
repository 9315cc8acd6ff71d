/- slices.Repeat of one number.; The words of a list, one by one: slices.Values' own iterator.; slices.AppendSeq(nil, slices.Values(l)): l's words in a row of its own. -/
import Derived.Test.YtdcmkifljcdmmaaGreatDoorGG
import Derived.Test.YtdcmkifljcdmmaaGreatDoorHGForm
import Derived.Test.YtdcmkifljcdmmaaGreatDoorHGMover
import Derived.Laws.CopyOwn
import Derived.Deep.RegionLaw
import Derived.RangeFuncNested
import Derived.RangeFuncBound
import Derived.RangeFuncCalls
import Derived.RangeFuncLeaves
import Derived.RangeFuncBox
import Derived.Shelf.Abstract
import Derived.Shelf.RegionOpen
import Derived.OwnWalkIn
import Derived.TacticsInMore
import Derived.LoopNIn
import Derived.LoopIn
import Derived.Maps.AppendAt
/- slices.Repeat of one number. -/
namespace Go.Proofs.YtdcmkifljcdmmaaGreatDoor
open Go.RowKit

theorem infoI1 : (Tryz.prog.info? 3).map (·.size) = some 1 := by kernel_rfl
/-- A row whose first k cells hold u. -/
def Fill (W : World) (g n k : Nat) (u : Value) : Prop := ∃ cur : List Value, W.heap[g]? = some (.cells cur.toArray 3 (0, 0)) ∧ cur.length = n ∧ ∀ j, j < k → cur[j]? = some u
theorem fill_splice {cur : List Value} {n k : Nat} {u : Value} (hl : cur.length = n) (hk : k ≤ n) (hu : ∀ j, j < k → cur[j]? = some u) (m : Nat) (hm : m ≤ k) (hmn : k + m ≤ n) : (splice cur k (cur.take m)).length = n ∧ ∀ j, j < k + m → (splice cur k (cur.take m))[j]? = some u := by
  have hlt : (cur.take m).length = m := by simp; omega
  refine ⟨by rw [length_splice _ _ _ (by omega)]; exact hl, fun j hj => ?_⟩
  unfold splice
  by_cases h : j < k
  · rw [List.getElem?_append_left (by simp; omega), List.getElem?_take_of_lt h]; exact hu j h
  · rw [List.getElem?_append_right (by simp; omega), List.getElem?_append_left (by simp; omega), List.getElem?_take_of_lt (by simp; omega)]
    exact hu _ (by simp; omega)
theorem cut_from {W : World} (g n k : Nat) (hk : k < n) : (Instr.slice 59 (.slice (some ⟨g, 0, none⟩) n n) (some (.int .i64 (k : Int))) none none).run Tryz.prog W = .ok (.slice (some ⟨g, k, none⟩) (n - k) (n - k)) W := by
  have e : ¬ n = k := by omega
  rw [run_slice_l (P := Tryz.prog) (w := W) 59 _ n n (by kernel_rfl) .i64 k (by omega) (by omega)]
  go_simp
theorem cut_to {W : World} (g n k : Nat) (hk : k < n) : (Instr.slice 59 (.slice (some ⟨g, 0, none⟩) n n) none (some (.int .i64 (k : Int))) none).run Tryz.prog W = .ok (.slice (some ⟨g, 0, none⟩) k n) W := by
  rw [run_slice_h (P := Tryz.prog) (w := W) 59 _ n n (by kernel_rfl) .i64 k (by omega) (by omega)]
  go_simp
theorem copy_fill {W : World} {B g n k : Nat} {u : Int} (hF : Fill W g n k (.int .i64 u)) (hk : k < n) (hB : B ≤ g) : ∃ W', (Builtin.copy_ #[59, 59] 3 #[.slice (some ⟨g, k, none⟩) (n - k) (n - k), .slice (some ⟨g, 0, none⟩) k n]).run Tryz.prog W = .ok (.int .i64 ((min k (n - k) : Nat) : Int)) W' ∧ Fill W' g n (k + min k (n - k)) (.int .i64 u) ∧ Below B W W' := by
  obtain ⟨cur, hg, hl, hu⟩ := hF
  have hc : (cur.take (min k (n - k))).length = min k (n - k) := by simp; omega
  have hr := run_copy_row (P := Tryz.prog) W 59 59 3 3 g k (n - k) (n - k) ⟨g, 0, none⟩ k n cur.toArray 3 (cur.take (min k (n - k))) Tryz.underlying59 infoI1 hg hc (fun j v hj => by
    have hlt : j < (cur.take (min k (n - k))).length := (List.getElem?_eq_some_iff.1 hj).1
    rw [List.getElem?_take_of_lt (by omega)] at hj
    rw [ad_add, Nat.zero_add]
    exact heap_cell hg (by simpa using hj)) (by simp; omega) (fun v hv => by
    obtain ⟨j, hj, rfl⟩ := List.mem_iff_getElem.1 hv
    have hj2 := List.getElem?_eq_getElem hj
    rw [List.getElem?_take_of_lt (by omega), hu j (by omega)] at hj2
    rw [← Option.some.inj hj2]; rfl)
  obtain ⟨f1, f2⟩ := fill_splice hl (by omega) hu (min k (n - k)) (by omega) (by omega)
  have e : List.take k cur.toArray.toList ++ List.take (min k (n - k)) cur ++ List.drop (k + (List.take (min k (n - k)) cur).length) cur.toArray.toList = splice cur k (cur.take (min k (n - k))) := List.append_assoc ..
  rw [e, hc] at hr
  exact ⟨_, hr, ⟨_, (setRow_heap W g _ _ _ _ hg), f1, f2⟩, below_setRow (Below.refl _ _) hB _⟩
theorem copy_first {W : World} {B g n b : Nat} {u : Int} (hF : Fill W g n 0 (.int .i64 u)) (hB : B ≤ g) (hv : W.cell? ⟨b, 0, none⟩ = some (.int .i64 u)) : ∃ W', (Builtin.copy_ #[59, 59] 3 #[.slice (some ⟨g, 0, none⟩) n n, .slice (some ⟨b, 0, none⟩) 1 1]).run Tryz.prog W = .ok (.int .i64 ((min 1 n : Nat) : Int)) W' ∧ Fill W' g n (min 1 n) (.int .i64 u) ∧ Below B W W' := by
  obtain ⟨cur, hg, hl, hu⟩ := hF
  have hc : (List.replicate (min 1 n) (Value.int .i64 u)).length = min 1 n := by simp
  have hr := run_copy_row (P := Tryz.prog) W 59 59 3 3 g 0 n n ⟨b, 0, none⟩ 1 1 cur.toArray 3 (List.replicate (min 1 n) (Value.int .i64 u)) Tryz.underlying59 infoI1 hg hc (fun j v hj => by
    have hlt : j < (List.replicate (min 1 n) (Value.int .i64 u)).length := (List.getElem?_eq_some_iff.1 hj).1
    have : j = 0 := by omega
    subst this
    rw [List.getElem?_replicate, if_pos (by omega)] at hj
    rw [ad_add, ← Option.some.inj hj]
    exact hv) (by simp; omega) (fun v hv => by
    rw [List.eq_of_mem_replicate hv]; rfl)
  refine ⟨_, hr.trans (by rw [hc]; rfl), ⟨_, (setRow_heap W g _ _ _ _ hg), ?_, ?_⟩, below_setRow (Below.refl _ _) hB _⟩
  · simp; omega
  · intro j hj
    have : j = 0 := by omega
    subst this
    have : min 1 n = 1 := by omega
    rw [this]; simp
def MulOk (P : Program) (f : Nat) : Prop := ∀ (x y : Nat) (w : World), x < 18446744073709551616 → y < 18446744073709551616 → Calls P f #[.int .u64 x, .int .u64 y] w fun e w' => e = .returned (.tuple #[.int .u64 ((x * y / 18446744073709551616 : Nat) : Int), .int .u64 ((x * y % 18446744073709551616 : Nat) : Int)]) ∧ w' = w
set_option maxRecDepth 100000 in
set_option maxHeartbeats 8000000 in
theorem repeat_any (v : Int) (n b : Nat) (w : World) (hM : MulOk Tryz.prog 84) (hb : b < w.heap.size) (hv : w.cell? ⟨b, 0, none⟩ = some (.int .i64 v)) (hn : n ≤ 1000000) :
    Calls Tryz.prog 73 #[.slice (some ⟨b, 0, none⟩) 1 1, .int .i64 n] w fun e w' => (∃ g, w.heap.size ≤ g ∧ e = .returned (.slice (some ⟨g, 0, none⟩) n n) ∧ DR w' 3 g n (fun _ u => u = .int .i64 v)) ∧ Below w.heap.size w w' := by
  obtain ⟨i0, hi0, hz0, hz1, hz2⟩ := info_parts infoI
  have HM : Hid (Calls Tryz.prog 84 #[.int .u64 1, .int .u64 n] w fun e w' => e = .returned (.tuple #[.int .u64 0, .int .u64 n]) ∧ w' = w) := by
    refine Calls.mono (hM 1 n w (by omega) (by omega)) ?_
    rintro e w' ⟨rfl, rfl⟩
    refine ⟨?_, rfl⟩
    rw [Nat.one_mul, Nat.div_eq_of_lt (by omega), Nat.mod_eq_of_lt (by omega)]; rfl
  clear hM
  have n0 : ¬ (n : Int) < 0 := by omega
  have n1 : ¬ (n : Int) > 9223372036854775807 := by omega
  go_enter Tryz.func73, Tryz.ntmps73
  go_wp2_with fail
  refine Calls.mono HM.out ?_
  rintro e w1 ⟨rfl, hw1⟩
  rw [hw1]
  clear hw1 HM
  go_wp2_with (at_make; refine stop_of ?_)
  unfold Hid
  refine wpList_make_full _ rfl _ _ 59 rfl w.heap.size 3 i0 (.int .i64 0) 1 Tryz.underlying59 hi0 hz0 hz1 .i64 .i64 _ _ n rfl rfl rfl rfl (by rw [hz2]; omega) (by unfold maxLen; omega) (Nat.le_refl _) ?_
  intro w2 hown hgr
  have hd2 := dr_made hown (made_zero _)
  have hb2 : Below w.heap.size w w2 := grown_low hgr (fun g hg => by cases hg) (Nat.le_refl _)
  obtain ⟨cs, hcs, hsz, _⟩ := hd2
  have hg2 : w2.heap[w.heap.size]? = some (.cells cs.toList.toArray 3 (0, 0)) := by simpa using hcs
  have hl2 : cs.toList.length = n := by simpa using hsz
  generalize cs.toList = cur at *
  clear hown hgr hcs hsz
  have hv2 : w2.cell? ⟨b, 0, none⟩ = some (.int .i64 v) := (hb2.cell (p := ⟨b, 0, none⟩) hb).trans hv
  obtain ⟨W3, hr3, hF3, hb3⟩ := copy_first (B := w.heap.size) (n := n) (u := v) ⟨cur, hg2, hl2, fun j hj => by omega⟩ (Nat.le_refl _) hv2
  have HF3 : Hid (Fill W3 w.heap.size n (min 1 n) (.int .i64 v)) := hF3
  have HB3 : Hid (Below w.heap.size w W3) := hb2.trans hb3
  clear hF3 hb3 hb2 hg2 hl2 hv2
  go_wp2
  go_loopw [8] (fun i wr => ∃ k : Nat, i = .int .i64 k ∧ min 1 n ≤ k ∧ k ≤ n ∧ Hid (Fill wr w.heap.size n k (.int .i64 v)) ∧ Hid (Below w.heap.size w wr)) (fun i _ => n - (intOf i).toNat)
  case atStart => exact ⟨min 1 n, rfl, by omega, by omega, HF3, HB3⟩
  case round =>
    obtain ⟨k, rfl, hk0, hk1, HF, HB⟩ := hrel
    by_cases hlt : k < n
    · have i1 : (k : Int) < (n : Int) := by omega
      have i2 : ¬ n = k := by omega
      have i3 : (k : Int) ≤ (n : Int) := by omega
      obtain ⟨W4, hr4, hF4, hb4⟩ := copy_fill (W := wr.drew) (B := w.heap.size) (show Fill wr.drew _ _ _ _ from HF.out) hlt (Nat.le_refl _)
      have HF4 : Hid (Fill W4 w.heap.size n (k + min k (n - k)) (.int .i64 v)) := hF4
      have HB4 : Hid (Below w.heap.size w W4) := (show Below _ w wr.drew from ⟨HB.out.os, HB.out.tape, HB.out.output, HB.out.size, HB.out.block⟩).trans hb4
      have c1 := fun W => cut_from (W := W) w.heap.size n k hlt
      have c2 := fun W => cut_to (W := W) w.heap.size n k hlt
      clear hF4 hb4
      generalize hm : min k (n - k) = m at *
      have i6 : 1 ≤ m := by omega
      have i7 : k + m ≤ n := by omega
      have i4 : m ≤ 1000000 := by omega
      have i5 : (k : Int) + (m : Int) ≤ 9223372036854775807 := by omega
      clear hm
      go_wp2
      go_region
      go_wp2
      go_roundw
      case rel => exact ⟨k + m, by go_num, by omega, by omega, HF4, HB4⟩
      case measure => simp [intOf]; omega
    · have i1 : ¬ (k : Int) < (n : Int) := by omega
      obtain rfl : k = n := by omega
      go_wp2
      go_ret
      obtain ⟨cur4, hg4, hl4, hu4⟩ := HF.out
      refine ⟨⟨w.heap.size, Nat.le_refl _, rfl, cur4.toArray, hg4, by simpa using hl4, fun j u hj => ?_⟩, HB.out⟩
      have hj2 : j < k := by
        have := (Array.getElem?_eq_some_iff.1 hj).1
        simp at this; omega
      have := hu4 j hj2
      rw [List.getElem?_toArray] at hj
      rw [this] at hj
      exact (Option.some.inj hj).symm
end Go.Proofs.YtdcmkifljcdmmaaGreatDoor

/- The words of a list, one by one: slices.Values' own iterator. -/
namespace Go.Proofs.YtdcmkifljcdmmaaGreatDoor
open Go.RowKit Go.Shelf

attribute [local go_sem] Oper.semAt_some

abbrev encW (x : Int) : Array Value := #[.int .u64 x]
theorem wr_keep {w0 W : World} {rb : Option Addr} {ls : List Int} (h : WR w0 rb ls) (hb : Below w0.heap.size w0 W) : WR W rb ls := h.below hb

set_option maxRecDepth 100000 in
set_option maxHeartbeats 1000000 in
theorem values1_in (n : Nat) (hn : 1 ≤ n) (l Bs cb : Nat) (rb : Option Addr) (ls : List Int) (hls : ls.length ≤ 1000000) (J Jx : List Int → World → Prop) (w0 : World) (hWR : WR w0 rb ls)
    (hBs : w0.heap[Bs]? = some (.cells #[.slice rb ls.length cb] 23 (0, 0)))
    (hY : ∀ pre x W, J pre W → pre.length < ls.length → YieldAt Fence.wide (n - 1) Tryz.prog l (encW x) W fun e W' =>
      (e = .returned (.bool true) ∧ J (pre ++ [x]) W' ∧ Below w0.heap.size W W') ∨ (e = .returned (.bool false) ∧ Jx (pre ++ [x]) W'))
    (W : World) (hW : Below w0.heap.size w0 W) (h0 : J [] W) :
    CallsIn Fence.wide n Tryz.prog 87 #[.func (.yield l) #[] #[], .pointer (some ⟨Bs, 0, none⟩)] W fun e W' => (∃ v, e = .returned v) ∧
      ((∃ ys, ys = ls ∧ J ys W') ∨ (∃ pre, (fun _ : List Int => True) pre ∧ Jx pre W')) := by
  have hlt := heap_lt hBs
  have hc : W.cell? ⟨Bs, 0, none⟩ = some (.slice rb ls.length cb) := (hW.cell (p := ⟨Bs, 0, none⟩) hlt).trans (heap_cell hBs rfl)
  refine callsIn_of_wp Tryz.func87 rfl trivial ?_ rfl
  simp only [Tryz.ntmps87, List.size_toArray, List.length_cons, List.length_nil, Nat.reduceAdd, Nat.reduceSub, Array.replicate_succ, Array.replicate_zero, List.push_toArray, List.append_toArray, List.nil_append, List.cons_append]
  have HWR : Hid (WR w0 rb ls) := hWR
  clear hWR hBs
  gi_wp2
  gi_loopw [7, 4] (fun i _ wr => ∃ j : Nat, i = .int .i64 j ∧ j ≤ ls.length ∧ Hid (J (ls.take j) wr) ∧ Hid (Below w0.heap.size w0 wr)) (fun i _ _ => ls.length - (intOf i).toNat)
  case atStart => exact ⟨0, rfl, Nat.zero_le _, h0, hW⟩
  case round =>
    obtain ⟨j, rfl, hj, HJ, HB⟩ := hrel
    by_cases hjl : j < ls.length
    · have i1 : (j : Int) < (ls.length : Int) := by omega
      obtain ⟨x, hx⟩ : ∃ x, ls[j]? = some x := ⟨_, List.getElem?_eq_getElem hjl⟩
      obtain ⟨b, o, hrb, hcs⟩ := HWR.out.below HB.out
      obtain rfl : rb = some ⟨b, o, none⟩ := hrb.resolve_left (by omega)
      obtain ⟨g1, g2, g3⟩ := hcs j x hx
      have HX : Hid (ls.take (j + 1) = ls.take j ++ [x]) := by show _ = _; rw [List.take_add_one, hx]; rfl
      obtain ⟨fn, tmps, assign, body, hy, hR⟩ := hY (ls.take j) x wr HJ.out (by simp; omega)
      simp only [encW] at hy
      clear hcs hrb hx
      gi_wp2_with fail
      refine hR.mono ?_
      rintro e W2 (⟨rfl, hJ2, hk2⟩ | ⟨rfl, hx2⟩)
      · have HJ2 : Hid (J (ls.take (j + 1)) W2) := by show J _ _; rw [HX.out]; exact hJ2
        have HB2 : Hid (Below w0.heap.size w0 W2) := HB.out.trans hk2
        clear hJ2 hk2 hy hR
        gi_wp2
        go_roundw
        case rel => exact ⟨j + 1, by go_num, by omega, HJ2, HB2⟩
        case measure => simp [intOf]; omega
      · gi_wp2
        refine bodyPost_ret (results_none rfl _ _ _) rfl ?_
        exact ⟨⟨_, rfl⟩, .inr ⟨_, trivial, hx2⟩⟩
    · have i1 : ¬ (j : Int) < (ls.length : Int) := by omega
      have HJe : Hid (J ls wr) := by have := HJ.out; rwa [List.take_of_length_le (by omega)] at this
      gi_wp2
      go_end0
      exact ⟨⟨_, rfl⟩, .inl HJe.out⟩
theorem values1_stops (n : Nat) (hn : 1 ≤ n) (Bs cb : Nat) (rb : Option Addr) (ls : List Int) (hls : ls.length ≤ 1000000) (w0 : World) (hWR : WR w0 rb ls)
    (hBs : w0.heap[Bs]? = some (.cells #[.slice rb ls.length cb] 23 (0, 0))) :
    SeqStopsK Fence.wide n Tryz.prog 87 #[.pointer (some ⟨Bs, 0, none⟩)] encW (Below w0.heap.size) (fun ys => ys = ls) (fun _ => True) ls.length w0 :=
  fun l J Jx W hW _ _ hY h0 => values1_in n hn l Bs cb rb ls hls J Jx w0 hWR hBs hY W hW h0
end Go.Proofs.YtdcmkifljcdmmaaGreatDoor

/- slices.AppendSeq(nil, slices.Values(l)): l's words in a row of its own. -/
namespace Go.Proofs.YtdcmkifljcdmmaaGreatDoor
open Go.RowKit Go.Shelf

attribute [local go_sem] Oper.semAt_some

abbrev encU (l : List Int) : List Value := l.map (Value.int .u64)
theorem belowB {n₀ : Nat} {w : World} (hn : n₀ ≤ w.heap.size) (W : World) (l : Nat) (o o' : Obj) (hl : w.heap.size ≤ l) (_ : W.heap[l]? = some o) (_ : o.isCells = false) (_ : o.isWalk = false) : Below n₀ W (W.putObj l o') :=
  ⟨rfl, rfl, rfl, by simp, fun k hk => World.putObj_heap_other (by omega)⟩
theorem one_new (W : World) (v : Value) (t : TypeId) (j : Nat) (u : Value) (h : [v][j]? = some u) : (W.alloc (.cells #[v] t)).cell? ((⟨W.heap.size, 0, none⟩ : Addr).add j) = some u := by
  rw [ad_add, Nat.zero_add]
  exact new_cell W #[v] t j u h
/-- What the function's own blocks hold between two rounds. -/
def InvA (w : World) (pre : List Int) (W : World) : Prop :=
  (∃ v, Boxed W w.heap.size 23 v ∧ W.ownsRow w.heap.size 53 1 v pre.length (encU pre) ∧ True) ∧ Below w.heap.size w W
theorem invA_own (w : World) (B : Nat) (hB : w.heap.size ≤ B) : OwnFrom B (InvA w) :=
  OwnFrom.and (Own.from (holdsRow_own w.heap.size w.heap.size 23 53 1 (fun pre => pre.length) (fun pre => encU pre) (fun _ _ => True)) _) (ownFrom_below (Nat.le_refl _) hB)
set_option maxRecDepth 100000 in
set_option maxHeartbeats 2000000 in
theorem appendSeq_in (Bs cb : Nat) (rb : Option Addr) (ls : List Int) (hls : ls.length ≤ 1000000) (w : World) (hWR : WR w rb ls)
    (hBs : w.heap[Bs]? = some (.cells #[.slice rb ls.length cb] 23 (0, 0))) :
    CallsIn Fence.wide 6 Tryz.prog 93 #[.slice none 0 0, .func (.func 87) #[] #[.pointer (some ⟨Bs, 0, none⟩)]] w fun e w' => Below w.heap.size w w' ∧
      ∃ v, e = .returned v ∧ w'.ownsRow w.heap.size 53 1 v ls.length (encU ls) := by
  obtain ⟨i0, hi, hz0, hz1, hz2⟩ := info_parts infoW
  refine callsIn_of_wp_marks Tryz.func93 rfl trivial ?_ rfl
  simp only [Tryz.ntmps93, List.size_toArray, List.length_cons, List.length_nil, Nat.reduceAdd, Nat.reduceSub, Array.replicate_succ, Array.replicate_zero, List.push_toArray, List.append_toArray, List.nil_append, List.cons_append]
  gi_wp2
  have hW0 : Below w.heap.size w (w.alloc (.cells #[.slice none 0 0] 23)) := (Below.refl _ w).alloc (Nat.le_refl _) _
  have b0 : Boxed (w.alloc (.cells #[.slice none 0 0] 23)) w.heap.size 23 (.slice none 0 0) := Boxed.new w 23 (.slice none 0 0)
  have hsz : (w.alloc (.cells #[.slice none 0 0] 23)).heap.size = w.heap.size + 1 := World.size_alloc ..
  obtain ⟨W0, hW0e⟩ : ∃ W0, w.alloc (.cells #[.slice none 0 0] 23) = W0 := ⟨_, rfl⟩
  rw [hW0e] at hW0 b0 hsz ⊢
  clear hW0e
  refine wpIn_rangeFunc_ownH rfl (by omega) (gf := 87) (lb := #[.pointer (some ⟨Bs, 0, none⟩)]) rfl trivial (enters_of Tryz.func87 (by kernel_rfl) rfl)
    (values1_stops 5 (by omega) Bs cb rb ls hls w hWR hBs) (fun h k => h.trans k) (belowB (by omega)) hW0 (fun _ => rfl)
    (InvA w) (fun _ _ _ => False) (invA_own w _ (by omega)) (fun _ _ _ _ _ h _ _ => h)
    ⟨⟨_, b0, World.ownsRow_nil _ _ _ _, trivial⟩, hW0⟩
    (fun x a' _ => a' = { tmps := #[.slice none 0 0, .func (.func 87) #[] #[.pointer (some ⟨Bs, 0, none⟩)], .pointer (some ⟨w.heap.size, 0, none⟩), undef, .slice none 0 0, .int .u64 x, .func (.func 87) #[] #[.pointer (some ⟨Bs, 0, none⟩)], .int .u64 x, undef, undef, undef, undef, undef], defers := [] })
    ?hAx ?assign ?body ?done ?stop
  case hAx => exact fun x a' _ A B row h _ _ => h
  case assign =>
    rintro l pre x W K hi hK
    simp only [encW]
    gi_wp2
    exact hK _ _ ((KeepsOthers.refl _).from _) (Below.refl _ _) hi rfl
  case body =>
    rintro l pre x a' W hl hr ⟨⟨v, hv, hrow, _⟩, hB⟩ rfl hlt
    have hc := hv.cell
    gi_wp2_with (gi_at_builtin; refine wpListIn_append_own _ rfl _ _ 23 rfl w.heap.size 53 i0 (.int .u64 0) 1 8 Tryz.underlying23 hi hz0 hz1 hz2 rfl (by decide) v pre.length (encU pre) rfl (hrow.alloc _) ⟨W.heap.size, 0, none⟩ 1 1 [.int .u64 x] rfl rfl (one_new _ _ _) (by simp [Value.oneCell']) (by unfold maxLen; omega) (by omega) (by have := hB.size; simp; omega) ?_; intro v' w1 hown' hgrow hn'; obtain ⟨g', cap', rfl⟩ := ownsRow_succ hown'; obtain ⟨hv1, hv2, hr2, hk2, hb2⟩ := hv.appended (by decide) hrow hB.size (Nat.le_refl _) hown' hgrow; have hc1 := hv1.cell; have hf1 := hv1.frozen)
    refine ⟨hk2.from _, hb2, ⟨⟨_, hv2, ?_, trivial⟩, hB.trans hb2⟩⟩
    have e : encU (pre ++ [x]) = encU pre ++ [.int .u64 x] := List.map_append ..
    rw [List.length_append, e]; exact hr2
  case done =>
    rintro D ys W hD rfl ⟨⟨v, hv, hrow, _⟩, hB⟩ hK
    have hc := hv.cell
    gi_wp2
    refine ⟨by simp, .inl ⟨_, _, rfl, run_takeDeferred hK, ?_⟩⟩
    exact ⟨v, by simp [results, go_sem], hB.trans (belowB (w := w) (Nat.le_refl _) _ D _ _ (by omega) hK rfl rfl), _, rfl, ownsRow_putObj hrow _ hK rfl⟩
  case stop =>
    rintro D c pre W hD hSp h hK
    exact h.elim
end Go.Proofs.YtdcmkifljcdmmaaGreatDoor
