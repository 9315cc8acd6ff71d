/- The words of a list, one by one: slices.Values' own iterator. -/
import Derived.Test.YteekfahpbnbalaaDoorHGRep
import Derived.RangeFuncNested
import Derived.RangeFuncBound
import Derived.RangeFuncCalls
import Derived.RangeFuncLeaves
import Derived.RangeFuncBox
import Derived.Shelf.Abstract
import Derived.Shelf.RegionOpen
import Derived.OwnWalkIn
import Derived.TacticsInMore
import Derived.LoopNIn
import Derived.LoopIn
namespace Go.Proofs.YteekfahpbnbalaaDoor
open Go.RowKit Go.Shelf

attribute [local go_sem] Oper.semAt_some

abbrev encW (x : Int) : Array Value := #[.int .u64 x]
theorem wr_keep {w0 W : World} {rb : Option Addr} {ls : List Int} (h : WR w0 rb ls) (hb : Below w0.heap.size w0 W) : WR W rb ls := h.below hb

set_option maxRecDepth 100000 in
set_option maxHeartbeats 1000000 in
theorem values1_in (n : Nat) (hn : 1 ≤ n) (l Bs cb : Nat) (rb : Option Addr) (ls : List Int) (hls : ls.length ≤ 1000000) (J Jx : List Int → World → Prop) (w0 : World) (hWR : WR w0 rb ls)
    (hBs : w0.heap[Bs]? = some (.cells #[.slice rb ls.length cb] 24 (0, 0)))
    (hY : ∀ pre x W, J pre W → pre.length < ls.length → YieldAt Fence.wide (n - 1) Tryd.prog l (encW x) W fun e W' =>
      (e = .returned (.bool true) ∧ J (pre ++ [x]) W' ∧ Below w0.heap.size W W') ∨ (e = .returned (.bool false) ∧ Jx (pre ++ [x]) W'))
    (W : World) (hW : Below w0.heap.size w0 W) (h0 : J [] W) :
    CallsIn Fence.wide n Tryd.prog 52 #[.func (.yield l) #[] #[], .pointer (some ⟨Bs, 0, none⟩)] W fun e W' => (∃ v, e = .returned v) ∧
      ((∃ ys, ys = ls ∧ J ys W') ∨ (∃ pre, (fun _ : List Int => True) pre ∧ Jx pre W')) := by
  have hlt := heap_lt hBs
  have hc : W.cell? ⟨Bs, 0, none⟩ = some (.slice rb ls.length cb) := (hW.cell (p := ⟨Bs, 0, none⟩) hlt).trans (heap_cell hBs rfl)
  refine callsIn_of_wp Tryd.func52 rfl trivial ?_ rfl
  simp only [Tryd.ntmps52, List.size_toArray, List.length_cons, List.length_nil, Nat.reduceAdd, Nat.reduceSub, Array.replicate_succ, Array.replicate_zero, List.push_toArray, List.append_toArray, List.nil_append, List.cons_append]
  have HWR : Hid (WR w0 rb ls) := hWR
  clear hWR hBs
  gi_wp2
  gi_loopw [7, 4] (fun i _ wr => ∃ j : Nat, i = .int .i64 j ∧ j ≤ ls.length ∧ Hid (J (ls.take j) wr) ∧ Hid (Below w0.heap.size w0 wr)) (fun i _ _ => ls.length - (intOf i).toNat)
  case atStart => exact ⟨0, rfl, Nat.zero_le _, h0, hW⟩
  case round =>
    obtain ⟨j, rfl, hj, HJ, HB⟩ := hrel
    by_cases hjl : j < ls.length
    · have i1 : (j : Int) < (ls.length : Int) := by omega
      obtain ⟨x, hx⟩ : ∃ x, ls[j]? = some x := ⟨_, List.getElem?_eq_getElem hjl⟩
      obtain ⟨b, o, hrb, hcs⟩ := HWR.out.below HB.out
      obtain rfl : rb = some ⟨b, o, none⟩ := hrb.resolve_left (by omega)
      obtain ⟨g1, g2, g3⟩ := hcs j x hx
      have HX : Hid (ls.take (j + 1) = ls.take j ++ [x]) := by show _ = _; rw [List.take_add_one, hx]; rfl
      obtain ⟨fn, tmps, assign, body, hy, hR⟩ := hY (ls.take j) x wr HJ.out (by simp; omega)
      simp only [encW] at hy
      clear hcs hrb hx
      gi_wp2_with fail
      refine hR.mono ?_
      rintro e W2 (⟨rfl, hJ2, hk2⟩ | ⟨rfl, hx2⟩)
      · have HJ2 : Hid (J (ls.take (j + 1)) W2) := by show J _ _; rw [HX.out]; exact hJ2
        have HB2 : Hid (Below w0.heap.size w0 W2) := HB.out.trans hk2
        clear hJ2 hk2 hy hR
        gi_wp2
        go_roundw
        case rel => exact ⟨j + 1, by go_num, by omega, HJ2, HB2⟩
        case measure => simp [intOf]; omega
      · gi_wp2
        refine bodyPost_ret (results_none rfl _ _ _) rfl ?_
        exact ⟨⟨_, rfl⟩, .inr ⟨_, trivial, hx2⟩⟩
    · have i1 : ¬ (j : Int) < (ls.length : Int) := by omega
      have HJe : Hid (J ls wr) := by have := HJ.out; rwa [List.take_of_length_le (by omega)] at this
      gi_wp2
      go_end0
      exact ⟨⟨_, rfl⟩, .inl HJe.out⟩
theorem values1_stops (n : Nat) (hn : 1 ≤ n) (Bs cb : Nat) (rb : Option Addr) (ls : List Int) (hls : ls.length ≤ 1000000) (w0 : World) (hWR : WR w0 rb ls)
    (hBs : w0.heap[Bs]? = some (.cells #[.slice rb ls.length cb] 24 (0, 0))) :
    SeqStopsK Fence.wide n Tryd.prog 52 #[.pointer (some ⟨Bs, 0, none⟩)] encW (Below w0.heap.size) (fun ys => ys = ls) (fun _ => True) ls.length w0 :=
  fun l J Jx W hW _ _ hY h0 => values1_in n hn l Bs cb rb ls hls J Jx w0 hWR hBs hY W hW h0
end Go.Proofs.YteekfahpbnbalaaDoor
