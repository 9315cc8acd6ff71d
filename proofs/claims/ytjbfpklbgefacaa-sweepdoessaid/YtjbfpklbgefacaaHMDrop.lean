/- Drop, Swap of a first word, Load, Head. -/
import Derived.Test.YtjbfpklbgefacaaHMMake
namespace Go.Proofs.Ytjbfpklbgefacaa
open Go.RowKit

def dropE (h : List Cl) (i : Int) : Int := match getC h i with
  | some x => chE x 0
  | none => 1
def dropH (h : List Cl) (i : Int) : List Cl := if dropE h i = 0 then h.set i.toNat c0 else h
set_option maxRecDepth 100000 in
set_option maxHeartbeats 8000000 in
theorem drop1_any (x : Cl) (W : World) : Calls Try.prog 38 #[cV x] W fun e W' => e = .returned (.tuple #[cV c0, .int .i64 0]) ∧ Below W.heap.size W W' := by
  go_enter Try.func38, Try.ntmps38
  go_wp2_with fail
  exact bodyPost_ret (results_c1 (x := c0) (g1 := W.heap.size + 1) rfl rfl rfl (two_new W _ _).2) rfl ⟨rfl, below_two W _ _⟩
set_option maxRecDepth 100000 in
set_option maxHeartbeats 8000000 in
theorem drop_any {hb ab : Nat} {h : List Cl} (i : Int) {w : World} (H : CH w hb ab h) :
    Calls Try.prog 26 #[.pointer (some ⟨hb, 0, none⟩), .int .i64 i] w fun e w' => e = .returned (.int .i64 (dropE h i)) ∧ ExR hb ab (dropH h i) w w' := by
  have HA : Hid (Calls Try.prog 31 #[.pointer (some ⟨hb, 0, none⟩), .int .i64 i] w fun e w' => e = .returned (.bool (inB h.length i)) ∧ w' = w) := has_any i w H
  have HH : Hid (CH w hb ab h) := H
  cases hi : inB h.length i
  · have hg := getC_none hi
    have E : dropE h i = 1 := by unfold dropE; rw [hg]
    have E' : dropH h i = h := by unfold dropH; rw [E, if_neg (by decide)]
    rw [E, E']
    rw [hi] at HA
    clear H hg E E' hi
    go_enter Try.func26, Try.ntmps26
    go_wp2_with fail
    refine Calls.mono HA.out ?_
    rintro e w' ⟨rfl, hw'⟩
    rw [hw']
    clear hw'
    go_wp2_with fail
    go_ret
    exact ⟨rfl, .of HH.out (Below.refl _ _)⟩
  · obtain ⟨k, x, rfl, hx, hg, hk⟩ := getC_some hi
    rw [hi] at HA
    have hN : NextOk w 38 #[] x c0 0 := ⟨fun args W => by simp [go_sem], fun W _ => drop1_any x W⟩
    have HC : Hid _ := change_any H hx hN (fun _ => c0_ok)
    have E1 : dropE h k = chE x 0 := by unfold dropE; rw [hg]
    have E2 : dropH h k = if chE x 0 = 0 then h.set k (chY x c0) else h := by
      unfold dropH
      rw [E1, hk]
      unfold chY
      rw [ite_self]
    rw [E1, E2]
    generalize exA (chE x 0) x = X at HC
    generalize exA (chE x 0) (chY x c0) = Y at HC
    generalize hL : (if chE x 0 = 0 then h.set k (chY x c0) else h) = L at HC ⊢
    generalize chE x 0 = E at HC ⊢
    clear H hg hi hN E1 E2 hL
    go_enter Try.func26, Try.ntmps26
    go_wp2_with fail
    refine Calls.mono HA.out ?_
    rintro e w' ⟨rfl, hw'⟩
    rw [hw']
    clear hw'
    go_wp2_with fail
    refine Calls.mono HC.out ?_
    rintro e w4 ⟨rfl, hR⟩
    have HR : Hid (ExR hb ab L w w4) := hR
    clear hR
    go_wp2_with fail
    go_ret
    exact ⟨rfl, ExR.end2 HH.out (Below.refl _ _) HR.out _ _⟩
end Go.Proofs.Ytjbfpklbgefacaa
