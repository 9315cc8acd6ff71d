/- Load, Head. -/
import Derived.Test.YtjbfpklbgefacaaHMDrop
namespace Go.Proofs.Ytjbfpklbgefacaa
open Go.RowKit

def hdK (h : List Cl) (i : Int) : Int := match getC h i with
  | some x => x.k
  | none => 0
def hdC (h : List Cl) (i : Int) : Int := match getC h i with
  | some x => x.c
  | none => 0
def hdE (h : List Cl) (i : Int) : Int := match getC h i with
  | some _ => 0
  | none => 1
def HdR (h : List Cl) (i : Int) (w : World) (e : Ending) (w' : World) : Prop := e = .returned (.tuple #[.int .u8 (hdK h i), .int .u8 (hdC h i), .int .i64 (hdE h i)]) ∧ Below w.heap.size w w'
set_option maxRecDepth 100000 in
set_option maxHeartbeats 8000000 in
theorem head_any {hb ab : Nat} {h : List Cl} (i : Int) {w : World} (H : CH w hb ab h) :
    Calls Try.prog 23 #[.pointer (some ⟨hb, 0, none⟩), .int .i64 i] w fun e w' => HdR h i w e w' := by
  have HA : Hid (Calls Try.prog 31 #[.pointer (some ⟨hb, 0, none⟩), .int .i64 i] w fun e w' => e = .returned (.bool (inB h.length i)) ∧ w' = w) := has_any i w H
  cases hi : inB h.length i
  · have hg := getC_none hi
    have E : Hid (hdK h i = 0 ∧ hdC h i = 0 ∧ hdE h i = 1) := ⟨by unfold hdK; rw [hg], by unfold hdC; rw [hg], by unfold hdE; rw [hg]⟩
    unfold HdR
    rw [E.out.1, E.out.2.1, E.out.2.2]
    rw [hi] at HA
    clear H hg E hi
    go_enter Try.func23, Try.ntmps23
    go_wp2_with fail
    refine Calls.mono HA.out ?_
    rintro e w' ⟨rfl, hw'⟩
    rw [hw']
    clear hw'
    go_wp2_with fail
    exact bodyPost_ret (results_tmp3 rfl _ _ _) rfl ⟨rfl, Below.refl _ _⟩
  · obtain ⟨k, x, rfl, hx, hg, hk⟩ := getC_some hi
    rw [hi] at HA
    obtain ⟨a1, a2, q, a3, a4⟩ := H.at hx
    have hkl : k < h.length := (List.getElem?_eq_some_iff.1 hx).1
    have i1 : (k : Int) < (h.length : Int) := by omega
    have HL : Hid (Calls Try.prog 29 #[.pointer (some ⟨ab, k, none⟩)] w fun e w' => e = .returned (.pointer (some ⟨q, 0, none⟩)) ∧ w' = w) := pload_any a3 a4
    obtain ⟨d0, d1, d2, d3⟩ := a4.cell
    have lq := a4.lt
    have E : Hid (hdK h k = x.k ∧ hdC h k = x.c ∧ hdE h k = 0) := ⟨by unfold hdK; rw [hg], by unfold hdC; rw [hg], by unfold hdE; rw [hg]⟩
    unfold HdR
    rw [E.out.1, E.out.2.1, E.out.2.2]
    clear H a2 a3 a4 hi hx hg E
    go_enter Try.func23, Try.ntmps23
    go_wp2_with fail
    refine Calls.mono HA.out ?_
    rintro e w' ⟨rfl, hw'⟩
    rw [hw']
    clear hw'
    go_wp2_with fail
    refine Calls.mono HL.out ?_
    rintro e w' ⟨rfl, hw'⟩
    rw [hw']
    clear hw'
    go_wp2_with fail
    go_region
    go_wp2_with fail
    exact bodyPost_ret (results_tmp3 rfl _ _ _) rfl ⟨rfl, (Below.refl _ _).drew⟩
end Go.Proofs.Ytjbfpklbgefacaa
