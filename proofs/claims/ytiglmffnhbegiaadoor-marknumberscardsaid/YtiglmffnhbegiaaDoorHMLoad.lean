/- Load, Head. -/
import Derived.Test.YtiglmffnhbegiaaDoorHMDrop
namespace Go.Proofs.YtiglmffnhbegiaaDoor
open Go.RowKit

def LdR (h : List Cl) (i f : Int) (w : World) (e : Ending) (w' : World) : Prop := e = .returned (.tuple #[.int .u64 (ldW h i f), .int .i64 (ldE h i)]) ∧ Below w.heap.size w w'
set_option maxRecDepth 100000 in
set_option maxHeartbeats 8000000 in
theorem load_any {hb ab : Nat} {h : List Cl} (i f : Int) {w : World} (H : CH w hb ab h) (hf : f = 0 ∨ f = 1) :
    Calls Tryd.prog 65 #[.pointer (some ⟨hb, 0, none⟩), .int .i64 i, .int .i64 f] w fun e w' => LdR h i f w e w' := by
  have HA : Hid (Calls Tryd.prog 87 #[.pointer (some ⟨hb, 0, none⟩), .int .i64 i, .int .i64 f] w fun e w' => e = .returned (.bool (inB h.length i && inB 2 f)) ∧ w' = w) := hasField_any i f w H
  rw [show inB 2 f = true by rcases hf with rfl | rfl <;> rfl, Bool.and_true] at HA
  cases hi : inB h.length i
  · have hg := getC_none hi
    have E : Hid (ldW h i f = 0 ∧ ldE h i = 1) := ⟨by unfold ldW; rw [hg], by unfold ldE; rw [hg]⟩
    unfold LdR
    rw [E.out.1, E.out.2]
    rw [hi] at HA
    clear H hg E hi
    go_enter Tryd.func65, Tryd.ntmps65
    go_wp2_with fail
    refine Calls.mono HA.out ?_
    rintro e w' ⟨rfl, hw'⟩
    rw [hw']
    clear hw'
    go_wp2_with fail
    go_ret2
    exact ⟨rfl, Below.refl _ _⟩
  · obtain ⟨k, x, rfl, hx, hg, hk⟩ := getC_some hi
    rw [hi] at HA
    obtain ⟨a1, a2, q, a3, a4⟩ := H.at hx
    have hkl : k < h.length := (List.getElem?_eq_some_iff.1 hx).1
    have i1 : (k : Int) < (h.length : Int) := by omega
    have HL : Hid (Calls Tryd.prog 75 #[.pointer (some ⟨ab, k, none⟩)] w fun e w' => e = .returned (.pointer (some ⟨q, 0, none⟩)) ∧ w' = w) := pload_any a3 a4
    have HF : Hid (Calls Tryd.prog 74 #[cV x] w fun e w' => e = .returned (.bool (x.k == 0)) ∧ Below w.heap.size w w') := isFree_any x w
    obtain ⟨d0, d1, d2, d3⟩ := a4.cell
    have lq := a4.lt
    have HQ : Hid (SB w q x) := a4
    clear H a2 a3 a4 hi hx
    by_cases h0 : x.k = 0
    · have z1 : (x.k == 0) = true := by simpa using h0
      rw [z1] at HF
      have E : Hid (ldW h k f = 0 ∧ ldE h k = 31) := ⟨by unfold ldW; rw [hg]; simp [h0], by unfold ldE chE; rw [hg]; simp [h0]⟩
      unfold LdR
      rw [E.out.1, E.out.2]
      clear h0 z1 E hg
      go_enter Tryd.func65, Tryd.ntmps65
      go_wp2_with fail
      refine Calls.mono HA.out ?_
      rintro e w' ⟨rfl, hw'⟩
      rw [hw']
      clear hw'
      go_wp2_with fail
      refine Calls.mono HL.out ?_
      rintro e w' ⟨rfl, hw'⟩
      rw [hw']
      clear hw'
      go_wp2_with fail
      refine Calls.mono HF.out ?_
      rintro e w4 ⟨rfl, hb4⟩
      have HB : Hid (Below w.heap.size w w4) := hb4
      clear hb4
      go_wp2_with fail
      go_ret2
      exact ⟨rfl, HB.out⟩
    · have z1 : (x.k == 0) = false := by simpa using h0
      rw [z1] at HF
      have E : Hid (ldW h k f = (if f = 0 then x.a else x.b) ∧ ldE h k = 0) := ⟨by unfold ldW; rw [hg]; simp [h0], by unfold ldE chE; rw [hg]; simp [h0]⟩
      unfold LdR
      rw [E.out.1, E.out.2]
      clear h0 z1 E hg
      rcases hf with rfl | rfl
      all_goals
        simp only [if_true, show ((1 : Int) = 0) = False by simp, if_false]
        go_enter Tryd.func65, Tryd.ntmps65
        go_wp2_with fail
        refine Calls.mono HA.out ?_
        rintro e w' ⟨rfl, hw'⟩
        rw [hw']
        clear hw'
        go_wp2_with fail
        refine Calls.mono HL.out ?_
        rintro e w' ⟨rfl, hw'⟩
        rw [hw']
        clear hw'
        go_wp2_with fail
        refine Calls.mono HF.out ?_
        rintro e w4 ⟨rfl, hb4⟩
        have HB : Hid (Below w.heap.size w w4) := hb4
        obtain ⟨c0', c1, c2, c3⟩ := SB.cell (w := w4) (HQ.out.kept (hb4.block _ lq))
        clear hb4
        go_wp2_with fail
        go_ret2
        exact ⟨rfl, HB.out⟩
def hdK (h : List Cl) (i : Int) : Int := match getC h i with
  | some x => x.k
  | none => 0
def hdC (h : List Cl) (i : Int) : Int := match getC h i with
  | some x => x.c
  | none => 0
def hdE (h : List Cl) (i : Int) : Int := match getC h i with
  | some _ => 0
  | none => 1
def HdR (h : List Cl) (i : Int) (w : World) (e : Ending) (w' : World) : Prop := e = .returned (.tuple #[.int .u8 (hdK h i), .int .u8 (hdC h i), .int .i64 (hdE h i)]) ∧ Below w.heap.size w w'
set_option maxRecDepth 100000 in
set_option maxHeartbeats 8000000 in
theorem head_any {hb ab : Nat} {h : List Cl} (i : Int) {w : World} (H : CH w hb ab h) :
    Calls Tryd.prog 22 #[.pointer (some ⟨hb, 0, none⟩), .int .i64 i] w fun e w' => HdR h i w e w' := by
  have HA : Hid (Calls Tryd.prog 70 #[.pointer (some ⟨hb, 0, none⟩), .int .i64 i] w fun e w' => e = .returned (.bool (inB h.length i)) ∧ w' = w) := has_any i w H
  cases hi : inB h.length i
  · have hg := getC_none hi
    have E : Hid (hdK h i = 0 ∧ hdC h i = 0 ∧ hdE h i = 1) := ⟨by unfold hdK; rw [hg], by unfold hdC; rw [hg], by unfold hdE; rw [hg]⟩
    unfold HdR
    rw [E.out.1, E.out.2.1, E.out.2.2]
    rw [hi] at HA
    clear H hg E hi
    go_enter Tryd.func22, Tryd.ntmps22
    go_wp2_with fail
    refine Calls.mono HA.out ?_
    rintro e w' ⟨rfl, hw'⟩
    rw [hw']
    clear hw'
    go_wp2_with fail
    exact bodyPost_ret (results_tmp3 rfl _ _ _) rfl ⟨rfl, Below.refl _ _⟩
  · obtain ⟨k, x, rfl, hx, hg, hk⟩ := getC_some hi
    rw [hi] at HA
    obtain ⟨a1, a2, q, a3, a4⟩ := H.at hx
    have hkl : k < h.length := (List.getElem?_eq_some_iff.1 hx).1
    have i1 : (k : Int) < (h.length : Int) := by omega
    have HL : Hid (Calls Tryd.prog 75 #[.pointer (some ⟨ab, k, none⟩)] w fun e w' => e = .returned (.pointer (some ⟨q, 0, none⟩)) ∧ w' = w) := pload_any a3 a4
    obtain ⟨d0, d1, d2, d3⟩ := a4.cell
    have lq := a4.lt
    have E : Hid (hdK h k = x.k ∧ hdC h k = x.c ∧ hdE h k = 0) := ⟨by unfold hdK; rw [hg], by unfold hdC; rw [hg], by unfold hdE; rw [hg]⟩
    unfold HdR
    rw [E.out.1, E.out.2.1, E.out.2.2]
    clear H a2 a3 a4 hi hx hg E
    go_enter Tryd.func22, Tryd.ntmps22
    go_wp2_with fail
    refine Calls.mono HA.out ?_
    rintro e w' ⟨rfl, hw'⟩
    rw [hw']
    clear hw'
    go_wp2_with fail
    refine Calls.mono HL.out ?_
    rintro e w' ⟨rfl, hw'⟩
    rw [hw']
    clear hw'
    go_wp2_with fail
    go_region
    go_wp2_with fail
    exact bodyPost_ret (results_tmp3 rfl _ _ _) rfl ⟨rfl, (Below.refl _ _).drew⟩
end Go.Proofs.YtiglmffnhbegiaaDoor
