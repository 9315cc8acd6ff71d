/- The document's Right of a heap and its roots. -/
import Derived.Test.YtphpkedfcmghmaaDoorHBRefChk
namespace Go.Proofs.YtphpkedfcmghmaaDoor
open Go.RowKit

theorem alli_more {l : List Int} {P : Int → Bool} {k : Nat} {x : Int} (h : ∀ (j : Nat) y, j < k → l[j]? = some y → P y = true) (hx : l[k]? = some x) (hp : P x = true) : ∀ (j : Nat) y, j < k + 1 → l[j]? = some y → P y = true := fun j y hj hy => by
  by_cases e : j = k
  · subst e; rw [hx] at hy; cases hy; exact hp
  · exact h j y (by omega) hy
theorem alli_end {l : List Int} {P : Int → Bool} (h : ∀ (j : Nat) y, j < l.length → l[j]? = some y → P y = true) : l.all P = true := List.all_eq_true.2 fun x hx => by
  obtain ⟨j, hj⟩ := List.getElem?_of_mem hx
  exact h j x (List.getElem?_eq_some_iff.1 hj).1 hj
theorem alli_bad {l : List Int} {P : Int → Bool} {x : Int} {k : Nat} (hx : l[k]? = some x) (hp : P x = false) : l.all P = false := by
  cases h : l.all P with
  | false => rfl
  | true => rw [List.all_eq_true.1 h x (List.mem_of_getElem? hx)] at hp; cases hp
def rightM (h : List Cl) (roots : List Int) : Bool := h.all (okCl h.length) && roots.all (fitsW h.length)
set_option maxRecDepth 100000 in
set_option maxHeartbeats 8000000 in
theorem refRight_any (h : List Cl) (roots : List Int) (ra rb : Option Addr) (ca cb : Nat) (w : World) (hl : h.length ≤ 281474976710656) (hr : roots.length ≤ 281474976710656) (hH : HR w ra h) (hR : WR w rb roots) :
    Calls Tryd.prog 93 #[.slice ra h.length ca, .slice rb roots.length cb] w fun e w' => e = .returned (.bool (rightM h roots)) ∧ Below w.heap.size w w' := by
  have HR' : Hid (WR w rb roots) := hR
  have HC : Hid _ := refCheck_any h ra ca w hl hH
  clear hH hR
  go_enter Tryd.func93, Tryd.ntmps93
  go_wp2_with fail
  refine Calls.mono HC.out ?_
  rintro e w2 ⟨hor, hb2⟩
  have HB2 : Hid (Below w.heap.size w w2) := hb2
  obtain ⟨c, i, rfl, HCc⟩ : ∃ (c i : Int), e = .returned (.tuple #[.int .i64 c, .int .i64 i]) ∧ Hid (h.all (okCl h.length) = (c == 0)) := by
    rcases hor with ⟨h1, rfl⟩ | ⟨h1, i, rfl⟩
    · exact ⟨0, 0, rfl, h1⟩
    · exact ⟨100, i, rfl, h1⟩
  clear HC hor hb2
  go_wp2_with fail
  go_loopw [7, 8] (fun i _ wr => ∃ k : Nat, i = .int .i64 k ∧ k ≤ roots.length ∧ wr = w2 ∧ Hid (∀ (j : Nat) y, j < k → roots[j]? = some y → fitsW h.length y = true)) (fun i _ _ => roots.length - (intOf i).toNat)
  case atStart => exact ⟨0, rfl, Nat.zero_le _, rfl, fun _ _ h => absurd h (Nat.not_lt_zero _)⟩
  case round =>
    obtain ⟨k, rfl, hk, rfl, HA⟩ := hrel
    by_cases hkl : k < roots.length
    · have k1 : (k : Int) < (roots.length : Int) := by omega
      obtain ⟨x, hx⟩ : ∃ x, roots[k]? = some x := ⟨_, List.getElem?_eq_getElem hkl⟩
      obtain ⟨bb, o, hor, hcs⟩ := HR'.out.below HB2.out
      have hra : rb = some ⟨bb, o, none⟩ := hor.resolve_left (by omega)
      subst hra
      obtain ⟨g1, y0, hrx⟩ := hcs k x hx
      have HX : Hid (roots[k]? = some x) := hx
      have HW : Hid _ := refWord_any x h.length wr hrx
      clear hcs hor hx hrx
      cases hf : fitsW h.length x
      · have HN : Hid (rightM h roots = false) := by
          show _ = _
          unfold rightM
          rw [alli_bad HX.out hf, Bool.and_false]
        rw [hf] at HW
        clear hf
        go_wp2_with fail
        refine Calls.mono HW.out ?_
        rintro e w5 ⟨rfl, rfl⟩
        clear HW
        go_wp2
        go_ret
        exact ⟨by rw [HN.out]; rfl, HB2.out⟩
      · have HA2 : Hid (∀ (j : Nat) y, j < k + 1 → roots[j]? = some y → fitsW h.length y = true) := alli_more HA.out HX.out hf
        rw [hf] at HW
        clear hf
        go_wp2_with fail
        refine Calls.mono HW.out ?_
        rintro e w5 ⟨rfl, rfl⟩
        clear HW
        go_wp2
        go_roundw
        case rel => exact ⟨k + 1, by go_num, by omega, trivial, HA2⟩
        case measure => simp [intOf]; omega
    · have k1 : ¬ (k : Int) < (roots.length : Int) := by omega
      have HN : Hid (rightM h roots = (c == 0)) := by
        show _ = _
        unfold rightM
        rw [alli_end (fun j y hj hy => HA.out j y (by omega) hy), Bool.and_true]
        exact HCc.out
      go_wp2
      go_ret
      exact ⟨by rw [HN.out]; rfl, HB2.out⟩
end Go.Proofs.YtphpkedfcmghmaaDoor
