/- Contains; what is shaded. -/
import Derived.Test.YtigcpbndmiefhaaDoorHBSmall
namespace Go.Proofs.YtigcpbndmiefhaaDoor
open Go.RowKit

/-- The cells to shade of some words. -/
def shStep (h : List Cl) (out : List Int) (x : Int) : List Int := match refN x with
  | none => out
  | some c => match h[c]? with
    | none => out
    | some y => if whiteB y && !(out.any (fun z => z == (c : Int))) then out ++ [(c : Int)] else out
def shM (h : List Cl) (ws : List Int) : List Int := ws.foldl (shStep h) []
theorem shM_step {h : List Cl} {ws : List Int} {j : Nat} {x : Int} (hx : ws[j]? = some x) : shM h (ws.take (j + 1)) = shStep h (shM h (ws.take j)) x := by
  unfold shM
  rw [List.take_add_one, hx, List.foldl_append]
  rfl
theorem sh_len {h : List Cl} : ∀ (ws : List Int) (out : List Int), (ws.foldl (shStep h) out).length ≤ out.length + ws.length
  | [], out => by simp
  | x :: ws, out => by
    have := sh_len (h := h) ws (shStep h out x)
    have h2 : (shStep h out x).length ≤ out.length + 1 := by
      unfold shStep
      split
      · omega
      · split
        · omega
        · split
          · simp
          · omega
    simp only [List.foldl_cons, List.length_cons]
    omega
theorem any_take {α : Type} {q : α → Bool} {l : List α} {j : Nat} {x : α} (h : (l.take j).any q = false) (hx : l[j]? = some x) : (l.take (j + 1)).any q = q x := by
  rw [List.take_add_one, hx, List.any_append, h]
  simp
theorem any_at {α : Type} {q : α → Bool} {l : List α} {j : Nat} {x : α} (hx : l[j]? = some x) (h : q x = true) : l.any q = true := List.any_eq_true.2 ⟨x, List.mem_of_getElem? hx, h⟩
set_option maxRecDepth 100000 in
set_option maxHeartbeats 4000000 in
theorem index_any (l : List Int) (v : Int) (ra : Option Addr) (ca : Nat) (w : World) (hl : l.length ≤ 1000000) (hR : RX (Value.int .i64) w ra l) :
    Calls Tryd.prog 102 #[.slice ra l.length ca, .int .i64 v] w fun e w' => (∃ k : Int, e = .returned (.int .i64 k) ∧ decide (0 ≤ k) = l.any (fun z => z == v)) ∧ w' = w := by
  have HR : Hid (RX (Value.int .i64) w ra l) := hR
  clear hR
  go_enter Tryd.func102, Tryd.ntmps102
  go_wp2
  go_loopw [8, 5] (fun i _ wr => ∃ j : Nat, i = .int .i64 j ∧ j ≤ l.length ∧ Hid ((l.take j).any (fun z => z == v) = false) ∧ wr = w) (fun i _ _ => l.length - (intOf i).toNat)
  case atStart => exact ⟨0, rfl, Nat.zero_le _, rfl, rfl⟩
  case round =>
    obtain ⟨j, rfl, hj, HN, rfl⟩ := hrel
    by_cases hjl : j < l.length
    · have k1 : (j : Int) < (l.length : Int) := by omega
      obtain ⟨x, hx⟩ : ∃ x, l[j]? = some x := ⟨_, List.getElem?_eq_getElem hjl⟩
      obtain ⟨b, o, q1, q2⟩ := HR.out.at
      have q1' := q1 (by omega)
      subst q1'
      obtain ⟨q3, q4⟩ := q2 j x hx
      have HXx : Hid (l[j]? = some x) := hx
      clear q1 q2 hx
      by_cases hv : v = x
      · subst hv
        have z : (v == v) = true := by simp
        have HT : Hid (l.any (fun z => z == v) = true) := any_at HXx.out (by simp)
        go_wp2
        go_ret
        exact ⟨⟨(j : Int), rfl, by rw [HT.out]; exact decide_eq_true (by omega)⟩, rfl⟩
      · have z : (v == x) = false := by simpa using hv
        have HX2 : Hid ((l.take (j + 1)).any (fun z => z == v) = false) := (any_take HN.out HXx.out).trans (by simpa using fun e : x = v => hv e.symm)
        go_wp2
        go_roundw
        case rel => exact ⟨j + 1, by go_num, by omega, HX2, trivial⟩
        case measure => simp [intOf]; omega
    · have k1 : ¬ (j : Int) < (l.length : Int) := by omega
      have HE : Hid (l.any (fun z => z == v) = false) := by have := HN.out; rwa [List.take_of_length_le (by omega)] at this
      go_wp2
      go_ret
      exact ⟨⟨-1, rfl, by rw [HE.out]; rfl⟩, rfl⟩
set_option maxRecDepth 100000 in
set_option maxHeartbeats 4000000 in
theorem contains_any (l : List Int) (v : Int) (ra : Option Addr) (ca : Nat) (w : World) (hl : l.length ≤ 1000000) (hR : RX (Value.int .i64) w ra l) :
    Calls Tryd.prog 81 #[.slice ra l.length ca, .int .i64 v] w fun e w' => e = .returned (.bool (l.any (fun z => z == v))) ∧ w' = w := by
  have HI : Hid _ := index_any l v ra ca w hl hR
  clear hR
  go_enter Tryd.func81, Tryd.ntmps81
  go_wp2_with fail
  refine Calls.mono HI.out ?_
  rintro e w1 ⟨⟨k, rfl, hk⟩, rfl⟩
  have HK : Hid (decide (0 ≤ k) = l.any (fun z => z == v)) := hk
  clear hk HI
  go_wp2
  go_ret
  exact ⟨ret_bool HK.out, rfl⟩
end Go.Proofs.YtigcpbndmiefhaaDoor
