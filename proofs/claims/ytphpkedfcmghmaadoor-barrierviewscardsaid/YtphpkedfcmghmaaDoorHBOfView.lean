/- How much a view hands in. -/
import Derived.Test.YtphpkedfcmghmaaDoorHBHolds
namespace Go.Proofs.YtphpkedfcmghmaaDoor
open Go.RowKit

def ofLn : List Ln → Nat → Nat
  | [], n => n
  | x :: r, n => if n ≤ 20000 then ofLn r (n + x.roots.length) else n
def ofV (v : Vw) : Nat := ofLn v.lanes (v.h.length + v.grey.length + v.gl.length + v.lanes.length)
theorem ofLn_le : ∀ (l : List Ln) (n : Nat), ofLn l n ≤ 20000 → n + (l.map Ln.roots).flatten.length ≤ 20000
  | [], n, h => by have h' : n ≤ 20000 := h; simpa using h'
  | x :: r, n, h => by
    unfold ofLn at h
    split at h
    · have := ofLn_le r _ h
      simp only [List.map_cons, List.flatten_cons, List.length_append]
      omega
    · omega
theorem ofLn_stop {l : List Ln} {n : Nat} (h : ¬ n ≤ 20000) : ofLn l n = n := by
  cases l with
  | nil => rfl
  | cons x r => unfold ofLn; rw [if_neg h]
set_option maxRecDepth 100000 in
set_option maxHeartbeats 8000000 in
theorem ofView_any (p : Vp) (v : Vw) (w : World) (hV : VL w p v) :
    Calls Tryd.prog 6 #[.agg (p.cells v)] w fun e w' => e = .returned (.int .i64 (ofV v)) ∧ Below w.heap.size w w' := by
  have HV : Hid (VL w p v) := hV
  obtain ⟨W1, hW1⟩ : ∃ W1, w.alloc (.cells (p.cells v) 28) = W1 := ⟨_, rfl⟩
  have b1 : Below w.heap.size w W1 := by rw [← hW1]; exact (Below.refl _ w).alloc (Nat.le_refl _) _
  have v1 : VB W1 w.heap.size p v := by unfold VB; rw [← hW1]; exact World.alloc_heap_new w _
  have HB1 : Hid (Below w.heap.size w W1) := b1
  have HL1 : Hid (LR W1 p.lr v.lanes) := hV.l.below b1
  obtain ⟨d0, d1, d2, d3, d4, d5, d6⟩ := v1.at7
  have l1 : w.heap.size < W1.heap.size := (Array.getElem?_eq_some_iff.1 v1).1
  have q1 := hV.hl
  have q2 := hV.yl
  have q3 := hV.gl
  have q4 := hV.ll
  clear hV b1 v1
  unfold Vp.cells at hW1
  unfold Vp.cells
  have HW1 : Hid _ := hW1
  clear hW1
  obtain ⟨cr, cc, yr, yc, gr, gc, lr, lc⟩ := p
  dsimp only at d0 d3 d4 d6 HL1 HW1 ⊢
  go_enter Tryd.func6, Tryd.ntmps6
  go_upto_region 1 with fail
  rw [HW1.out]
  clear HW1
  have HS : Hid (ofV v = ofLn (v.lanes.drop 0) (v.h.length + v.grey.length + v.gl.length + v.lanes.length)) := rfl
  have HS0 : Hid ((v.h.length : Int) + v.grey.length + v.gl.length + v.lanes.length = ((v.h.length + v.grey.length + v.gl.length + v.lanes.length : Nat) : Int)) := by show _ = _; omega
  go_wp2_with fail
  clear d0 d3 d4
  go_loopw [3, 4] (fun n i wr => ∃ (k m : Nat), i = .int .i64 k ∧ n = .int .i64 m ∧ k ≤ v.lanes.length ∧ m ≤ 1125899906842624 + 281474976710656 ∧ Hid (ofV v = ofLn (v.lanes.drop k) m) ∧ wr = W1) (fun _ i _ => v.lanes.length - (intOf i).toNat)
  case atStart => exact ⟨0, v.h.length + v.grey.length + v.gl.length + v.lanes.length, rfl, by rw [← HS0.out], Nat.zero_le _, by omega, HS, rfl⟩
  case round =>
    obtain ⟨k, m, rfl, rfl, hk, hm, HE, rfl⟩ := hrel
    by_cases hkl : k < v.lanes.length
    · have k1 : (k : Int) < (v.lanes.length : Int) := by omega
      by_cases hml : m ≤ 20000
      · have k2 : (m : Int) ≤ 20000 := by omega
        obtain ⟨x, hx⟩ : ∃ x, v.lanes[k]? = some x := ⟨_, List.getElem?_eq_getElem hkl⟩
        obtain ⟨b, o, hor, hcs⟩ := HL1.out
        have hra : lr = some ⟨b, o, none⟩ := hor.resolve_left (by omega)
        subst hra
        obtain ⟨g1, ⟨rr, rc, c0, _, c3⟩, _, _⟩ := hcs k x hx
        have HE2 : Hid (ofV v = ofLn (v.lanes.drop (k + 1)) (m + x.roots.length)) := by
          have := HE.out
          show _ = _
          rw [List.drop_eq_getElem_cons hkl] at this
          have e : v.lanes[k] = x := by have := List.getElem?_eq_getElem hkl; rw [this] at hx; exact Option.some.inj hx
          rw [this, e, ofLn, if_pos hml]
        clear hcs hor hx HE
        go_wp2
        go_roundw
        case rel => exact ⟨k + 1, m + x.roots.length, by go_num, by go_num, by omega, by omega, HE2, trivial⟩
        case measure => simp [intOf]; omega
      · have k2 : ¬ (m : Int) ≤ 20000 := by omega
        have HE2 : Hid (ofV v = m) := HE.out.trans (ofLn_stop hml)
        go_wp2
        go_ret
        exact ⟨by rw [HE2.out]; rfl, HB1.out⟩
    · have k1 : ¬ (k : Int) < (v.lanes.length : Int) := by omega
      have HE2 : Hid (ofV v = m) := by
        have := HE.out
        rw [List.drop_eq_nil_of_le (by omega)] at this
        exact this
      go_wp2
      go_ret
      exact ⟨by rw [HE2.out]; rfl, HB1.out⟩
end Go.Proofs.YtphpkedfcmghmaaDoor
