/- A heap with these cells. -/
import Derived.Test.YtjbfpklbgefacaaHWStep
namespace Go.Proofs.Ytjbfpklbgefacaa
open Go.RowKit

set_option maxRecDepth 100000 in
set_option maxHeartbeats 4000000 in
theorem new_bad (n : Nat) (w : World) (h1 : n < 4 ∨ 4096 < n) : Calls Try.prog 24 #[.int .i64 n] w fun e w' => e = .returned (.tuple #[.pointer none, .int .i64 30]) ∧ w' = w := by
  rcases h1 with h1 | h1
  · have z1 : decide ((n : Int) < 4) = true := by simp; omega
    go_enter Try.func24, Try.ntmps24
    go_wp2_with fail
    go_ret2
    exact ⟨rfl, rfl⟩
  · have z1 : decide ((n : Int) < 4) = false := by simp; omega
    have z2 : decide ((n : Int) > 4096) = true := by simp; omega
    have z3 : decide (4096 < (n : Int)) = true := by simp; omega
    go_enter Try.func24, Try.ntmps24
    go_wp2_with fail
    go_ret2
    exact ⟨rfl, rfl⟩
/-- A cell as it stands in a heap that is made of it. -/
def plX (x : Cl) : Cl := if makeF x = true then x else c0
theorem plX_ok {x : Cl} (h : OkK x) : OkK (plX x) := by unfold plX; split; exact h; exact c0_ok
theorem makeH_no {h : List Cl} {i : Int} {x : Cl} (hf : makeF x = false) : makeH h i x = h := by
  unfold makeH
  rw [if_neg]
  unfold makeE
  split
  · rw [hf]; simp
  · decide
def hpH (l : List Cl) (j : Nat) : List Cl := (l.take j).map plX ++ List.replicate (l.length - j) c0
theorem hpH_len (l : List Cl) {j : Nat} (hj : j ≤ l.length) : (hpH l j).length = l.length := by
  unfold hpH
  simp
  omega
theorem hpH_all (l : List Cl) : hpH l l.length = l.map plX := by
  unfold hpH
  simp
theorem hpH_next {l : List Cl} {j : Nat} {x : Cl} (hx : l[j]? = some x) : hpH l (j + 1) = makeH (hpH l j) j x := by
  have hj : j < l.length := (List.getElem?_eq_some_iff.1 hx).1
  have hg : getC (hpH l j) (j : Int) = some c0 := by
    unfold getC hpH
    rw [if_pos (by omega)]
    rw [List.getElem?_append_right (by simp; omega)]
    simp [List.getElem?_replicate]
    omega
  have e0 : hpH l (j + 1) = (hpH l j).set j (plX x) := by
    unfold hpH
    rw [List.take_add_one, hx, List.map_append, List.set_append_right _ _ (by simp; omega)]
    have : l.length - j = (l.length - (j + 1)) + 1 := by omega
    rw [this, List.replicate_succ]
    simp
    have e : min j l.length = j := by omega
    rw [e]
    simp
  rw [e0]
  unfold makeH
  have e1 : makeE (hpH l j) j x = if makeF x = true then 0 else 30 := by
    unfold makeE
    rw [hg]
    rfl
  rw [e1]
  unfold plX
  cases hm : makeF x
  · simp
    refine set_same ?_
    unfold getC at hg
    rw [if_pos (by omega)] at hg
    simpa using hg
  · simp
def HpR (l : List Cl) (w : World) (e : Ending) (w' : World) : Prop := ∃ hb ab g : Nat, e = .returned (.tuple #[.pointer (some ⟨hb, 0, none⟩), .slice (some ⟨g, 0, none⟩) l.length l.length]) ∧ CN w w' hb ab (l.map plX) ∧ KR w' g (l.map plX) (l.map plX).length ∧ w.heap.size ≤ g
set_option maxRecDepth 100000 in
set_option maxHeartbeats 8000000 in
theorem heap_bad (l : List Cl) (ra : Option Addr) (ca : Nat) (w : World) (hl : l.length < 4 ∨ 4096 < l.length) :
    Calls Try.prog 8 #[.slice ra l.length ca] w fun e w' => e = .returned (.tuple #[.pointer none, .slice none 0 0]) ∧ w' = w := by
  have HN : Hid (Calls Try.prog 24 #[.int .i64 l.length] w fun e w' => e = .returned (.tuple #[.pointer none, .int .i64 30]) ∧ w' = w) := new_bad l.length w hl
  clear hl
  go_enter Try.func8, Try.ntmps8
  go_wp2_with fail
  refine Calls.mono HN.out ?_
  rintro e w' ⟨rfl, hw'⟩
  rw [hw']
  clear hw'
  go_wp2_with fail
  go_ret2
  exact ⟨rfl, rfl⟩
theorem CN.al {w0 w : World} {hb ab : Nat} {h : List Cl} (H : CN w0 w hb ab h) (o : Obj) : CN w0 (w.alloc o) hb ab h :=
  ⟨H.c.below ((Below.refl _ w).alloc (Nat.le_refl _) _), H.b.alloc H.b.size _, H.hb, H.ab⟩
theorem CN.below {w0 w w' : World} {hb ab : Nat} {h : List Cl} (H : CN w0 w hb ab h) (hB : Below w.heap.size w w') : CN w0 w' hb ab h :=
  ⟨H.c.below hB, H.b.trans (hB.mono H.b.size), H.hb, H.ab⟩
set_option maxRecDepth 100000 in
set_option maxHeartbeats 16000000 in
theorem heap_any (l : List Cl) (ra : Option Addr) (ca : Nat) (w : World) (hH : HR w ra l) (h4 : 4 ≤ l.length) (h5 : l.length ≤ 4096) :
    Calls Try.prog 8 #[.slice ra l.length ca] w fun e w' => HpR l w e w' := by
  obtain ⟨b, o, hor, hcs⟩ := hH
  have HCS : Hid (∀ (j : Nat) (x : Cl), l[j]? = some x → b < w.heap.size ∧ (w.cell? ⟨b, o + j * 4, none⟩ = some (.int .u8 x.k) ∧ w.cell? ⟨b, o + j * 4 + 1, none⟩ = some (.int .u8 x.c) ∧ w.cell? ⟨b, o + j * 4 + 1 + 1, none⟩ = some (.int .u64 x.a) ∧ w.cell? ⟨b, o + j * 4 + 1 + 1 + 1, none⟩ = some (.int .u64 x.b)) ∧ OkK x) := hcs
  have hra : ra = some ⟨b, o, none⟩ := hor.resolve_left (by omega)
  rw [hra]
  have qP : ∀ (g : Nat) (W : World), (binOp .eql 25 (.pointer (some ⟨g, 0, none⟩)) (.pointer none)).run Try.prog W = .ok (.bool false) W := fun g W => by simp [go_sem]
  clear hor hcs hra
  go_enter Try.func8, Try.ntmps8
  go_wp2_with fail
  refine Calls.mono (new_any l.length w h4 h5) ?_
  rintro e w1 ⟨hb, ab, rfl, c1, b1, l1, l2, _⟩
  have HT : Hid (CN w w1 hb ab (hpH l 0)) := ⟨by unfold hpH; simpa using c1, b1, l1, l2⟩
  clear c1 b1
  go_wp2_with fail
  go_loopw [6] (fun i wr => ∃ j : Nat, i = .int .i64 j ∧ j ≤ l.length ∧ Hid (CN w wr hb ab (hpH l j))) (fun i _ => l.length - (intOf i).toNat)
  case atStart => exact ⟨0, rfl, Nat.zero_le _, HT⟩
  case round =>
    clear HT
    obtain ⟨j, rfl, hj, HI⟩ := hrel
    by_cases hjl : j < l.length
    · have k1 : (j : Int) < (l.length : Int) := by omega
      have k1' : decide ((j : Int) < (l.length : Int)) = true := by simpa using hjl
      obtain ⟨x, hx⟩ : ∃ x, l[j]? = some x := ⟨_, List.getElem?_eq_getElem hjl⟩
      obtain ⟨g1, ⟨y1, y2, y3, y4⟩, hok⟩ := HCS.out j x hx
      have HE : Hid (hpH l (j + 1) = makeH (hpH l j) j x) := hpH_next hx
      generalize hG : hpH l j = G at HI HE
      have HOK : Hid (OkK x) := hok
      have bw := HI.out.b
      have u1 := (bw.cell (p := ⟨b, o + j * 4, none⟩) g1).trans y1
      have u2 := (bw.cell (p := ⟨b, o + j * 4 + 1, none⟩) g1).trans y2
      have u3 := (bw.cell (p := ⟨b, o + j * 4 + 1 + 1, none⟩) g1).trans y3
      have u4 := (bw.cell (p := ⟨b, o + j * 4 + 1 + 1 + 1, none⟩) g1).trans y4
      have gl : b < wr.heap.size := Nat.lt_of_lt_of_le g1 bw.size
      by_cases hk : x.k = 0
      · have z1 : (x.k != 0) = false := by simpa using hk
        have HE2 : Hid (makeH G j x = G) := makeH_no (by unfold makeF; simp [hk])
        clear hx y1 y2 y3 y4 hG hok bw hk
        go_wp2_with fail
        refine ⟨⟨j + 1, by go_num, by omega, ?_⟩, by simp [intOf]; omega⟩
        rw [HE.out, HE2.out]
        exact HI.out.al _
      · have z1 : (x.k != 0) = true := by simpa using hk
        have HI2 : Hid (CN w (wr.alloc (KO x)) hb ab G) := HI.out.al _
        clear hx y1 y2 y3 y4 hG hok bw hk
        go_wp2_with fail
        refine Calls.mono (hmake_any (j : Int) x HI2.out.c HOK.out) ?_
        rintro e w4 ⟨rfl, hx⟩
        have HI3 : Hid (CN w w4 hb ab (makeH G j x)) := HI2.out.ex hx
        clear hx
        go_wp2_with fail
        refine ⟨⟨j + 1, by go_num, by omega, ?_⟩, by simp [intOf]; omega⟩
        rw [HE.out]
        exact HI3
    · have e : j = l.length := by omega
      subst e
      have k1 : ¬ ((l.length : Int) < (l.length : Int)) := by omega
      rw [hpH_all l] at HI
      go_wp2_with fail
      refine Calls.mono (snapshot_any HI.out.c) ?_
      rintro e w4 ⟨g, rfl, hk4, hb4, hg4⟩
      have HI4 : Hid (CN w w4 hb ab (l.map plX)) := HI.out.below hb4
      have HK4 : Hid (KR w4 g (l.map plX) (l.map plX).length) := hk4
      have lg : w.heap.size ≤ g := Nat.le_trans HI.out.b.size hg4
      clear hk4 hb4
      go_wp2_with fail
      go_ret2
      exact ⟨_, _, _, rfl, HI4.out, HK4.out, lg⟩
end Go.Proofs.Ytjbfpklbgefacaa
