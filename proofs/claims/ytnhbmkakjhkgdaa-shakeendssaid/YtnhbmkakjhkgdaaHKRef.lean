/- The document's shake: how it lies in memory; who is open, asked, scanned, left. -/
import Derived.Test.YtnhbmkakjhkgdaaHKWorks
namespace Go.Proofs.Ytnhbmkakjhkgdaa
open Go.RowKit

def rowB (L : List (Bool × Bool)) : List Value := L.flatMap (fun p => [.bool p.1, .bool p.2])
theorem rowB_len (L : List (Bool × Bool)) : (rowB L).length = L.length * 2 := by
  induction L with
  | nil => rfl
  | cons p L ih =>
    show ([Value.bool p.1, Value.bool p.2] ++ rowB L).length = _
    rw [List.length_append, ih]
    simp; omega
theorem rowB_at : ∀ {L : List (Bool × Bool)} {j : Nat} {p : Bool × Bool}, L[j]? = some p → (rowB L)[j * 2]? = some (.bool p.1) ∧ (rowB L)[j * 2 + 1]? = some (.bool p.2)
  | [], j, p, h => by simp at h
  | q :: L, 0, p, h => by
    simp at h
    subst h
    exact ⟨rfl, rfl⟩
  | q :: L, j + 1, p, h => by
    have := rowB_at (L := L) (j := j) (by simpa using h)
    have e : rowB (q :: L) = .bool q.1 :: .bool q.2 :: rowB L := rfl
    rw [e, show (j + 1) * 2 = j * 2 + 1 + 1 by omega]
    exact ⟨by simpa using this.1, by simpa using this.2⟩
structure DL (w : World) (r : Nat) (v : Value) (L : List (Bool × Bool)) (c : Bool) : Prop where
  obj : w.heap[r]? = some (.cells #[v, .bool c] 30 (0, 0))
  row : w.ownsRow 0 54 2 v L.length (rowB L)
/-- What it says of a shake. -/
def Mt (s : Sk) (L : List (Bool × Bool)) : Prop := L.length = s.n ∧ (s.c = true → ∀ (i : Nat) p, L[i]? = some p → p = (!s.l (i + 1), s.a (i + 1)))
theorem ty_ne {w : World} {g h : Nat} {cs ds : Array Value} {t u : TypeId} (hg : w.heap[g]? = some (.cells cs t (0, 0))) (hh : w.heap[h]? = some (.cells ds u (0, 0))) (hn : t ≠ u) : g ≠ h := fun e => by
  subst e
  rw [hg] at hh
  cases hh
  exact hn rfl
theorem own_blk {w : World} {base e size n g : Nat} {v : Value} {xs : List Value} (h : w.ownsRow base e size v n xs) (hg : v.ownBlock = some g) : ∃ cs, w.heap[g]? = some (.cells cs e (0, 0)) := by
  rcases h.2 with ⟨h', _⟩ | ⟨g', cap, cur, hv, _, hh, _⟩
  · rw [h'] at hg; cases hg
  · rw [hv] at hg
    cases hg
    exact ⟨cur, hh⟩
theorem DL.lt {w : World} {r : Nat} {v : Value} {L : List (Bool × Bool)} {c : Bool} (h : DL w r v L c) : r < w.heap.size := heap_lt h.obj
theorem DL.c0 {w : World} {r : Nat} {v : Value} {L : List (Bool × Bool)} {c : Bool} (h : DL w r v L c) : w.cell? ⟨r, 0, none⟩ = some v := heap_cell h.obj rfl
theorem DL.c1 {w : World} {r : Nat} {v : Value} {L : List (Bool × Bool)} {c : Bool} (h : DL w r v L c) : w.cell? ⟨r, 1, none⟩ = some (.bool c) := heap_cell h.obj rfl
theorem DL.fz {w : World} {r : Nat} {v : Value} {L : List (Bool × Bool)} {c : Bool} (h : DL w r v L c) (j : Nat) : w.frozen? ⟨r, j, none⟩ = false := by simp [World.frozen?, h.obj]
theorem DL.sl {w : World} {r : Nat} {v : Value} {L : List (Bool × Bool)} {c : Bool} (h : DL w r v L c) : ∃ ra ca, v = .slice ra L.length ca := own_sl h.row
theorem DL.at {w : World} {r : Nat} {ra : Option Addr} {ca n : Nat} {L : List (Bool × Bool)} {c : Bool} (h : DL w r (.slice ra n ca) L c) {j : Nat} {p : Bool × Bool} (hj : L[j]? = some p) : ∃ g, ra = some ⟨g, 0, none⟩ ∧ g < w.heap.size ∧ g ≠ r ∧ w.cell? ⟨g, j * 2, none⟩ = some (.bool p.1) ∧ w.cell? ⟨g, j * 2 + 1, none⟩ = some (.bool p.2) ∧ ∀ o, w.frozen? ⟨g, o, none⟩ = false := by
  have hl := (List.getElem?_eq_some_iff.1 hj).1
  have hr := h.row
  rcases hr.2 with ⟨_, h0⟩ | ⟨g, cap, cur, hv, r⟩
  · omega
  · cases hv
    obtain ⟨cs, hc⟩ := own_blk hr rfl
    exact ⟨g, rfl, heap_lt hc, ty_ne hc h.obj (by decide), own_cell hr (rowB_at hj).1, own_cell hr (rowB_at hj).2, fun o => by simp [World.frozen?, hc]⟩
theorem DL.kept {w w' : World} {r : Nat} {v : Value} {L : List (Bool × Bool)} {c : Bool} (h : DL w r v L c) (hk : ∀ g, g = r ∨ v.ownBlock = some g → w'.heap[g]? = w.heap[g]?) : DL w' r v L c :=
  ⟨(hk r (.inl rfl)).trans h.obj, own_same h.row (fun g hg => hk g (.inr hg))⟩
theorem own_len {w : World} {base e size n : Nat} {ra : Option Addr} {ca m : Nat} {xs : List Value} (h : w.ownsRow base e size (.slice ra m ca) n xs) : m = n := by
  rcases h.2 with ⟨h', h0⟩ | ⟨g', cap, cur, hv, _⟩
  · cases h'; exact h0.symm
  · cases hv; rfl
theorem Mt.at {s : Sk} {L : List (Bool × Bool)} (h : Mt s L) {i : Nat} (h1 : i < s.n) : ∃ p, L[i]? = some p ∧ (s.c = true → p = (!s.l (i + 1), s.a (i + 1))) := by
  have : i < L.length := by rw [h.1]; exact h1
  exact ⟨_, List.getElem?_eq_getElem this, fun hc => h.2 hc i _ (List.getElem?_eq_getElem this)⟩
theorem int1 {t : Int} (h1 : 1 ≤ t) : ∃ i : Nat, t - 1 = i ∧ t.toNat = i + 1 := ⟨(t - 1).toNat, by omega, by omega⟩
set_option maxRecDepth 100000 in
set_option maxHeartbeats 4000000 in
theorem refOpen_any (r : Nat) (v : Value) (L : List (Bool × Bool)) (s : Sk) (t : Int) (w : World) (h : DL w r v L s.c) (hm : Mt s L) (hk : Ok s) : Calls Try.prog 29 #[.pointer (some ⟨r, 0, none⟩), .int .i64 t] w fun e w' => e = .returned (.bool (isL s t)) ∧ w' = w := by
  obtain ⟨ra, ca, rfl⟩ := h.sl
  have lr := h.lt
  have c0 := h.c0
  have c1 := h.c1
  have hn := hm.1
  have h8 := hk.le
  cases hc : s.c
  · have e : isL s t = false := by
      unfold isL
      cases e : s.l t.toNat
      · simp
      · have := hk.left _ e; rw [hc] at this; cases this
    rw [e]
    rw [hc] at c1
    clear e hc h hm hk
    go_enter Try.func29, Try.ntmps29
    go_wp2
    go_ret
    exact ⟨rfl, rfl⟩
  · rw [hc] at c1
    by_cases h1 : 1 ≤ t
    · by_cases h2 : t ≤ L.length
      · obtain ⟨i, hi, hi2⟩ := int1 h1
        obtain ⟨p, hp, hp2⟩ := hm.at (i := i) (by omega)
        obtain ⟨g, rfl, lg, _, d1, _, _⟩ := h.at hp
        have e : isL s t = !p.1 := by
          unfold isL
          rw [isT_iff.2 ⟨h1, by omega⟩, hp2 hc, hi2]; simp
        rw [e]
        have k1 : (i : Int) < (L.length : Int) := by omega
        have k2 : t ≥ 1 := h1
        clear e hc h hm hk hp hp2 hi2
        go_enter Try.func29, Try.ntmps29
        go_wp2
        go_ret
        exact ⟨rfl, rfl⟩
      · have e : isL s t = false := by
          unfold isL isT
          rw [show decide (t ≤ (s.n : Int)) = false from decide_eq_false (by omega)]; simp
        rw [e]
        have k2 : t ≥ 1 := h1
        clear e hc h hm hk
        go_enter Try.func29, Try.ntmps29
        go_wp2
        go_ret
        exact ⟨rfl, rfl⟩
    · have e : isL s t = false := by
        unfold isL isT
        rw [show decide (1 ≤ t) = false from decide_eq_false h1]; simp
      rw [e]
      have k2 : ¬ t ≥ 1 := h1
      clear e hc h hm hk
      go_enter Try.func29, Try.ntmps29
      go_wp2
      go_ret
      exact ⟨rfl, rfl⟩
set_option maxRecDepth 100000 in
set_option maxHeartbeats 4000000 in
theorem refAsked_any (r : Nat) (v : Value) (L : List (Bool × Bool)) (s : Sk) (t : Int) (w : World) (h : DL w r v L s.c) (hm : Mt s L) (hk : Ok s) : Calls Try.prog 24 #[.pointer (some ⟨r, 0, none⟩), .int .i64 t] w fun e w' => e = .returned (.bool (askedB s t)) ∧ w' = w := by
  obtain ⟨ra, ca, rfl⟩ := h.sl
  have lr := h.lt
  have c0 := h.c0
  have c1 := h.c1
  have hn := hm.1
  have h8 := hk.le
  cases hc : s.c
  · have e : askedB s t = false := by
      unfold askedB
      cases e : s.a t.toNat
      · simp
      · have := hk.left _ (hk.ask _ e); rw [hc] at this; cases this
    rw [e]
    rw [hc] at c1
    clear e hc h hm hk
    go_enter Try.func24, Try.ntmps24
    go_wp2
    go_ret
    exact ⟨rfl, rfl⟩
  · rw [hc] at c1
    by_cases h1 : 1 ≤ t
    · by_cases h2 : t ≤ L.length
      · obtain ⟨i, hi, hi2⟩ := int1 h1
        obtain ⟨p, hp, hp2⟩ := hm.at (i := i) (by omega)
        obtain ⟨g, rfl, lg, _, _, d1, _⟩ := h.at hp
        have e : askedB s t = p.2 := by
          unfold askedB
          rw [isT_iff.2 ⟨h1, by omega⟩, hp2 hc, hi2]; simp
        rw [e]
        have k1 : (i : Int) < (L.length : Int) := by omega
        have k2 : t ≥ 1 := h1
        clear e hc h hm hk hp hp2 hi2
        go_enter Try.func24, Try.ntmps24
        go_wp2
        go_ret
        exact ⟨rfl, rfl⟩
      · have e : askedB s t = false := by
          unfold askedB isT
          rw [show decide (t ≤ (s.n : Int)) = false from decide_eq_false (by omega)]; simp
        rw [e]
        have k2 : t ≥ 1 := h1
        clear e hc h hm hk
        go_enter Try.func24, Try.ntmps24
        go_wp2
        go_ret
        exact ⟨rfl, rfl⟩
    · have e : askedB s t = false := by
        unfold askedB isT
        rw [show decide (1 ≤ t) = false from decide_eq_false h1]; simp
      rw [e]
      have k2 : ¬ t ≥ 1 := h1
      clear e hc h hm hk
      go_enter Try.func24, Try.ntmps24
      go_wp2
      go_ret
      exact ⟨rfl, rfl⟩
set_option maxRecDepth 100000 in
set_option maxHeartbeats 4000000 in
theorem refScanned_any (r : Nat) (v : Value) (L : List (Bool × Bool)) (s : Sk) (t : Int) (w : World) (h : DL w r v L s.c) (hm : Mt s L) (hk : Ok s) : Calls Try.prog 25 #[.pointer (some ⟨r, 0, none⟩), .int .i64 t] w fun e w' => e = .returned (.bool (scanB s t)) ∧ w' = w := by
  obtain ⟨ra, ca, rfl⟩ := h.sl
  have lr := h.lt
  have c0 := h.c0
  have c1 := h.c1
  have hn := hm.1
  have h8 := hk.le
  by_cases h1 : 1 ≤ t
  · by_cases h2 : t ≤ L.length
    · have k2 : t ≥ 1 := h1
      have eT := isT_iff.2 (show 1 ≤ t ∧ t ≤ s.n from ⟨h1, by omega⟩)
      cases hc : s.c
      · have e : scanB s t = true := by
          unfold scanB
          cases e : s.l t.toNat
          · rw [eT]; rfl
          · have := hk.left _ e; rw [hc] at this; cases this
        rw [e]
        rw [hc] at c1
        clear e hc h hm hk eT
        go_enter Try.func25, Try.ntmps25
        go_wp2
        go_ret
        exact ⟨rfl, rfl⟩
      · rw [hc] at c1
        obtain ⟨i, hi, hi2⟩ := int1 h1
        obtain ⟨p, hp, hp2⟩ := hm.at (i := i) (by omega)
        obtain ⟨g, rfl, lg, _, d1, _, _⟩ := h.at hp
        have e : scanB s t = p.1 := by
          unfold scanB
          rw [eT, hp2 hc, hi2]; simp
        rw [e]
        have k1 : (i : Int) < (L.length : Int) := by omega
        clear e hc h hm hk hp hp2 hi2 eT
        go_enter Try.func25, Try.ntmps25
        go_wp2
        go_ret
        exact ⟨rfl, rfl⟩
    · have e : scanB s t = false := by
        unfold scanB isT
        rw [show decide (t ≤ (s.n : Int)) = false from decide_eq_false (by omega)]; simp
      rw [e]
      have k2 : t ≥ 1 := h1
      clear e h hm hk
      go_enter Try.func25, Try.ntmps25
      go_wp2
      go_ret
      exact ⟨rfl, rfl⟩
  · have e : scanB s t = false := by
      unfold scanB isT
      rw [show decide (1 ≤ t) = false from decide_eq_false h1]; simp
    rw [e]
    have k2 : ¬ t ≥ 1 := h1
    clear e h hm hk
    go_enter Try.func25, Try.ntmps25
    go_wp2
    go_ret
    exact ⟨rfl, rfl⟩
set_option maxRecDepth 100000 in
set_option maxHeartbeats 4000000 in
theorem refLeft_any (r : Nat) (v : Value) (L : List (Bool × Bool)) (s : Sk) (w : World) (h : DL w r v L s.c) (hm : Mt s L) (hk : Ok s) : Calls Try.prog 26 #[.pointer (some ⟨r, 0, none⟩)] w fun e w' => e = .returned (.int .i64 (leftM s)) ∧ w' = w := by
  have HO : Hid (∀ t : Int, Calls Try.prog 29 #[.pointer (some ⟨r, 0, none⟩), .int .i64 t] w fun e w' => e = .returned (.bool (isL s t)) ∧ w' = w) := fun t => refOpen_any r v L s t w h hm hk
  obtain ⟨ra, ca, rfl⟩ := h.sl
  have lr := h.lt
  have c0 := h.c0
  have hn := hm.1
  have h8 := hk.le
  have HK : Hid (Ok s) := hk
  have e0 : leftM s = least s.l 1 s.n := least_step hk.nil
  clear h hm hk
  go_enter Try.func26, Try.ntmps26
  go_wp2
  go_loopw [3] (fun i wr => ∃ j : Nat, i = .int .i64 j ∧ 1 ≤ j ∧ j ≤ s.n + 1 ∧ Hid (leftM s = least s.l j (s.n + 1 - j)) ∧ wr = w) (fun i _ => s.n + 1 - (intOf i).toNat)
  case atStart => exact ⟨1, rfl, Nat.le_refl _, by omega, e0, rfl⟩
  case round =>
    clear e0
    obtain ⟨j, rfl, hj1, hj, HN, rfl⟩ := hrel
    by_cases hjl : j ≤ s.n
    · have k1 : (j : Int) ≤ (L.length : Int) := by omega
      obtain ⟨k, hk⟩ : ∃ k, s.n + 1 - j = k + 1 := ⟨s.n - j, by omega⟩
      have HC : Hid _ := HO.out (j : Int)
      have eT := isT_iff.2 (show 1 ≤ (j : Int) ∧ (j : Int) ≤ s.n from ⟨by omega, by omega⟩)
      have eL : isL s (j : Int) = s.l j := by unfold isL; rw [eT]; simp
      rw [eL] at HC
      cases hl : s.l j
      · rw [hl] at HC
        have HN1 : Hid (leftM s = least s.l (j + 1) (s.n + 1 - (j + 1))) := by
          have := HN.out
          rw [hk, least_step hl] at this
          rw [show s.n + 1 - (j + 1) = k by omega]; exact this
        clear hl hk eL eT
        go_wp2_with fail
        refine Calls.mono HC.out ?_
        rintro e w1 ⟨rfl, rfl⟩
        clear HC
        go_wp2
        go_roundw
        case rel => exact ⟨j + 1, by go_num, by omega, by omega, HN1, by first | rfl | trivial⟩
        case measure => simp [intOf]; omega
      · rw [hl] at HC
        have HN1 : Hid (leftM s = j) := by
          have := HN.out
          rw [hk, least_here hl] at this
          exact this
        clear hl hk eL eT
        go_wp2_with fail
        refine Calls.mono HC.out ?_
        rintro e w1 ⟨rfl, rfl⟩
        clear HC
        go_wp2
        go_ret
        exact ⟨by rw [HN1.out]; rfl, rfl⟩
    · have k1 : ¬ (j : Int) ≤ (L.length : Int) := by omega
      have HN1 : Hid (leftM s = 0) := by
        have := HN.out
        rw [show s.n + 1 - j = 0 by omega] at this
        exact this
      go_wp2
      go_ret
      exact ⟨by rw [HN1.out]; rfl, rfl⟩
end Go.Proofs.Ytnhbmkakjhkgdaa
