/- The document's shake: Begin, Ask, Lay, End. -/
import Derived.Test.YtnhbmkakjhkgdaaHKRef
namespace Go.Proofs.Ytnhbmkakjhkgdaa
open Go.RowKit

theorem rowB_set1 : ∀ {L : List (Bool × Bool)} {j : Nat} {p : Bool × Bool} (x : Bool), L[j]? = some p → rowB (L.set j (x, p.2)) = (rowB L).set (j * 2) (.bool x)
  | [], j, p, x, h => by simp at h
  | q :: L, 0, p, x, h => by
    simp at h
    subst h
    rfl
  | q :: L, j + 1, p, x, h => by
    have := rowB_set1 (L := L) (j := j) x (by simpa using h)
    have e : ∀ M : List (Bool × Bool), rowB (q :: M) = .bool q.1 :: .bool q.2 :: rowB M := fun _ => rfl
    rw [List.set_cons_succ, e, e, this, show (j + 1) * 2 = j * 2 + 1 + 1 by omega, List.set_cons_succ, List.set_cons_succ]
theorem rowB_set2 : ∀ {L : List (Bool × Bool)} {j : Nat} {p : Bool × Bool} (y : Bool), L[j]? = some p → rowB (L.set j (p.1, y)) = (rowB L).set (j * 2 + 1) (.bool y)
  | [], j, p, x, h => by simp at h
  | q :: L, 0, p, x, h => by
    simp at h
    subst h
    rfl
  | q :: L, j + 1, p, x, h => by
    have := rowB_set2 (L := L) (j := j) x (by simpa using h)
    have e : ∀ M : List (Bool × Bool), rowB (q :: M) = .bool q.1 :: .bool q.2 :: rowB M := fun _ => rfl
    rw [List.set_cons_succ, e, e, this, show (j + 1) * 2 + 1 = j * 2 + 1 + 1 + 1 by omega, List.set_cons_succ, List.set_cons_succ]
theorem own_set {w : World} {base e size n cap g k : Nat} {xs : List Value} (h : w.ownsRow base e size (.slice (some ⟨g, 0, none⟩) n cap) n xs) (hk : k < xs.length) (u : Value) : (w.setCell ⟨g, k, none⟩ u).ownsRow base e size (.slice (some ⟨g, 0, none⟩) n cap) n (xs.set k u) := by
  obtain ⟨cs, h1, h2, h3, h4, h5, h6, h7⟩ := own_out h
  refine own_of (set_atC h1 u) (by simp [h2]) h3 h4 h5 (by simp [h6]) (fun j x hj => ?_)
  rw [List.getElem?_set] at hj
  have hkc : k < cs.size := (Array.getElem?_eq_some_iff.1 (h7 k _ (List.getElem?_eq_getElem hk))).1
  split at hj
  · rename_i e
    subst e
    cases hj
    rw [Array.getElem?_setIfInBounds_self_of_lt hkc]
  · rename_i e
    rw [Array.getElem?_setIfInBounds_ne e]
    exact h7 j x hj
theorem DL.set1 {w : World} {r g ca n : Nat} {L : List (Bool × Bool)} {c : Bool} (h : DL w r (.slice (some ⟨g, 0, none⟩) n ca) L c) (hne : g ≠ r) {j : Nat} {p : Bool × Bool} (hj : L[j]? = some p) (x : Bool) : DL (w.setCell ⟨g, j * 2, none⟩ (.bool x)) r (.slice (some ⟨g, 0, none⟩) n ca) (L.set j (x, p.2)) c := by
  have hl := (List.getElem?_eq_some_iff.1 hj).1
  have hr := h.row
  have hn := own_len hr
  subst hn
  refine ⟨(Below.heap_setCell _ _ _ _ (fun e => hne e.symm)).trans h.obj, ?_⟩
  rw [List.length_set, rowB_set1 x hj]
  exact own_set hr (by rw [rowB_len]; omega) _
theorem DL.set2 {w : World} {r g ca n : Nat} {L : List (Bool × Bool)} {c : Bool} (h : DL w r (.slice (some ⟨g, 0, none⟩) n ca) L c) (hne : g ≠ r) {j : Nat} {p : Bool × Bool} (hj : L[j]? = some p) (x : Bool) : DL (w.setCell ⟨g, j * 2 + 1, none⟩ (.bool x)) r (.slice (some ⟨g, 0, none⟩) n ca) (L.set j (p.1, x)) c := by
  have hl := (List.getElem?_eq_some_iff.1 hj).1
  have hr := h.row
  have hn := own_len hr
  subst hn
  refine ⟨(Below.heap_setCell _ _ _ _ (fun e => hne e.symm)).trans h.obj, ?_⟩
  rw [List.length_set, rowB_set2 x hj]
  exact own_set hr (by rw [rowB_len]; omega) _
theorem DL.setC {w : World} {r : Nat} {v : Value} {L : List (Bool × Bool)} {c : Bool} (h : DL w r v L c) (x : Bool) : DL (w.setCell ⟨r, 1, none⟩ (.bool x)) r v L x := by
  refine ⟨set_atC h.obj _, own_same h.row (fun g hg => Below.heap_setCell _ _ _ _ ?_)⟩
  obtain ⟨cs, hc⟩ := own_blk h.row hg
  exact ty_ne hc h.obj (by decide)
/-- What a call leaves. -/
def DF (r : Nat) (v : Value) (g : Nat) : Prop := g = r ∨ v.ownBlock = some g
def RP (r : Nat) (v : Value) (s' : Sk) (w w' : World) : Prop := ∃ v' L', DL w' r v' L' s'.c ∧ Mt s' L' ∧ (∀ g, g < w.heap.size → ¬ DF r v g → w'.heap[g]? = w.heap[g]?) ∧ Below 0 w w' ∧ ∀ g, v'.ownBlock = some g → v.ownBlock = some g ∨ w.heap.size ≤ g
theorem DL.same {w : World} {r : Nat} {v : Value} {L : List (Bool × Bool)} {s : Sk} (h : DL w r v L s.c) (hm : Mt s L) : RP r v s w w := ⟨v, L, h, hm, fun _ _ _ => rfl, Below.refl _ _, fun _ h => .inl h⟩
theorem RP.set {w w' : World} {r g : Nat} {v v1 : Value} {s s' : Sk} {j : Nat} {u : Value} {L' : List (Bool × Bool)} (h : RP r v s w w') (hg : DF r v g) (hd : DL (w'.setCell ⟨g, j, none⟩ u) r v1 L' s'.c) (hm : Mt s' L') (ho : ∀ g, v1.ownBlock = some g → v.ownBlock = some g ∨ w.heap.size ≤ g) : RP r v s' w (w'.setCell ⟨g, j, none⟩ u) := by
  obtain ⟨v', L1, _, _, h3, h4, _⟩ := h
  exact ⟨v1, L', hd, hm, fun k hk hn => (Below.heap_setCell _ _ _ _ (fun e => hn (by rw [show k = g from e]; exact hg))).trans (h3 k hk hn), h4.setCell (p := ⟨g, j, none⟩) (Nat.zero_le _) _, ho⟩
theorem mt_set {s : Sk} {L : List (Bool × Bool)} (h : Mt s L) {i : Nat} {f a : Nat → Bool} {q : Bool × Bool} (hq : q = (!f (i + 1), a (i + 1))) (hf : ∀ k, k ≠ i + 1 → f k = s.l k ∧ a k = s.a k) : Mt ⟨s.n, s.c, f, a⟩ (L.set i q) := by
  refine ⟨by rw [List.length_set]; exact h.1, fun hc k p hk => ?_⟩
  by_cases e : k = i
  · subst e
    rw [List.getElem?_set_self (by have := (List.getElem?_eq_some_iff.1 hk).1; simpa using this)] at hk
    cases hk
    exact hq
  · rw [List.getElem?_set_ne (fun e' => e e'.symm)] at hk
    have := h.2 hc k p hk
    dsimp only
    rw [(hf (k + 1) (by omega)).1, (hf (k + 1) (by omega)).2]
    exact this
set_option maxRecDepth 100000 in
set_option maxHeartbeats 4000000 in
theorem refAsk_any (r : Nat) (v : Value) (L : List (Bool × Bool)) (s : Sk) (t : Int) (w : World) (h : DL w r v L s.c) (hm : Mt s L) (hk : Ok s) : Calls Try.prog 20 #[.pointer (some ⟨r, 0, none⟩), .int .i64 t] w fun e w' => e = .returned (.int .i64 (askM s t).1) ∧ RP r v (askM s t).2 w w' := by
  have HC : Hid _ := refOpen_any r v L s t w h hm hk
  have HS : Hid (RP r v s w w) := h.same hm
  obtain ⟨ra, ca, rfl⟩ := h.sl
  have lr := h.lt
  have c0 := h.c0
  have hn := hm.1
  have h8 := hk.le
  cases ht : isL s t
  · rw [ht] at HC
    have e : askM s t = (140, s) := by unfold askM; rw [if_pos (.inl ht)]
    rw [e]
    dsimp only
    clear ht h e hm hk
    go_enter Try.func20, Try.ntmps20
    go_wp2_with fail
    refine Calls.mono HC.out ?_
    rintro e w1 ⟨rfl, rfl⟩
    clear HC
    go_wp2
    go_ret
    exact ⟨rfl, HS.out⟩
  · rw [ht] at HC
    have hb := Bool.and_eq_true_iff.1 ht
    obtain ⟨h1, h2⟩ := isT_iff.1 hb.1
    have hc : s.c = true := hk.left _ hb.2
    obtain ⟨i, hi, hi2⟩ := int1 h1
    obtain ⟨p, hp, hp2⟩ := hm.at (i := i) (by omega)
    obtain ⟨g, rfl, lg, hgr, _, d1, fz⟩ := h.at hp
    have hp3 := hp2 hc
    have k1 : (i : Int) < (L.length : Int) := by omega
    have fz1 := fz (i * 2 + 1)
    cases ha : s.a t.toNat
    · have e : askM s t = (0, ⟨s.n, s.c, s.l, put s.a (i + 1) true⟩) := by
        unfold askM
        rw [if_neg (fun hh => by rcases hh with hh | hh; · rw [ht] at hh; cases hh
                                 · rw [ha] at hh; cases hh), hi2]
      rw [e]
      dsimp only
      rw [hp3] at d1
      dsimp only at d1
      rw [hi2] at ha
      rw [ha] at d1
      have HE : Hid (RP r (.slice (some ⟨g, 0, none⟩) L.length ca) ⟨s.n, s.c, s.l, put s.a (i + 1) true⟩ w (w.setCell ⟨g, i * 2 + 1, none⟩ (.bool true))) :=
        HS.out.set (.inr rfl) (h.set2 hgr hp true) (mt_set hm (by rw [hp3, put_same]) (fun k hk => ⟨rfl, put_ne hk⟩)) (fun _ h => .inl h)
      clear ht h e ha hm hk fz hp hp2 hp3 hb HS hi2 hc
      go_enter Try.func20, Try.ntmps20
      go_wp2_with fail
      refine Calls.mono HC.out ?_
      rintro e w1 ⟨rfl, rfl⟩
      clear HC
      go_wp2
      go_ret
      exact ⟨rfl, HE.out⟩
    · have e : askM s t = (140, s) := by unfold askM; rw [if_pos (.inr ha)]
      rw [e]
      dsimp only
      rw [hp3] at d1
      dsimp only at d1
      rw [hi2] at ha
      rw [ha] at d1
      clear ht h e ha hm hk fz hp hp2 hp3 hb hi2 hc
      go_enter Try.func20, Try.ntmps20
      go_wp2_with fail
      refine Calls.mono HC.out ?_
      rintro e w1 ⟨rfl, rfl⟩
      clear HC
      go_wp2
      go_ret
      exact ⟨rfl, HS.out⟩
set_option maxRecDepth 100000 in
set_option maxHeartbeats 4000000 in
theorem refLay_any (r : Nat) (v : Value) (L : List (Bool × Bool)) (s : Sk) (t : Int) (w : World) (h : DL w r v L s.c) (hm : Mt s L) (hk : Ok s) : Calls Try.prog 21 #[.pointer (some ⟨r, 0, none⟩), .int .i64 t] w fun e w' => e = .returned (.int .i64 (layM s t).1) ∧ RP r v (layM s t).2 w w' := by
  have HC : Hid _ := refOpen_any r v L s t w h hm hk
  have HS : Hid (RP r v s w w) := h.same hm
  obtain ⟨ra, ca, rfl⟩ := h.sl
  have lr := h.lt
  have c0 := h.c0
  have hn := hm.1
  have h8 := hk.le
  cases ht : isL s t
  · rw [ht] at HC
    have e : layM s t = (140, s) := by unfold layM; rw [if_pos ht]
    rw [e]
    dsimp only
    clear ht h e hm hk
    go_enter Try.func21, Try.ntmps21
    go_wp2_with fail
    refine Calls.mono HC.out ?_
    rintro e w1 ⟨rfl, rfl⟩
    clear HC
    go_wp2
    go_ret
    exact ⟨rfl, HS.out⟩
  · rw [ht] at HC
    have hb := Bool.and_eq_true_iff.1 ht
    obtain ⟨h1, h2⟩ := isT_iff.1 hb.1
    obtain ⟨i, hi, hi2⟩ := int1 h1
    obtain ⟨p, hp, _⟩ := hm.at (i := i) (by omega)
    obtain ⟨g, rfl, lg, hgr, d0, d1, fz⟩ := h.at hp
    have k1 : (i : Int) < (L.length : Int) := by omega
    have fz0 := fz (i * 2)
    have fz1 := fz (i * 2 + 1)
    have e : layM s t = (0, ⟨s.n, s.c, put s.l (i + 1) false, put s.a (i + 1) false⟩) := by
      unfold layM
      rw [if_neg (by rw [ht]; decide), hi2]
    rw [e]
    dsimp only
    have hset := h.set1 hgr hp true
    have hp' : (L.set i (true, p.2))[i]? = some (true, p.2) := List.getElem?_set_self (List.getElem?_eq_some_iff.1 hp).1
    have hset2 := hset.set2 hgr hp' false
    rw [List.set_set] at hset2
    have HE : Hid (RP r (.slice (some ⟨g, 0, none⟩) L.length ca) ⟨s.n, s.c, put s.l (i + 1) false, put s.a (i + 1) false⟩ w ((w.setCell ⟨g, i * 2, none⟩ (.bool true)).setCell ⟨g, i * 2 + 1, none⟩ (.bool false))) := by
      refine ⟨_, _, hset2, mt_set hm (by rw [put_same, put_same]; rfl) (fun k hk => ⟨put_ne hk, put_ne hk⟩), fun k _ hn => ?_, ((Below.refl 0 w).setCell (p := ⟨g, i * 2, none⟩) (Nat.zero_le _) _).setCell (p := ⟨g, i * 2 + 1, none⟩) (Nat.zero_le _) _, fun _ h => .inl h⟩
      have hkg : k ≠ g := fun e => hn (.inr (by rw [e]; rfl))
      rw [Below.heap_setCell _ _ _ _ hkg, Below.heap_setCell _ _ _ _ hkg]
    clear ht h e hm hk fz hp hb HS hi2 hset hset2 hp'
    go_enter Try.func21, Try.ntmps21
    go_wp2_with fail
    refine Calls.mono HC.out ?_
    rintro e w1 ⟨rfl, rfl⟩
    clear HC
    go_wp2
    go_ret
    exact ⟨rfl, HE.out⟩
set_option maxRecDepth 100000 in
set_option maxHeartbeats 4000000 in
theorem refEnd_any (r : Nat) (v : Value) (L : List (Bool × Bool)) (s : Sk) (w : World) (h : DL w r v L s.c) (hm : Mt s L) (hk : Ok s) : Calls Try.prog 22 #[.pointer (some ⟨r, 0, none⟩)] w fun e w' => e = .returned (.int .i64 (endM s).1) ∧ RP r v (endM s).2 w w' := by
  have HC : Hid _ := refLeft_any r v L s w h hm hk
  have HS : Hid (RP r v s w w) := h.same hm
  have lr := h.lt
  have c1 := h.c1
  cases hc : s.c
  · have e : endM s = (140, s) := by unfold endM; rw [if_pos (.inl hc)]
    rw [e]
    dsimp only
    rw [hc] at c1
    clear h e hc hm hk
    go_enter Try.func22, Try.ntmps22
    go_wp2
    go_ret
    exact ⟨rfl, HS.out⟩
  · rw [hc] at c1
    by_cases hl : leftM s = 0
    · have e : endM s = (0, ⟨s.n, false, s.l, s.a⟩) := by
        unfold endM
        rw [if_neg (fun hh => by rcases hh with hh | hh; · rw [hc] at hh; cases hh
                                 · exact hh hl)]
      rw [e]
      dsimp only
      have HE : Hid (RP r v ⟨s.n, false, s.l, s.a⟩ w (w.setCell ⟨r, 1, none⟩ (.bool false))) := HS.out.set (.inl rfl) (h.setC false) ⟨hm.1, fun h => by cases h⟩ (fun _ h => .inl h)
      have fz := h.fz 1
      rw [hl] at HC
      clear h hc hl e hm hk HS
      go_enter Try.func22, Try.ntmps22
      go_wp2_with fail
      refine Calls.mono HC.out ?_
      rintro e w1 ⟨rfl, rfl⟩
      clear HC
      go_wp2
      go_ret
      exact ⟨rfl, HE.out⟩
    · have e : endM s = (140, s) := by unfold endM; rw [if_pos (.inr hl)]
      rw [e]
      dsimp only
      have k1 : ¬ (leftM s : Int) = 0 := by omega
      clear h hc e hl hm hk
      go_enter Try.func22, Try.ntmps22
      go_wp2_with fail
      refine Calls.mono HC.out ?_
      rintro e w1 ⟨rfl, rfl⟩
      clear HC
      go_wp2
      go_ret
      exact ⟨rfl, HS.out⟩
end Go.Proofs.Ytnhbmkakjhkgdaa
