/- What a book is asked.; What a book is asked, further.; What a book tells: who is stuck, how one ended, who holds a lock, a global.; What the calls do, as mathematics. -/
import Derived.Test.YtdlnkdcgipaoeaaDoorHLUp
/- What a book is asked. -/
namespace Go.Proofs.YtdlnkdcgipaoeaaDoor
open Go.RowKit

/-- For whom one waits. -/
def awM (t : List Th) (l : List Lk) (x : Int) : Int := match t.findIdx? (fun y => y.row.contains x) with
  | some i => (i : Int) + 1
  | none => match l.find? (fun y => y.row.contains x) with
    | some y => y.ho
    | none => 0
def isB (n : Nat) (x : Int) : Bool := decide (1 ≤ x) && decide (x ≤ n)
section
variable {w : World} {b : Nat} {pt pl pg : Sl} {T : List (Sl × Th)} {L : List (Sl × Lk)} {G : List Int}
theorem BX.c0 (h : BX w b pt pl pg T L G) : w.cell? ⟨b, 0, none⟩ = some (.slice pt.ra T.length pt.cap) := heap_cell h.obj rfl
theorem BX.c1 (h : BX w b pt pl pg T L G) : w.cell? ⟨b, 1, none⟩ = some (.slice pl.ra L.length pl.cap) := heap_cell h.obj rfl
theorem BX.c2 (h : BX w b pt pl pg T L G) : w.cell? ⟨b, 2, none⟩ = some (.slice pg.ra G.length pg.cap) := heap_cell h.obj rfl
set_option maxRecDepth 100000 in
set_option maxHeartbeats 4000000 in
theorem isThread_any (h : BX w b pt pl pg T L G) (x : Int) :
    Calls Tryd.prog 63 #[.pointer (some ⟨b, 0, none⟩), .int .i64 x] w fun e w' => e = .returned (.bool (isB T.length x)) ∧ w' = w := by
  have c0 := h.c0
  have lb := heap_lt h.obj
  clear h
  unfold isB
  generalize T.length = n at *
  by_cases h1 : 1 ≤ x
  · rw [show decide (1 ≤ x) = true from decide_eq_true h1]
    by_cases h2 : x ≤ n
    · rw [show decide (x ≤ (n : Int)) = true from decide_eq_true h2]
      go_enter Tryd.func63, Tryd.ntmps63
      go_wp2
      go_ret
      exact ⟨rfl, rfl⟩
    · rw [show decide (x ≤ (n : Int)) = false from decide_eq_false h2]
      go_enter Tryd.func63, Tryd.ntmps63
      go_wp2
      go_ret
      exact ⟨rfl, rfl⟩
  · rw [show decide (1 ≤ x) = false from decide_eq_false h1]
    go_enter Tryd.func63, Tryd.ntmps63
    go_wp2
    go_ret
    exact ⟨rfl, rfl⟩
def isL (n : Nat) (x : Int) : Bool := decide (0 ≤ x) && decide (x < n)
set_option maxRecDepth 100000 in
set_option maxHeartbeats 4000000 in
theorem isLock_any (h : BX w b pt pl pg T L G) (x : Int) :
    Calls Tryd.prog 66 #[.pointer (some ⟨b, 0, none⟩), .int .i64 x] w fun e w' => e = .returned (.bool (isL L.length x)) ∧ w' = w := by
  have c0 := h.c1
  have lb := heap_lt h.obj
  clear h
  unfold isL
  generalize L.length = n at *
  by_cases h1 : 0 ≤ x
  · rw [show decide (0 ≤ x) = true from decide_eq_true h1]
    by_cases h2 : x < n
    · rw [show decide (x < (n : Int)) = true from decide_eq_true h2]
      go_enter Tryd.func66, Tryd.ntmps66
      go_wp2
      go_ret
      exact ⟨rfl, rfl⟩
    · rw [show decide (x < (n : Int)) = false from decide_eq_false h2]
      go_enter Tryd.func66, Tryd.ntmps66
      go_wp2
      go_ret
      exact ⟨rfl, rfl⟩
  · rw [show decide (0 ≤ x) = false from decide_eq_false h1]
    go_enter Tryd.func66, Tryd.ntmps66
    go_wp2
    go_ret
    exact ⟨rfl, rfl⟩
set_option maxRecDepth 100000 in
set_option maxHeartbeats 4000000 in
theorem thread_any (h : BX w b pt pl pg T L G) {i gt : Nat} (hi : i < T.length) (hg : pt.ra = some ⟨gt, 0, none⟩) (_hl : gt < w.heap.size) :
    Calls Tryd.prog 64 #[.pointer (some ⟨b, 0, none⟩), .int .i64 ((i : Int) + 1)] w fun e w' => e = .returned (.pointer (some ⟨gt, i * 4, none⟩)) ∧ w' = w := by
  have c0 := h.c0
  have lb := heap_lt h.obj
  have hn := h.tn
  rw [hg] at c0
  clear h
  have hw : IntKind.i64.wrap ((i : Int) + 1 - 1) = (i : Int) := by
    rw [show (i : Int) + 1 - 1 = i by omega]
    exact IntWalk.i64_in _ (by omega)
  have k1 : (0 : Int) ≤ (i : Int) := by omega
  have k2 : (i : Int) < (T.length : Int) := by omega
  generalize T.length = n at *
  go_enter Tryd.func64, Tryd.ntmps64
  go_wp2
  go_ret
  exact ⟨rfl, rfl⟩
/-- No row is long. -/
def ShT (T : List (Sl × Th)) (L : List (Sl × Lk)) : Prop := ∀ p ∈ rws T L, p.2.length ≤ 1000
theorem aw_t {T : List (Sl × Th)} {x : Int} {j : Nat} {y : Sl × Th} (l : List Lk) (hj : T[j]? = some y) (hx : y.2.row.contains x = true) (hn : ∀ (k : Nat) (z : Sl × Th), k < j → T[k]? = some z → z.2.row.contains x = false) : awM (T.map (·.2)) l x = (j : Int) + 1 := by
  have hlt := (List.getElem?_eq_some_iff.1 hj).1
  have : (T.map (·.2)).findIdx? (fun y => y.row.contains x) = some j := by
    rw [List.findIdx?_eq_some_iff_getElem]
    refine ⟨by simpa using hlt, ?_, fun k hk => ?_⟩
    · have e : T[j] = y := (List.getElem?_eq_some_iff.1 hj).2
      simp only [List.getElem_map, e]
      exact hx
    · have := hn k _ hk (List.getElem?_eq_getElem (by omega))
      simp only [List.getElem_map]
      rw [this]
      exact Bool.false_ne_true
  simp only [awM, this]
theorem aw_l {T : List (Sl × Th)} {L : List (Sl × Lk)} {x : Int} {j : Nat} {y : Sl × Lk} (ht : ∀ (k : Nat) (z : Sl × Th), T[k]? = some z → z.2.row.contains x = false) (hj : L[j]? = some y) (hx : y.2.row.contains x = true) (hn : ∀ (k : Nat) (z : Sl × Lk), k < j → L[k]? = some z → z.2.row.contains x = false) : awM (T.map (·.2)) (L.map (·.2)) x = y.2.ho := by
  have h1 : (T.map (·.2)).findIdx? (fun y => y.row.contains x) = none := by
    rw [List.findIdx?_eq_none_iff]
    intro z hz
    obtain ⟨p, hp, rfl⟩ := List.mem_map.1 hz
    obtain ⟨k, hk⟩ := List.getElem?_of_mem hp
    exact ht k p hk
  have h2 : (L.map (·.2)).find? (fun y => y.row.contains x) = some y.2 := by
    rw [List.find?_eq_some_iff_getElem]
    have hlt := (List.getElem?_eq_some_iff.1 hj).1
    refine ⟨hx, j, by simpa using hlt, ?_, fun k hk => ?_⟩
    · have e : L[j] = y := (List.getElem?_eq_some_iff.1 hj).2
      simp only [List.getElem_map, e]
    · have := hn k _ hk (List.getElem?_eq_getElem (by omega))
      simp only [List.getElem_map]
      rw [this]
      rfl
  simp only [awM, h1, h2]
theorem aw_0 {T : List (Sl × Th)} {L : List (Sl × Lk)} {x : Int} (ht : ∀ (k : Nat) (z : Sl × Th), T[k]? = some z → z.2.row.contains x = false) (hn : ∀ (k : Nat) (z : Sl × Lk), L[k]? = some z → z.2.row.contains x = false) : awM (T.map (·.2)) (L.map (·.2)) x = 0 := by
  have h1 : (T.map (·.2)).findIdx? (fun y => y.row.contains x) = none := by
    rw [List.findIdx?_eq_none_iff]
    intro z hz
    obtain ⟨p, hp, rfl⟩ := List.mem_map.1 hz
    obtain ⟨k, hk⟩ := List.getElem?_of_mem hp
    exact ht k p hk
  have h2 : (L.map (·.2)).find? (fun y => y.row.contains x) = none := by
    rw [List.find?_eq_none]
    intro z hz
    obtain ⟨p, hp, rfl⟩ := List.mem_map.1 hz
    obtain ⟨k, hk⟩ := List.getElem?_of_mem hp
    rw [hn k p hk]
    exact Bool.false_ne_true
  simp only [awM, h1, h2]
set_option maxRecDepth 100000 in
set_option maxHeartbeats 4000000 in
theorem awaited_any (h : BX w b pt pl pg T L G) (hS : ShT T L) (x : Int) :
    Calls Tryd.prog 65 #[.pointer (some ⟨b, 0, none⟩), .int .i64 x] w fun e w' => e = .returned (.int .i64 (awM (T.map (·.2)) (L.map (·.2)) x)) ∧ w' = w := by
  have c0 := h.c0
  have c1 := h.c1
  have lb := heap_lt h.obj
  have tn := h.tn
  have ln := h.ln
  have HX : Hid (BX w b pt pl pg T L G) := h
  have HS : Hid (ShT T L) := hS
  clear h hS
  obtain ⟨tra, tca⟩ := pt
  obtain ⟨lra, lca⟩ := pl
  go_enter Tryd.func65, Tryd.ntmps65
  go_wp2
  go_loopw [12] (fun i wr => ∃ j : Nat, i = .int .i64 j ∧ j ≤ T.length ∧ wr = w ∧ Hid (∀ (k : Nat) (z : Sl × Th), k < j → T[k]? = some z → z.2.row.contains x = false)) (fun i _ => T.length - (intOf i).toNat)
  case atStart => exact ⟨0, rfl, Nat.zero_le _, rfl, fun k z hk => absurd hk (by omega)⟩
  case round =>
    obtain ⟨j, rfl, hj, rfl, HN⟩ := hrel
    by_cases hlt : j < T.length
    · have k1 : (j : Int) < (T.length : Int) := by omega
      have k0 : (0 : Int) ≤ (j : Int) := by omega
      obtain ⟨y, hy⟩ : ∃ y, T[j]? = some y := ⟨_, List.getElem?_eq_getElem hlt⟩
      obtain ⟨gt, hp, -, lg, cs, hcs, hc0, -⟩ := HX.out.tf hy
      have HH : Hid _ := has_any gt (j * 4) y.1 y.2.row x wr lg (heap_cell hcs hc0) (HX.out.r.r _ _ (rws_t L hy)) (HS.out _ (List.mem_of_getElem? (rws_t L hy)))
      have HY : Hid (T[j]? = some y) := hy
      dsimp only at hp
      subst hp
      clear hcs hc0 hy
      go_wp2_with fail
      refine Calls.mono HH.out ?_
      rintro e w2 ⟨rfl, hw2⟩
      rw [hw2]
      clear hw2 HH
      cases hx : y.2.row.contains x
      · go_wp2
        go_roundw
        case rel =>
          refine ⟨j + 1, by go_num, by omega, trivial, fun k z hk hz => ?_⟩
          by_cases e : k = j
          · subst e
            rw [HY.out] at hz
            cases hz
            exact hx
          · exact HN.out k z (by omega) hz
        case measure => simp [intOf]; omega
      · have HE : Hid _ := aw_t (L.map (·.2)) HY.out hx HN.out
        clear hx
        go_wp2
        go_ret
        refine ⟨?_, rfl⟩
        rw [HE.out]
        rfl
    · have k1 : ¬ (j : Int) < (T.length : Int) := by omega
      have HT : Hid (∀ (k : Nat) (z : Sl × Th), T[k]? = some z → z.2.row.contains x = false) := fun k z hz => HN.out k z (by have := (List.getElem?_eq_some_iff.1 hz).1; omega) hz
      clear HN
      go_wp2
      obtain ⟨wA, rfl⟩ : ∃ wA, wA = wr := ⟨_, rfl⟩
      go_loopw [32] (fun i wr => ∃ j : Nat, i = .int .i64 j ∧ j ≤ L.length ∧ wr = wA ∧ Hid (∀ (k : Nat) (z : Sl × Lk), k < j → L[k]? = some z → z.2.row.contains x = false)) (fun i _ => L.length - (intOf i).toNat)
      case atStart => exact ⟨0, rfl, Nat.zero_le _, rfl, fun k z hk => absurd hk (by omega)⟩
      case round =>
        obtain ⟨m, rfl, hm, rfl, HN⟩ := hrel
        by_cases hlt : m < L.length
        · have k1 : (m : Int) < (L.length : Int) := by omega
          have k0 : (0 : Int) ≤ (m : Int) := by omega
          obtain ⟨y, hy⟩ : ∃ y, L[m]? = some y := ⟨_, List.getElem?_eq_getElem hlt⟩
          obtain ⟨gl, hp, -, lg, cs, hcs, hc0, hc1⟩ := HX.out.lf hy
          have HH : Hid _ := has_any gl (m * 2) y.1 y.2.row x wr lg (heap_cell hcs hc0) (HX.out.r.r _ _ (rws_l T hy)) (HS.out _ (List.mem_of_getElem? (rws_l T hy)))
          have HY : Hid (L[m]? = some y) := hy
          have d1 := heap_cell hcs hc1
          dsimp only at hp
          subst hp
          clear hcs hc0 hy hc1
          go_wp2_with fail
          refine Calls.mono HH.out ?_
          rintro e w2 ⟨rfl, hw2⟩
          rw [hw2]
          clear hw2 HH
          cases hx : y.2.row.contains x
          · go_wp2
            go_roundw
            case rel =>
              refine ⟨m + 1, by go_num, by omega, trivial, fun k z hk hz => ?_⟩
              by_cases e : k = m
              · subst e
                rw [HY.out] at hz
                cases hz
                exact hx
              · exact HN.out k z (by omega) hz
            case measure => simp [intOf]; omega
          · have HE : Hid _ := aw_l HT.out HY.out hx HN.out
            clear hx
            go_wp2
            go_ret
            refine ⟨?_, rfl⟩
            rw [HE.out]
            rfl
        · have k1 : ¬ (m : Int) < (L.length : Int) := by omega
          have HE : Hid _ := aw_0 HT.out (fun k z hz => HN.out k z (by have := (List.getElem?_eq_some_iff.1 hz).1; omega) hz)
          clear HN
          go_wp2
          go_ret
          refine ⟨?_, rfl⟩
          rw [HE.out]
          rfl
end
end Go.Proofs.YtdlnkdcgipaoeaaDoor

/- What a book is asked, further. -/
namespace Go.Proofs.YtdlnkdcgipaoeaaDoor
open Go.RowKit

section
variable {w : World} {b : Nat} {pt pl pg : Sl} {T : List (Sl × Th)} {L : List (Sl × Lk)} {G : List Int}
def awX (T : List (Sl × Th)) (L : List (Sl × Lk)) (x : Int) : Int := awM (T.map (·.2)) (L.map (·.2)) x
def wtX (T : List (Sl × Th)) (L : List (Sl × Lk)) (x : Int) : Bool := decide (awX T L x ≠ 0)
set_option maxRecDepth 100000 in
set_option maxHeartbeats 4000000 in
theorem waits_any (h : BX w b pt pl pg T L G) (hS : ShT T L) (x : Int) :
    Calls Tryd.prog 16 #[.pointer (some ⟨b, 0, none⟩), .int .i64 x] w fun e w' => e = .returned (.bool (wtX T L x)) ∧ w' = w := by
  have HA : Hid (Calls Tryd.prog 65 #[.pointer (some ⟨b, 0, none⟩), .int .i64 x] w fun e w' => e = .returned (.int .i64 (awX T L x)) ∧ w' = w) := awaited_any h hS x
  unfold wtX
  generalize awX T L x = a at HA ⊢
  clear h hS
  by_cases ha : a = 0
  · subst ha
    go_enter Tryd.func16, Tryd.ntmps16
    go_wp2_with fail
    refine Calls.mono HA.out ?_
    rintro e w2 ⟨rfl, hw2⟩
    rw [hw2]
    clear hw2 HA
    go_wp2
    go_ret
    exact ⟨rfl, rfl⟩
  · rw [show decide (a ≠ 0) = true from decide_eq_true ha]
    go_enter Tryd.func16, Tryd.ntmps16
    go_wp2_with fail
    refine Calls.mono HA.out ?_
    rintro e w2 ⟨rfl, hw2⟩
    rw [hw2]
    clear hw2 HA
    go_wp2
    go_ret
    exact ⟨ret_bool (by simpa using ha), rfl⟩
/-- May it do something: the error. -/
def goX (T : List (Sl × Th)) (L : List (Sl × Lk)) (x : Int) : Int := if isB T.length x = true then (match T[(x - 1).toNat]? with
  | some t => if t.2.en || wtX T L x then 192 else 0
  | none => 190) else 190
theorem isB_at {n : Nat} {x : Int} (h : isB n x = true) : ∃ i : Nat, x = (i : Int) + 1 ∧ i < n := by
  simp [isB] at h
  exact ⟨(x - 1).toNat, by omega, by omega⟩
theorem isL_at {n : Nat} {x : Int} (h : isL n x = true) : ∃ i : Nat, x = (i : Int) ∧ i < n := by
  simp [isL] at h
  exact ⟨x.toNat, by omega, by omega⟩
set_option maxRecDepth 100000 in
set_option maxHeartbeats 4000000 in
theorem going_any (h : BX w b pt pl pg T L G) (hS : ShT T L) (x : Int) :
    Calls Tryd.prog 67 #[.pointer (some ⟨b, 0, none⟩), .int .i64 x] w fun e w' => e = .returned (.int .i64 (goX T L x)) ∧ w' = w := by
  have HI : Hid _ := isThread_any h x
  have HW : Hid _ := waits_any h hS x
  cases hB : isB T.length x
  · have HE : Hid (goX T L x = 190) := by show _ = _; unfold goX; rw [hB]; rfl
    rw [HE.out]
    rw [hB] at HI
    clear h hS HW HE hB
    go_enter Tryd.func67, Tryd.ntmps67
    go_wp2_with fail
    refine Calls.mono HI.out ?_
    rintro e w2 ⟨rfl, hw2⟩
    rw [hw2]
    clear hw2
    go_wp2
    go_ret
    exact ⟨rfl, rfl⟩
  · obtain ⟨i, rfl, hi⟩ := isB_at hB
    obtain ⟨t, ht⟩ : ∃ t, T[i]? = some t := ⟨_, List.getElem?_eq_getElem hi⟩
    obtain ⟨gt, hp, -, lg, cs, hcs, -, hc1, -⟩ := h.tf ht
    have HT : Hid _ := thread_any h hi hp lg
    have c1 := heap_cell hcs hc1
    have HE : goX T L ((i : Int) + 1) = if t.2.en || wtX T L ((i : Int) + 1) then 192 else 0 := by
      unfold goX
      rw [hB, if_pos rfl, show ((i : Int) + 1 - 1).toNat = i by omega, ht]
    rw [hB] at HI
    generalize wtX T L ((i : Int) + 1) = wt at HW HE
    rw [HE]
    generalize t.2.en = en at c1 ⊢
    clear h hS HE hB hcs hc1 hp
    cases en
    · cases wt
      all_goals
        go_enter Tryd.func67, Tryd.ntmps67
        go_wp2_with fail
        refine Calls.mono HI.out ?_
        rintro e w2 ⟨rfl, hw2⟩
        rw [hw2]
        clear hw2
        go_wp2_with fail
        refine Calls.mono HT.out ?_
        rintro e w2 ⟨rfl, hw2⟩
        rw [hw2]
        clear hw2
        go_wp2_with fail
        refine Calls.mono HW.out ?_
        rintro e w2 ⟨rfl, hw2⟩
        rw [hw2]
        clear hw2
        go_wp2
        go_ret
        exact ⟨rfl, rfl⟩
    · go_enter Tryd.func67, Tryd.ntmps67
      go_wp2_with fail
      refine Calls.mono HI.out ?_
      rintro e w2 ⟨rfl, hw2⟩
      rw [hw2]
      clear hw2
      go_wp2_with fail
      refine Calls.mono HT.out ?_
      rintro e w2 ⟨rfl, hw2⟩
      rw [hw2]
      clear hw2
      go_wp2
      go_ret
      exact ⟨rfl, rfl⟩
/-- Does one wait, over others, for oneself? -/
def ringX (T : List (Sl × Th)) (L : List (Sl × Lk)) (x : Int) : Nat → Int → Bool
  | 0, _ => false
  | n + 1, a => decide (awX T L a = x) || ringX T L x n (awX T L a)
set_option maxRecDepth 100000 in
set_option maxHeartbeats 4000000 in
theorem inRing_any (h : BX w b pt pl pg T L G) (hS : ShT T L) (x : Int) :
    Calls Tryd.prog 69 #[.pointer (some ⟨b, 0, none⟩), .int .i64 x] w fun e w' => e = .returned (.bool (ringX T L x T.length x)) ∧ w' = w := by
  have c0 := h.c0
  have lb := heap_lt h.obj
  have tn := h.tn
  have HA : Hid (∀ y, Calls Tryd.prog 65 #[.pointer (some ⟨b, 0, none⟩), .int .i64 y] w fun e w' => e = .returned (.int .i64 (awX T L y)) ∧ w' = w) := awaited_any h hS
  clear h hS
  go_enter Tryd.func69, Tryd.ntmps69
  go_wp2
  go_loopw [5, 12] (fun a i wr => ∃ (j : Nat) (y : Int), i = .int .i64 j ∧ a = .int .i64 y ∧ j ≤ T.length ∧ wr = w ∧ Hid (ringX T L x (T.length - j) y = ringX T L x T.length x)) (fun _ i _ => T.length - (intOf i).toNat)
  case atStart => exact ⟨0, x, rfl, rfl, Nat.zero_le _, rfl, rfl⟩
  case round =>
    obtain ⟨j, y, rfl, rfl, hj, rfl, HN⟩ := hrel
    by_cases hlt : j < T.length
    · have k1 : (j : Int) < (T.length : Int) := by omega
      have HN2 : Hid ((decide (awX T L y = x) || ringX T L x (T.length - (j + 1)) (awX T L y)) = ringX T L x T.length x) := by
        have := HN.out
        rw [show T.length - j = (T.length - (j + 1)) + 1 by omega] at this
        exact this
      have HAy : Hid _ := HA.out y
      clear HN
      generalize awX T L y = z at HAy HN2
      go_wp2_with fail
      refine Calls.mono HAy.out ?_
      rintro e w2 ⟨rfl, hw2⟩
      rw [hw2]
      clear hw2 HAy
      by_cases hz : z = x
      · have HR : Hid (ringX T L x T.length x = true) := by
          rw [← HN2.out, show decide (z = x) = true from decide_eq_true hz, Bool.true_or]
          exact rfl
        clear HN2 HA
        go_wp2
        go_ret
        refine ⟨?_, rfl⟩
        rw [HR.out]
        rfl
      · have HR : Hid (ringX T L x (T.length - (j + 1)) z = ringX T L x T.length x) := by
          show _ = _
          rw [← HN2.out, show decide (z = x) = false from decide_eq_false hz, Bool.false_or]
        clear HN2
        go_wp2
        go_roundw
        case rel => exact ⟨j + 1, z, by go_num, rfl, by omega, trivial, HR⟩
        case measure => simp [intOf]; omega
    · have k1 : ¬ (j : Int) < (T.length : Int) := by omega
      have HR : Hid (ringX T L x T.length x = false) := by
        show _ = _
        rw [← HN.out, show T.length - j = 0 by omega]
        rfl
      clear HN HA
      go_wp2
      go_ret
      refine ⟨?_, rfl⟩
      rw [HR.out]
      rfl
end
end Go.Proofs.YtdlnkdcgipaoeaaDoor

/- What a book tells: who is stuck, how one ended, who holds a lock, a global. -/
namespace Go.Proofs.YtdlnkdcgipaoeaaDoor
open Go.RowKit

section
variable {w : World} {b : Nat} {pt pl pg : Sl} {T : List (Sl × Th)} {L : List (Sl × Lk)} {G : List Int}
set_option maxRecDepth 100000 in
set_option maxHeartbeats 4000000 in
theorem threads_any (h : BX w b pt pl pg T L G) :
    Calls Tryd.prog 45 #[.pointer (some ⟨b, 0, none⟩)] w fun e w' => e = .returned (.int .i64 T.length) ∧ w' = w := by
  have c0 := h.c0
  have lb := heap_lt h.obj
  clear h
  go_enter Tryd.func45, Tryd.ntmps45
  go_wp2
  go_ret
  exact ⟨rfl, rfl⟩
def hoX (L : List (Sl × Lk)) (x : Int) : Int := if isL L.length x = true then (match L[x.toNat]? with
  | some l => l.2.ho
  | none => 0) else 0
set_option maxRecDepth 100000 in
set_option maxHeartbeats 4000000 in
theorem holder_any (h : BX w b pt pl pg T L G) (x : Int) :
    Calls Tryd.prog 22 #[.pointer (some ⟨b, 0, none⟩), .int .i64 x] w fun e w' => e = .returned (.int .i64 (hoX L x)) ∧ w' = w := by
  have HI : Hid _ := isLock_any h x
  have c1 := h.c1
  have lb := heap_lt h.obj
  cases hB : isL L.length x
  · have HE : hoX L x = 0 := by unfold hoX; rw [hB]; rfl
    rw [HE]
    rw [hB] at HI
    clear h HE hB
    go_enter Tryd.func22, Tryd.ntmps22
    go_wp2_with fail
    refine Calls.mono HI.out ?_
    rintro e w2 ⟨rfl, hw2⟩
    rw [hw2]
    clear hw2
    go_wp2
    go_ret
    exact ⟨rfl, rfl⟩
  · obtain ⟨i, rfl, hi⟩ := isL_at hB
    obtain ⟨y, hy⟩ : ∃ y, L[i]? = some y := ⟨_, List.getElem?_eq_getElem hi⟩
    obtain ⟨gl, hp, -, lg, cs, hcs, -, hc1⟩ := h.lf hy
    have d1 := heap_cell hcs hc1
    have HE : hoX L (i : Int) = y.2.ho := by
      unfold hoX
      rw [hB, if_pos rfl, Int.toNat_natCast, hy]
    rw [HE]
    rw [hB] at HI
    rw [hp] at c1
    have k1 : (0 : Int) ≤ (i : Int) := by omega
    have k2 : (i : Int) < (L.length : Int) := by omega
    generalize y.2.ho = ho at d1 ⊢
    clear h HE hB hcs hc1 hp
    go_enter Tryd.func22, Tryd.ntmps22
    go_wp2_with fail
    refine Calls.mono HI.out ?_
    rintro e w2 ⟨rfl, hw2⟩
    rw [hw2]
    clear hw2
    go_wp2
    go_ret
    exact ⟨rfl, rfl⟩
/-- A global: its word, the error. -/
def glX (G : List Int) (x : Int) : Int × Int := if isL G.length x = true then ((G[x.toNat]?).getD 0, 0) else (0, 1)
theorem BX.gf (h : BX w b pt pl pg T L G) {i : Nat} {x : Int} (hi : G[i]? = some x) : ∃ gt, pg.ra = some ⟨gt, 0, none⟩ ∧ pg.blk = some gt ∧ gt < w.heap.size ∧ ∃ cs, w.heap[gt]? = some (.cells cs 56 (0, 0)) ∧ cs[i]? = some (.int .u64 x) := by
  have hlt := (List.getElem?_eq_some_iff.1 hi).1
  obtain ⟨g, c, hv, -, -⟩ := World.ownsRow.form h.g (by omega)
  have e : pg.ra = some ⟨g, 0, none⟩ := (Value.slice.inj hv).1
  have ht := h.g
  rw [e] at ht
  obtain ⟨cs, h1, _, _, _, _, _, h2⟩ := own_out ht
  refine ⟨g, e, by rw [Sl.blk, e]; rfl, heap_lt h1, cs, h1, h2 _ _ ?_⟩
  rw [List.getElem?_map, hi]
  rfl
set_option maxRecDepth 100000 in
set_option maxHeartbeats 4000000 in
theorem global_any (h : BX w b pt pl pg T L G) (x : Int) :
    Calls Tryd.prog 27 #[.pointer (some ⟨b, 0, none⟩), .int .i64 x] w fun e w' => e = .returned (.tuple #[.int .u64 (glX G x).1, .int .i64 (glX G x).2]) ∧ w' = w := by
  have c2 := h.c2
  have lb := heap_lt h.obj
  cases hB : isL G.length x
  · have HE : glX G x = (0, 1) := by unfold glX; rw [hB]; rfl
    rw [HE]
    have hB' := hB
    simp [isL] at hB'
    clear h HE hB
    by_cases h0 : x < 0
    · go_enter Tryd.func27, Tryd.ntmps27
      go_wp2
      exact bodyPost_ret (results_tmp2 rfl _ _ _) rfl ⟨rfl, rfl⟩
    · have h1 : (G.length : Int) ≤ x := hB' (by omega)
      go_enter Tryd.func27, Tryd.ntmps27
      go_wp2
      exact bodyPost_ret (results_tmp2 rfl _ _ _) rfl ⟨rfl, rfl⟩
  · obtain ⟨i, rfl, hi⟩ := isL_at hB
    obtain ⟨y, hy⟩ : ∃ y, G[i]? = some y := ⟨_, List.getElem?_eq_getElem hi⟩
    obtain ⟨gg, hp, -, lg, cs, hcs, hc⟩ := h.gf hy
    have d1 := heap_cell hcs hc
    have HE : glX G (i : Int) = (y, 0) := by
      unfold glX
      rw [hB, if_pos rfl, Int.toNat_natCast, hy]
      rfl
    rw [HE]
    rw [hp] at c2
    have k0 : ¬ (i : Int) < 0 := by omega
    have k1 : (0 : Int) ≤ (i : Int) := by omega
    have k2 : (i : Int) < (G.length : Int) := by omega
    have k3 : ¬ (G.length : Int) ≤ (i : Int) := by omega
    clear h HE hB hcs hc hp
    go_enter Tryd.func27, Tryd.ntmps27
    go_wp2
    exact bodyPost_ret (results_tmp2 rfl _ _ _) rfl ⟨rfl, rfl⟩
/-- How one ended: whether, the word, the error; and the call's error. -/
def enX (T : List (Sl × Th)) (x : Int) : (Bool × Int × Int) × Int := if isB T.length x = true then (match T[(x - 1).toNat]? with
  | some t => ((t.2.en, t.2.wd, t.2.er), 0)
  | none => ((false, 0, 0), 190)) else ((false, 0, 0), 190)
theorem results_e {fn : Func} {tmps : Array Value} {s u g : Nat} {e : Bool} {x y : Int} {v : Value} {W : World} (hres : fn.results = #[.cell s 67, .tmp u])
    (h1 : tmps[s]? = some (.pointer (some ⟨g, 0, none⟩))) (h3 : tmps[u]? = some v) (k1 : W.heap[g]? = some (.cells #[.bool e, .int .u64 x, .int .i64 y] 67 (0, 0))) : (results fn tmps).run Tryd.prog W = .ok (.tuple #[.agg #[.bool e, .int .u64 x, .int .i64 y], v]) W := by
  have a0 : W.cell? ⟨g, 0, none⟩ = some (.bool e) := heap_cell k1 rfl
  have a1 : W.cell? ⟨g, 1, none⟩ = some (.int .u64 x) := heap_cell k1 rfl
  have a2 : W.cell? ⟨g, 2, none⟩ = some (.int .i64 y) := heap_cell k1 rfl
  obtain ⟨l1, e1⟩ := Array.getElem?_eq_some_iff.1 h1
  obtain ⟨l3, e3⟩ := Array.getElem?_eq_some_iff.1 h3
  simp [results, hres, go_sem, l1, e1, l3, e3, a0, a1, a2]
set_option maxRecDepth 100000 in
set_option maxHeartbeats 4000000 in
theorem ended_any (h : BX w b pt pl pg T L G) (x : Int) :
    Calls Tryd.prog 15 #[.pointer (some ⟨b, 0, none⟩), .int .i64 x] w fun e w' => e = .returned (.tuple #[.agg #[.bool (enX T x).1.1, .int .u64 (enX T x).1.2.1, .int .i64 (enX T x).1.2.2], .int .i64 (enX T x).2]) ∧ Below w.heap.size w w' := by
  have hb0 : Below w.heap.size w (w.alloc (.cells #[.bool false, .int .u64 0, .int .i64 0] 67)) := (Below.refl _ _).alloc (Nat.le_refl _) _
  have h1 := h.below hb0
  have HI : Hid _ := isThread_any h1 x
  cases hB : isB T.length x
  · have HE : enX T x = ((false, 0, 0), 190) := by unfold enX; rw [hB]; rfl
    rw [HE]
    rw [hB] at HI
    clear h HE hB h1
    go_enter Tryd.func15, Tryd.ntmps15
    go_wp2_with fail
    refine Calls.mono HI.out ?_
    rintro e w2 ⟨rfl, hw2⟩
    rw [hw2]
    clear hw2
    go_wp2
    exact bodyPost_ret (results_e rfl rfl rfl (heap_alloc_new w _)) rfl ⟨rfl, (Below.refl _ _).alloc (Nat.le_refl _) _⟩
  · obtain ⟨i, rfl, hi⟩ := isB_at hB
    obtain ⟨t, ht⟩ : ∃ t, T[i]? = some t := ⟨_, List.getElem?_eq_getElem hi⟩
    obtain ⟨gt, hp, -, lg, cs, hcs, -, hc1, hc2, hc3⟩ := h1.tf ht
    have HT : Hid _ := thread_any h1 hi hp lg
    have d1 := heap_cell hcs hc1
    have d2 := heap_cell hcs hc2
    have d3 := heap_cell hcs hc3
    have HE : enX T ((i : Int) + 1) = ((t.2.en, t.2.wd, t.2.er), 0) := by
      unfold enX
      rw [hB, if_pos rfl, show ((i : Int) + 1 - 1).toNat = i by omega, ht]
    rw [HE]
    rw [hB] at HI
    clear h HE hB hcs hc1 hc2 hc3 hp h1
    go_enter Tryd.func15, Tryd.ntmps15
    go_wp2_with fail
    refine Calls.mono HI.out ?_
    rintro e w2 ⟨rfl, hw2⟩
    rw [hw2]
    clear hw2
    go_wp2_with fail
    refine Calls.mono HT.out ?_
    rintro e w2 ⟨rfl, hw2⟩
    rw [hw2]
    clear hw2
    go_wp2
    exact bodyPost_ret (results_e rfl rfl rfl (heap_alloc_new w _)) rfl ⟨rfl, (Below.refl _ _).alloc (Nat.le_refl _) _⟩
/-- Who waits in a ring, of the first ones. -/
def stX (T : List (Sl × Th)) (L : List (Sl × Lk)) (j : Nat) : List Int := ((List.range j).map (fun i : Nat => (i : Int) + 1)).filter (fun x => ringX T L x T.length x)
theorem stX_succ (T : List (Sl × Th)) (L : List (Sl × Lk)) (j : Nat) : stX T L (j + 1) = if ringX T L ((j : Int) + 1) T.length ((j : Int) + 1) then stX T L j ++ [(j : Int) + 1] else stX T L j := by
  simp only [stX, List.range_succ, List.map_append, List.filter_append, List.map_cons, List.map_nil, List.filter_cons, List.filter_nil]
  split <;> simp
theorem stX_len (T : List (Sl × Th)) (L : List (Sl × Lk)) (j : Nat) : (stX T L j).length ≤ j := by
  have := List.length_filter_le (fun x => ringX T L x T.length x) ((List.range j).map (fun i : Nat => (i : Int) + 1))
  simpa [stX] using this
/-- A list of numbers that comes out: new memory. -/
def OutR (w : World) (l : List Int) (e : Ending) (w' : World) : Prop := ∃ s : Sl, e = .returned (.slice s.ra l.length s.cap) ∧ RO w' s l ∧ (∀ g, s.blk = some g → w.heap.size ≤ g) ∧ Below w.heap.size w w'
set_option maxRecDepth 100000 in
set_option maxHeartbeats 4000000 in
theorem stuck_any (h : BX w b pt pl pg T L G) (hS : ShT T L) :
    Calls Tryd.prog 24 #[.pointer (some ⟨b, 0, none⟩)] w fun e w' => OutR w (stX T L T.length) e w' := by
  have c0 := h.c0
  have lb := heap_lt h.obj
  have tn := h.tn
  have HX : Hid (BX w b pt pl pg T L G) := h
  have HS : Hid (ShT T L) := hS
  clear h hS
  go_enter Tryd.func24, Tryd.ntmps24
  go_wp2
  go_loopw [3, 10] (fun o i wr => ∃ (j : Nat) (s : Sl), i = .int .i64 j ∧ o = .slice s.ra (stX T L j).length s.cap ∧ j ≤ T.length ∧ Hid (RO wr s (stX T L j) ∧ (∀ g, s.blk = some g → w.heap.size ≤ g) ∧ Below w.heap.size w wr)) (fun _ i _ => T.length - (intOf i).toNat)
  case atStart => exact ⟨0, ⟨none, 0⟩, rfl, rfl, Nat.zero_le _, RO.nil _, (fun g hg => by cases hg), Below.refl _ _⟩
  case round =>
    obtain ⟨j, s, rfl, rfl, hj, HN⟩ := hrel
    obtain ⟨ra, ca⟩ := s
    by_cases hlt : j < T.length
    · have k1 : (j : Int) < (T.length : Int) := by omega
      have HR : Hid _ := inRing_any (HX.out.below HN.out.2.2) HS.out ((j : Int) + 1)
      have hst := stX_succ T L j
      have hln := stX_len T L j
      go_wp2_with fail
      refine Calls.mono HR.out ?_
      rintro e w2 ⟨rfl, hw2⟩
      rw [hw2]
      clear hw2 HR
      cases hr : ringX T L ((j : Int) + 1) T.length ((j : Int) + 1)
      · rw [hr] at hst
        simp only [Bool.false_eq_true, if_false] at hst
        have HN2 : Hid (RO wr ⟨ra, ca⟩ (stX T L (j + 1)) ∧ (∀ g, Sl.blk ⟨ra, ca⟩ = some g → w.heap.size ≤ g) ∧ Below w.heap.size w wr) := by rw [hst]; exact HN.out
        have HL : Hid ((stX T L (j + 1)).length = (stX T L j).length) := by show _ = _; rw [hst]
        clear hst HN hr
        go_wp2
        go_roundw
        case rel => exact ⟨j + 1, ⟨ra, ca⟩, by go_num, by rw [HL.out], by omega, HN2⟩
        case measure => simp [intOf]; omega
      · rw [hr] at hst
        simp only [if_true] at hst
        have hk : ∀ g, g < wr.heap.size → (wr.alloc (.cells #[.int .i64 ((j : Int) + 1)] 3)).heap[g]? = wr.heap[g]? := fun g hg => Below.heap_alloc _ _ _ hg
        have hz : (wr.alloc (.cells #[.int .i64 ((j : Int) + 1)] 3)).heap.size = wr.heap.size + 1 := World.size_alloc ..
        obtain ⟨hR, hfr, hbl⟩ := HN.out
        obtain ⟨s', w1, hap, h1, h2, h3, h4⟩ := (hR.kept (w' := wr.alloc (.cells #[.int .i64 ((j : Int) + 1)] 3)) (fun g hg => hk g (hR.lt hg))).snoc (by omega) ((j : Int) + 1) wr.heap.size (heap_alloc_new wr _)
        have hbs := hbl.size
        have hb1 : Below w.heap.size w w1 := ⟨h3.os.trans (hbl.alloc hbs _).os, h3.tape.trans (hbl.alloc hbs _).tape, h3.output.trans (hbl.alloc hbs _).output, by have := h3.size; omega, fun k hk' => by
          rw [h2 k (by omega) (fun e => by have := hfr k e; omega), hk k (by omega)]
          exact hbl.block k hk'⟩
        have HN2 : Hid (RO w1 s' (stX T L (j + 1)) ∧ (∀ g, s'.blk = some g → w.heap.size ≤ g) ∧ Below w.heap.size w w1) := ⟨by rw [hst]; exact h1, fun g hg => by
          rcases h4 with h4 | h4
          · exact hfr g (by rw [← h4]; exact hg)
          · rw [h4] at hg
            have := Option.some.inj hg
            omega, hb1⟩
        have HL : Hid ((stX T L (j + 1)).length = (stX T L j).length + 1) := by show _ = _; rw [hst]; simp
        obtain ⟨ra', ca'⟩ := s'
        dsimp only at hap
        clear hst HN hr hR hfr hbl h1 h2 h3 h4 hk hz hb1 hbs
        go_wp2_with (at_builtin; refine stop_of ?_)
        unfold Hid
        refine wpList_append_known _ rfl _ _ 62 62 rfl _ _ rfl rfl (hap _) ?_
        clear hap
        go_wp2
        go_roundw
        case rel => exact ⟨j + 1, ⟨ra', ca'⟩, by go_num, by rw [HL.out], by omega, HN2⟩
        case measure => simp [intOf]; omega
    · have k1 : ¬ (j : Int) < (T.length : Int) := by omega
      have hjl : j = T.length := by omega
      have HF : Hid (OutR w (stX T L T.length) (.returned (.slice ra (stX T L j).length ca)) wr) := by
        rw [hjl] at HN ⊢
        exact ⟨⟨ra, ca⟩, rfl, HN.out⟩
      clear hjl HN
      go_wp2
      go_ret
      exact HF.out
end
end Go.Proofs.YtdlnkdcgipaoeaaDoor

/- What the calls do, as mathematics. -/
namespace Go.Proofs.YtdlnkdcgipaoeaaDoor
open Go.RowKit

def awB (B : Bk) (x : Int) : Int := awM B.t B.l x
def wtB (B : Bk) (x : Int) : Bool := decide (awB B x ≠ 0)
def goB (B : Bk) (x : Int) : Int := if isB B.t.length x = true then (match B.t[(x - 1).toNat]? with
  | some t => if t.en || wtB B x then 192 else 0
  | none => 190) else 190
def startM (B : Bk) : (Int × Int) × Bk := if B.t.length = 8 then ((0, 194), B) else (((B.t.length : Int) + 1, 0), { B with t := B.t ++ [⟨[], false, 0, 0⟩] })
def joinM (B : Bk) (t o : Int) : (Int × Bool × Int) × Bk :=
  if isB B.t.length o = false then ((0, false, 190), B) else if goB B t ≠ 0 then ((0, false, goB B t), B) else if t = o then ((0, false, 193), B) else
  match B.t[(o - 1).toNat]? with
  | some x => if x.en then ((x.wd, true, x.er), B) else ((0, false, 0), { B with t := B.t.set (o - 1).toNat { x with row := x.row ++ [t] } })
  | none => ((0, false, 190), B)
def lockM (B : Bk) (t k : Int) : (Bool × Int) × Bk :=
  if isL B.l.length k = false then ((false, 190), B) else if goB B t ≠ 0 then ((false, goB B t), B) else
  match B.l[k.toNat]? with
  | some x => if x.ho = t then ((false, 191), B) else if x.ho = 0 then ((true, 0), { B with l := B.l.set k.toNat { x with ho := t } }) else ((false, 0), { B with l := B.l.set k.toNat { x with row := x.row ++ [t] } })
  | none => ((false, 190), B)
def unlockM (B : Bk) (t k : Int) : (Int × Int) × Bk :=
  if isL B.l.length k = false then ((0, 190), B) else if goB B t ≠ 0 then ((0, goB B t), B) else
  match B.l[k.toNat]? with
  | some x => if x.ho ≠ t then ((0, 192), B) else ((x.row.headD 0, 0), { B with l := B.l.set k.toNat ⟨x.row.tail, x.row.headD 0⟩ })
  | none => ((0, 190), B)
def setM (B : Bk) (i : Int) (y : Int) : (Int × Int) × Bk := if isL B.g.length i = true then (((B.g[i.toNat]?).getD 0, 0), { B with g := B.g.set i.toNat y }) else ((0, 1), B)
theorem goB_is (T : List (Sl × Th)) (L : List (Sl × Lk)) (G : List Int) (x : Int) : goB ⟨T.map (·.2), L.map (·.2), G⟩ x = goX T L x := by
  simp only [goB, goX, List.length_map, List.getElem?_map]
  cases T[(x - 1).toNat]? <;> rfl
theorem shT_of {T : List (Sl × Th)} {L : List (Sl × Lk)} {G : List Int} (h : Sh ⟨T.map (·.2), L.map (·.2), G⟩) : ShT T L := fun p hp => by
  simp only [rws, List.mem_append, List.mem_map] at hp
  rcases hp with ⟨x, hx, rfl⟩ | ⟨x, hx, rfl⟩
  · have := (h.1 x.2 (List.mem_map.2 ⟨x, hx, rfl⟩)).1
    show x.2.row.length ≤ 1000
    omega
  · have := (h.2 x.2 (List.mem_map.2 ⟨x, hx, rfl⟩)).1
    show x.2.row.length ≤ 1000
    omega
/-- A nil row comes between. -/
theorem RR.ins {w : World} {A C : List (Sl × List Int)} (h : RR w (A ++ C)) : RR w (A ++ (⟨none, 0⟩, []) :: C) := by
  have key : ∀ i p, (A ++ (⟨none, 0⟩, []) :: C)[i]? = some p → p = (⟨none, 0⟩, []) ∨ ∃ i0, (A ++ C)[i0]? = some p ∧ i = (if i0 < A.length then i0 else i0 + 1) := fun i p hp => by
    by_cases h1 : i < A.length
    · rw [List.getElem?_append_left h1] at hp
      exact .inr ⟨i, by rw [List.getElem?_append_left h1]; exact hp, by rw [if_pos h1]⟩
    · rw [List.getElem?_append_right (by omega)] at hp
      cases hk : i - A.length with
      | zero => rw [hk] at hp; cases hp; exact .inl rfl
      | succ k =>
        rw [hk, List.getElem?_cons_succ] at hp
        refine .inr ⟨A.length + k, ?_, ?_⟩
        · rw [List.getElem?_append_right (by omega), show A.length + k - A.length = k by omega]
          exact hp
        · rw [if_neg (by omega)]
          omega
  refine ⟨fun i p hp => ?_, fun i j p q g hi hj hp hq => ?_⟩
  · rcases key i p hp with rfl | ⟨i0, h0, _⟩
    · exact .inl ⟨rfl, rfl⟩
    · exact h.r i0 p h0
  · rcases key i p hi with rfl | ⟨i0, h0, e0⟩
    · cases hp
    · rcases key j q hj with rfl | ⟨j0, k0, e1⟩
      · cases hq
      · rw [e0, e1, h.inj i0 j0 p q g h0 k0 hp hq]
section
variable {w w1 : World} {b : Nat} {pt pl pg : Sl} {T : List (Sl × Th)} {L : List (Sl × Lk)} {G : List Int}
theorem rws_add (T : List (Sl × Th)) (L : List (Sl × Lk)) : rws (T ++ [(⟨none, 0⟩, ⟨[], false, 0, 0⟩)]) L = T.map (fun x => (x.1, x.2.row)) ++ (⟨none, 0⟩, []) :: L.map (fun x => (x.1, x.2.row)) := by
  simp [rws]
/-- A thread comes. -/
theorem BX.addT (h : BX w b pt pl pg T L G) {o : Obj} {g cap : Nat} (hn : T.length < 8) (hgr : (w.alloc o).grownBy w1 pt.blk) (hown : w1.ownsRow 0 124 4 (.slice (some ⟨g, 0, none⟩) (T.length + 1) cap) (T.length + 1) (T.flatMap tc ++ [.slice none 0 0, .bool false, .int .u64 0, .int .i64 0])) (hg : pt.blk = some g ∨ g = (w.alloc o).heap.size) :
    BX (w1.setCell ⟨b, 0, none⟩ (.slice (some ⟨g, 0, none⟩) (T.length + 1) cap)) b ⟨some ⟨g, 0, none⟩, cap⟩ pl pg (T ++ [(⟨none, 0⟩, ⟨[], false, 0, 0⟩)]) L G ∧ Chg (Ft b pt pl pg T L) (Ft b ⟨some ⟨g, 0, none⟩, cap⟩ pl pg (T ++ [(⟨none, 0⟩, ⟨[], false, 0, 0⟩)]) L) w (w1.setCell ⟨b, 0, none⟩ (.slice (some ⟨g, 0, none⟩) (T.length + 1) cap)) := by
  have hz : (w.alloc o).heap.size = w.heap.size + 1 := World.size_alloc ..
  have hk : ∀ k, k < w.heap.size → pt.blk ≠ some k → w1.heap[k]? = w.heap[k]? := fun k hk hne => (hgr.block k (by omega) (fun e => hne e.symm)).trans (Below.heap_alloc _ _ _ hk)
  have hs : ∀ k, k ≠ b → (w1.setCell ⟨b, 0, none⟩ (.slice (some ⟨g, 0, none⟩) (T.length + 1) cap)).heap[k]? = w1.heap[k]? := fun k hk => Below.heap_setCell _ _ _ _ hk
  have tne : ∀ k cs t, w.heap[k]? = some (.cells cs t (0, 0)) → t ≠ 124 → pt.blk ≠ some k := fun k cs t hk hn e => by
    obtain ⟨c2, h2⟩ := h.tb e
    rw [hk] at h2
    cases h2
    exact hn rfl
  have bne : ∀ k cs t, w.heap[k]? = some (.cells cs t (0, 0)) → t ≠ 96 → k ≠ b := fun k cs t hk hn e => ty_ne hk h.obj hn e
  have tot : ∀ (k : Nat) (cs : Array Value) (t : TypeId), w.heap[k]? = some (.cells cs t (0, 0)) → t ≠ 96 → t ≠ 124 → (w1.setCell ⟨b, 0, none⟩ (.slice (some ⟨g, 0, none⟩) (T.length + 1) cap)).heap[k]? = w.heap[k]? := fun k cs t hkc h1 h2 => (hs k (bne k cs t hkc h1)).trans (hk k (heap_lt hkc) (tne k cs t hkc h2))
  have hob := (hk b (heap_lt h.obj) (tne b _ _ h.obj (by decide))).trans h.obj
  have hbl : Below 0 w w1 := ((Below.refl 0 w).alloc (Nat.zero_le _) _).trans (grown_low hgr (fun _ _ => Nat.zero_le _) (Nat.zero_le _))
  have hgb : g ≠ b := fun e => by
    obtain ⟨cs, h1, _⟩ := own_out hown
    rw [e, hob] at h1
    cases h1
  have e1 : (T ++ [((⟨none, 0⟩ : Sl), (⟨[], false, 0, 0⟩ : Th))]).length = T.length + 1 := by simp
  refine ⟨⟨?_, ?_, ?_, ?_, ?_, by rw [e1]; omega, h.ln, h.gn⟩, fun k h1 h2 => ?_, hbl.setCell (p := ⟨b, 0, none⟩) (Nat.zero_le _) _, fun k hk => ?_⟩
  · rw [e1]
    exact set_atC hob _
  · rw [e1, List.flatMap_append]
    refine own_same hown (fun k hk => hs k (fun e => ?_))
    cases hk
    exact hgb e
  · refine own_same h.l (fun k hk' => ?_)
    obtain ⟨c2, h2⟩ := own_blk h.l hk'
    exact tot k _ _ h2 (by decide) (by decide)
  · refine own_same h.g (fun k hk' => ?_)
    obtain ⟨c2, h2⟩ := own_blk h.g hk'
    exact tot k _ _ h2 (by decide) (by decide)
  · rw [rws_add]
    refine RR.ins (RR.kept h.r (fun k hr => ?_))
    obtain ⟨c2, h2⟩ := h.rb hr
    exact tot k _ _ h2 (by decide) (by decide)
  · exact (hs k (fun e => h2 (.inl (.inl e)))).trans (hk k h1 (fun e => h2 (.inl (.inr (.inl e)))))
  · rcases hk with (hk | hk | hk | hk) | ⟨p, hp, hk⟩
    · exact .inl (.inl (.inl hk))
    · have : g = k := Option.some.inj hk
      rcases hg with hg | hg
      · exact .inl (.inl (.inr (.inl (by rw [← this]; exact hg))))
      · exact .inr (by omega)
    · exact .inl (.inl (.inr (.inr (.inl hk))))
    · exact .inl (.inl (.inr (.inr (.inr hk))))
    · rw [rws_add] at hp
      rcases List.mem_append.1 hp with hp | hp
      · exact .inl (.inr ⟨p, List.mem_append_left _ hp, hk⟩)
      · rcases List.mem_cons.1 hp with rfl | hp
        · cases hk
        · exact .inl (.inr ⟨p, List.mem_append_right _ hp, hk⟩)
end
theorem infoT : (Tryd.prog.info? 124).map (fun i => (i.zero, i.size, i.bytes)) = some (some (.agg #[.slice none 0 0, .bool false, .int .u64 0, .int .i64 0]), 4, 48) := by kernel_rfl
end Go.Proofs.YtdlnkdcgipaoeaaDoor
