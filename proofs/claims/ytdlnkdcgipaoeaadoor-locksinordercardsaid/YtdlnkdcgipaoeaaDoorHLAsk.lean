/- What a book is asked. -/
import Derived.Test.YtdlnkdcgipaoeaaDoorHLUp
namespace Go.Proofs.YtdlnkdcgipaoeaaDoor
open Go.RowKit

/-- For whom one waits. -/
def awM (t : List Th) (l : List Lk) (x : Int) : Int := match t.findIdx? (fun y => y.row.contains x) with
  | some i => (i : Int) + 1
  | none => match l.find? (fun y => y.row.contains x) with
    | some y => y.ho
    | none => 0
def isB (n : Nat) (x : Int) : Bool := decide (1 ≤ x) && decide (x ≤ n)
section
variable {w : World} {b : Nat} {pt pl pg : Sl} {T : List (Sl × Th)} {L : List (Sl × Lk)} {G : List Int}
theorem BX.c0 (h : BX w b pt pl pg T L G) : w.cell? ⟨b, 0, none⟩ = some (.slice pt.ra T.length pt.cap) := heap_cell h.obj rfl
theorem BX.c1 (h : BX w b pt pl pg T L G) : w.cell? ⟨b, 1, none⟩ = some (.slice pl.ra L.length pl.cap) := heap_cell h.obj rfl
theorem BX.c2 (h : BX w b pt pl pg T L G) : w.cell? ⟨b, 2, none⟩ = some (.slice pg.ra G.length pg.cap) := heap_cell h.obj rfl
set_option maxRecDepth 100000 in
set_option maxHeartbeats 4000000 in
theorem isThread_any (h : BX w b pt pl pg T L G) (x : Int) :
    Calls Tryd.prog 63 #[.pointer (some ⟨b, 0, none⟩), .int .i64 x] w fun e w' => e = .returned (.bool (isB T.length x)) ∧ w' = w := by
  have c0 := h.c0
  have lb := heap_lt h.obj
  clear h
  unfold isB
  generalize T.length = n at *
  by_cases h1 : 1 ≤ x
  · rw [show decide (1 ≤ x) = true from decide_eq_true h1]
    by_cases h2 : x ≤ n
    · rw [show decide (x ≤ (n : Int)) = true from decide_eq_true h2]
      go_enter Tryd.func63, Tryd.ntmps63
      go_wp2
      go_ret
      exact ⟨rfl, rfl⟩
    · rw [show decide (x ≤ (n : Int)) = false from decide_eq_false h2]
      go_enter Tryd.func63, Tryd.ntmps63
      go_wp2
      go_ret
      exact ⟨rfl, rfl⟩
  · rw [show decide (1 ≤ x) = false from decide_eq_false h1]
    go_enter Tryd.func63, Tryd.ntmps63
    go_wp2
    go_ret
    exact ⟨rfl, rfl⟩
def isL (n : Nat) (x : Int) : Bool := decide (0 ≤ x) && decide (x < n)
set_option maxRecDepth 100000 in
set_option maxHeartbeats 4000000 in
theorem isLock_any (h : BX w b pt pl pg T L G) (x : Int) :
    Calls Tryd.prog 66 #[.pointer (some ⟨b, 0, none⟩), .int .i64 x] w fun e w' => e = .returned (.bool (isL L.length x)) ∧ w' = w := by
  have c0 := h.c1
  have lb := heap_lt h.obj
  clear h
  unfold isL
  generalize L.length = n at *
  by_cases h1 : 0 ≤ x
  · rw [show decide (0 ≤ x) = true from decide_eq_true h1]
    by_cases h2 : x < n
    · rw [show decide (x < (n : Int)) = true from decide_eq_true h2]
      go_enter Tryd.func66, Tryd.ntmps66
      go_wp2
      go_ret
      exact ⟨rfl, rfl⟩
    · rw [show decide (x < (n : Int)) = false from decide_eq_false h2]
      go_enter Tryd.func66, Tryd.ntmps66
      go_wp2
      go_ret
      exact ⟨rfl, rfl⟩
  · rw [show decide (0 ≤ x) = false from decide_eq_false h1]
    go_enter Tryd.func66, Tryd.ntmps66
    go_wp2
    go_ret
    exact ⟨rfl, rfl⟩
set_option maxRecDepth 100000 in
set_option maxHeartbeats 4000000 in
theorem thread_any (h : BX w b pt pl pg T L G) {i gt : Nat} (hi : i < T.length) (hg : pt.ra = some ⟨gt, 0, none⟩) (_hl : gt < w.heap.size) :
    Calls Tryd.prog 64 #[.pointer (some ⟨b, 0, none⟩), .int .i64 ((i : Int) + 1)] w fun e w' => e = .returned (.pointer (some ⟨gt, i * 4, none⟩)) ∧ w' = w := by
  have c0 := h.c0
  have lb := heap_lt h.obj
  have hn := h.tn
  rw [hg] at c0
  clear h
  have hw : IntKind.i64.wrap ((i : Int) + 1 - 1) = (i : Int) := by
    rw [show (i : Int) + 1 - 1 = i by omega]
    exact IntWalk.i64_in _ (by omega)
  have k1 : (0 : Int) ≤ (i : Int) := by omega
  have k2 : (i : Int) < (T.length : Int) := by omega
  generalize T.length = n at *
  go_enter Tryd.func64, Tryd.ntmps64
  go_wp2
  go_ret
  exact ⟨rfl, rfl⟩
/-- No row is long. -/
def ShT (T : List (Sl × Th)) (L : List (Sl × Lk)) : Prop := ∀ p ∈ rws T L, p.2.length ≤ 1000
theorem aw_t {T : List (Sl × Th)} {x : Int} {j : Nat} {y : Sl × Th} (l : List Lk) (hj : T[j]? = some y) (hx : y.2.row.contains x = true) (hn : ∀ (k : Nat) (z : Sl × Th), k < j → T[k]? = some z → z.2.row.contains x = false) : awM (T.map (·.2)) l x = (j : Int) + 1 := by
  have hlt := (List.getElem?_eq_some_iff.1 hj).1
  have : (T.map (·.2)).findIdx? (fun y => y.row.contains x) = some j := by
    rw [List.findIdx?_eq_some_iff_getElem]
    refine ⟨by simpa using hlt, ?_, fun k hk => ?_⟩
    · have e : T[j] = y := (List.getElem?_eq_some_iff.1 hj).2
      simp only [List.getElem_map, e]
      exact hx
    · have := hn k _ hk (List.getElem?_eq_getElem (by omega))
      simp only [List.getElem_map]
      rw [this]
      exact Bool.false_ne_true
  simp only [awM, this]
theorem aw_l {T : List (Sl × Th)} {L : List (Sl × Lk)} {x : Int} {j : Nat} {y : Sl × Lk} (ht : ∀ (k : Nat) (z : Sl × Th), T[k]? = some z → z.2.row.contains x = false) (hj : L[j]? = some y) (hx : y.2.row.contains x = true) (hn : ∀ (k : Nat) (z : Sl × Lk), k < j → L[k]? = some z → z.2.row.contains x = false) : awM (T.map (·.2)) (L.map (·.2)) x = y.2.ho := by
  have h1 : (T.map (·.2)).findIdx? (fun y => y.row.contains x) = none := by
    rw [List.findIdx?_eq_none_iff]
    intro z hz
    obtain ⟨p, hp, rfl⟩ := List.mem_map.1 hz
    obtain ⟨k, hk⟩ := List.getElem?_of_mem hp
    exact ht k p hk
  have h2 : (L.map (·.2)).find? (fun y => y.row.contains x) = some y.2 := by
    rw [List.find?_eq_some_iff_getElem]
    have hlt := (List.getElem?_eq_some_iff.1 hj).1
    refine ⟨hx, j, by simpa using hlt, ?_, fun k hk => ?_⟩
    · have e : L[j] = y := (List.getElem?_eq_some_iff.1 hj).2
      simp only [List.getElem_map, e]
    · have := hn k _ hk (List.getElem?_eq_getElem (by omega))
      simp only [List.getElem_map]
      rw [this]
      rfl
  simp only [awM, h1, h2]
theorem aw_0 {T : List (Sl × Th)} {L : List (Sl × Lk)} {x : Int} (ht : ∀ (k : Nat) (z : Sl × Th), T[k]? = some z → z.2.row.contains x = false) (hn : ∀ (k : Nat) (z : Sl × Lk), L[k]? = some z → z.2.row.contains x = false) : awM (T.map (·.2)) (L.map (·.2)) x = 0 := by
  have h1 : (T.map (·.2)).findIdx? (fun y => y.row.contains x) = none := by
    rw [List.findIdx?_eq_none_iff]
    intro z hz
    obtain ⟨p, hp, rfl⟩ := List.mem_map.1 hz
    obtain ⟨k, hk⟩ := List.getElem?_of_mem hp
    exact ht k p hk
  have h2 : (L.map (·.2)).find? (fun y => y.row.contains x) = none := by
    rw [List.find?_eq_none]
    intro z hz
    obtain ⟨p, hp, rfl⟩ := List.mem_map.1 hz
    obtain ⟨k, hk⟩ := List.getElem?_of_mem hp
    rw [hn k p hk]
    exact Bool.false_ne_true
  simp only [awM, h1, h2]
set_option maxRecDepth 100000 in
set_option maxHeartbeats 4000000 in
theorem awaited_any (h : BX w b pt pl pg T L G) (hS : ShT T L) (x : Int) :
    Calls Tryd.prog 65 #[.pointer (some ⟨b, 0, none⟩), .int .i64 x] w fun e w' => e = .returned (.int .i64 (awM (T.map (·.2)) (L.map (·.2)) x)) ∧ w' = w := by
  have c0 := h.c0
  have c1 := h.c1
  have lb := heap_lt h.obj
  have tn := h.tn
  have ln := h.ln
  have HX : Hid (BX w b pt pl pg T L G) := h
  have HS : Hid (ShT T L) := hS
  clear h hS
  obtain ⟨tra, tca⟩ := pt
  obtain ⟨lra, lca⟩ := pl
  go_enter Tryd.func65, Tryd.ntmps65
  go_wp2
  go_loopw [12] (fun i wr => ∃ j : Nat, i = .int .i64 j ∧ j ≤ T.length ∧ wr = w ∧ Hid (∀ (k : Nat) (z : Sl × Th), k < j → T[k]? = some z → z.2.row.contains x = false)) (fun i _ => T.length - (intOf i).toNat)
  case atStart => exact ⟨0, rfl, Nat.zero_le _, rfl, fun k z hk => absurd hk (by omega)⟩
  case round =>
    obtain ⟨j, rfl, hj, rfl, HN⟩ := hrel
    by_cases hlt : j < T.length
    · have k1 : (j : Int) < (T.length : Int) := by omega
      have k0 : (0 : Int) ≤ (j : Int) := by omega
      obtain ⟨y, hy⟩ : ∃ y, T[j]? = some y := ⟨_, List.getElem?_eq_getElem hlt⟩
      obtain ⟨gt, hp, -, lg, cs, hcs, hc0, -⟩ := HX.out.tf hy
      have HH : Hid _ := has_any gt (j * 4) y.1 y.2.row x wr lg (heap_cell hcs hc0) (HX.out.r.r _ _ (rws_t L hy)) (HS.out _ (List.mem_of_getElem? (rws_t L hy)))
      have HY : Hid (T[j]? = some y) := hy
      dsimp only at hp
      subst hp
      clear hcs hc0 hy
      go_wp2_with fail
      refine Calls.mono HH.out ?_
      rintro e w2 ⟨rfl, hw2⟩
      rw [hw2]
      clear hw2 HH
      cases hx : y.2.row.contains x
      · go_wp2
        go_roundw
        case rel =>
          refine ⟨j + 1, by go_num, by omega, trivial, fun k z hk hz => ?_⟩
          by_cases e : k = j
          · subst e
            rw [HY.out] at hz
            cases hz
            exact hx
          · exact HN.out k z (by omega) hz
        case measure => simp [intOf]; omega
      · have HE : Hid _ := aw_t (L.map (·.2)) HY.out hx HN.out
        clear hx
        go_wp2
        go_ret
        refine ⟨?_, rfl⟩
        rw [HE.out]
        rfl
    · have k1 : ¬ (j : Int) < (T.length : Int) := by omega
      have HT : Hid (∀ (k : Nat) (z : Sl × Th), T[k]? = some z → z.2.row.contains x = false) := fun k z hz => HN.out k z (by have := (List.getElem?_eq_some_iff.1 hz).1; omega) hz
      clear HN
      go_wp2
      obtain ⟨wA, rfl⟩ : ∃ wA, wA = wr := ⟨_, rfl⟩
      go_loopw [32] (fun i wr => ∃ j : Nat, i = .int .i64 j ∧ j ≤ L.length ∧ wr = wA ∧ Hid (∀ (k : Nat) (z : Sl × Lk), k < j → L[k]? = some z → z.2.row.contains x = false)) (fun i _ => L.length - (intOf i).toNat)
      case atStart => exact ⟨0, rfl, Nat.zero_le _, rfl, fun k z hk => absurd hk (by omega)⟩
      case round =>
        obtain ⟨m, rfl, hm, rfl, HN⟩ := hrel
        by_cases hlt : m < L.length
        · have k1 : (m : Int) < (L.length : Int) := by omega
          have k0 : (0 : Int) ≤ (m : Int) := by omega
          obtain ⟨y, hy⟩ : ∃ y, L[m]? = some y := ⟨_, List.getElem?_eq_getElem hlt⟩
          obtain ⟨gl, hp, -, lg, cs, hcs, hc0, hc1⟩ := HX.out.lf hy
          have HH : Hid _ := has_any gl (m * 2) y.1 y.2.row x wr lg (heap_cell hcs hc0) (HX.out.r.r _ _ (rws_l T hy)) (HS.out _ (List.mem_of_getElem? (rws_l T hy)))
          have HY : Hid (L[m]? = some y) := hy
          have d1 := heap_cell hcs hc1
          dsimp only at hp
          subst hp
          clear hcs hc0 hy hc1
          go_wp2_with fail
          refine Calls.mono HH.out ?_
          rintro e w2 ⟨rfl, hw2⟩
          rw [hw2]
          clear hw2 HH
          cases hx : y.2.row.contains x
          · go_wp2
            go_roundw
            case rel =>
              refine ⟨m + 1, by go_num, by omega, trivial, fun k z hk hz => ?_⟩
              by_cases e : k = m
              · subst e
                rw [HY.out] at hz
                cases hz
                exact hx
              · exact HN.out k z (by omega) hz
            case measure => simp [intOf]; omega
          · have HE : Hid _ := aw_l HT.out HY.out hx HN.out
            clear hx
            go_wp2
            go_ret
            refine ⟨?_, rfl⟩
            rw [HE.out]
            rfl
        · have k1 : ¬ (m : Int) < (L.length : Int) := by omega
          have HE : Hid _ := aw_0 HT.out (fun k z hz => HN.out k z (by have := (List.getElem?_eq_some_iff.1 hz).1; omega) hz)
          clear HN
          go_wp2
          go_ret
          refine ⟨?_, rfl⟩
          rw [HE.out]
          rfl
end
end Go.Proofs.YtdlnkdcgipaoeaaDoor
