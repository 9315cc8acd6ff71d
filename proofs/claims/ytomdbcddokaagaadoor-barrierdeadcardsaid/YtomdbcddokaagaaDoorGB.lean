/- The barrier's small functions.; Contains; what is shaded.; What is shaded, by the program; Store, Fill.; Store, Fill.; When a view may be: heads; numbers. -/
import Derived.Test.YtomdbcddokaagaaDoorGA
/- The barrier's small functions. -/
namespace Go.Proofs.YtomdbcddokaagaaDoor
open Go.RowKit

abbrev cV (x : Cl) : Value := .agg #[.int .u8 x.k, .int .u8 x.c, .int .u64 x.a, .int .u64 x.b]
def onB (p : Int) : Bool := decide (p = 1) || decide (p = 2)
def birthC (p c s : Int) : Int := if onB p || (decide (p = 3) && decide (s ≤ c)) then 2 else 0
set_option maxRecDepth 100000 in
set_option maxHeartbeats 4000000 in
theorem isUsed_any (x : Cl) (w : World) : Calls Tryd.prog 53 #[cV x] w fun e w' => e = .returned (.bool (usedB x)) ∧ Below w.heap.size w w' := by
  have HB : Hid (Below w.heap.size w (w.alloc (.cells #[.int .u8 x.k, .int .u8 x.c, .int .u64 x.a, .int .u64 x.b] 59))) := (Below.refl _ w).alloc (Nat.le_refl _) _
  have HE : Hid (usedB x = (x.k != 0)) := by show _ = _; unfold usedB; by_cases h : x.k = 0 <;> simp [h]
  rw [HE.out]
  clear HE
  go_enter Tryd.func53, Tryd.ntmps53
  go_wp2
  go_ret
  exact ⟨rfl, HB.out⟩
set_option maxRecDepth 100000 in
set_option maxHeartbeats 4000000 in
theorem isOn_any (p : Int) (w : World) : Calls Tryd.prog 51 #[.int .u8 p] w fun e w' => e = .returned (.bool (onB p)) ∧ w' = w := by
  unfold onB
  by_cases h1 : p = 1
  · subst h1
    go_enter Tryd.func51, Tryd.ntmps51
    go_wp2
    go_ret
    exact ⟨rfl, rfl⟩
  · by_cases h2 : p = 2
    · subst h2
      go_enter Tryd.func51, Tryd.ntmps51
      go_wp2
      go_ret
      exact ⟨rfl, rfl⟩
    · have z1 : (p == 1) = false := by simpa using h1
      have z2 : (p == 2) = false := by simpa using h2
      have HE : Hid ((decide (p = 1) || decide (p = 2)) = false) := by show _ = _; simp [h1, h2]
      rw [HE.out]
      clear h1 h2 HE
      go_enter Tryd.func51, Tryd.ntmps51
      go_wp2
      go_ret
      exact ⟨rfl, rfl⟩
set_option maxRecDepth 100000 in
set_option maxHeartbeats 4000000 in
theorem birth_any (p c s : Int) (w : World) : Calls Tryd.prog 21 #[.int .u8 p, .int .i64 c, .int .i64 s] w fun e w' => e = .returned (.int .u8 (birthC p c s)) ∧ w' = w := by
  have HO : Hid _ := isOn_any p w
  unfold birthC
  cases ho : onB p
  · rw [ho] at HO
    by_cases h3 : p = 3
    · by_cases h4 : s ≤ c
      · have HE : Hid ((if (false || (decide (p = 3) && decide (s ≤ c))) = true then (2 : Int) else 0) = 2) := by show _ = _; simp [h3, h4]
        rw [HE.out]
        subst h3
        clear HE ho
        go_enter Tryd.func21, Tryd.ntmps21
        go_wp2_with fail
        refine Calls.mono HO.out ?_
        rintro e w1 ⟨rfl, hw1⟩
        rw [hw1]
        clear hw1 HO
        go_wp2
        all_goals
          go_ret
          exact ⟨rfl, rfl⟩
      · have HE : Hid ((if (false || (decide (p = 3) && decide (s ≤ c))) = true then (2 : Int) else 0) = 0) := by show _ = _; simp [h4]
        rw [HE.out]
        subst h3
        have z4 : ¬ c ≥ s := h4
        clear HE ho
        go_enter Tryd.func21, Tryd.ntmps21
        go_wp2_with fail
        refine Calls.mono HO.out ?_
        rintro e w1 ⟨rfl, hw1⟩
        rw [hw1]
        clear hw1 HO
        go_wp2
        all_goals
          go_ret
          exact ⟨rfl, rfl⟩
    · have HE : Hid ((if (false || (decide (p = 3) && decide (s ≤ c))) = true then (2 : Int) else 0) = 0) := by show _ = _; simp [h3]
      rw [HE.out]
      have z3 : (p == 3) = false := by simpa using h3
      clear HE ho
      go_enter Tryd.func21, Tryd.ntmps21
      go_wp2_with fail
      refine Calls.mono HO.out ?_
      rintro e w1 ⟨rfl, hw1⟩
      rw [hw1]
      clear hw1 HO
      go_wp2
      all_goals
        go_ret
        exact ⟨rfl, rfl⟩
  · rw [ho] at HO
    have HE : Hid ((if (true || (decide (p = 3) && decide (s ≤ c))) = true then (2 : Int) else 0) = 2) := by show _ = _; simp
    rw [HE.out]
    clear HE ho
    go_enter Tryd.func21, Tryd.ntmps21
    go_wp2_with fail
    refine Calls.mono HO.out ?_
    rintro e w1 ⟨rfl, hw1⟩
    rw [hw1]
    clear hw1 HO
    go_wp2
    all_goals
      go_ret
      exact ⟨rfl, rfl⟩
set_option maxRecDepth 100000 in
set_option maxHeartbeats 4000000 in
theorem isWhite_any (x : Cl) (w : World) : Calls Tryd.prog 58 #[cV x] w fun e w' => e = .returned (.bool (whiteB x)) ∧ Below w.heap.size w w' := by
  have a1 := (Below.refl _ w).alloc (Nat.le_refl w.heap.size) (.cells #[.int .u8 x.k, .int .u8 x.c, .int .u64 x.a, .int .u64 x.b] 59)
  have n1 := heap_alloc_new w (.cells #[.int .u8 x.k, .int .u8 x.c, .int .u64 x.a, .int .u64 x.b] 59)
  obtain ⟨w1, hw1⟩ : ∃ w1, w1 = w.alloc (.cells #[.int .u8 x.k, .int .u8 x.c, .int .u64 x.a, .int .u64 x.b] 59) := ⟨_, rfl⟩
  rw [← hw1] at a1 n1
  have c0 := heap_cell (j := 0) n1 rfl
  have c1 := heap_cell (j := 1) n1 rfl
  have c2 := heap_cell (j := 2) n1 rfl
  have c3 := heap_cell (j := 3) n1 rfl
  have l1 := heap_lt n1
  have HU : Hid _ := isUsed_any x w1
  have HB1 : Hid (Below w.heap.size w w1) := a1
  have HN1 : Hid (w1.heap[w.heap.size]? = some (.cells #[.int .u8 x.k, .int .u8 x.c, .int .u64 x.a, .int .u64 x.b] 59 (0, 0))) := n1
  unfold whiteB
  go_enter Tryd.func58, Tryd.ntmps58
  go_upto_region 1 with fail
  rw [← hw1]
  clear hw1 a1 n1
  go_wp2_with fail
  refine Calls.mono HU.out ?_
  rintro e w2 ⟨rfl, hb2⟩
  have d1 := (hb2.cell (p := ⟨w.heap.size, 1, none⟩) l1).trans c1
  have l2 : w.heap.size < w2.heap.size := Nat.lt_of_lt_of_le l1 hb2.size
  have HB2 : Hid (Below w.heap.size w w2) := HB1.out.trans (hb2.mono HB1.out.size)
  clear hb2 HU HB1 HN1 c0 c1 c2 c3 l1
  cases hu : usedB x
  · have HU0 : Hid (usedB x = false) := hu
    clear hu
    go_wp2
    go_ret
    exact ⟨ret_bool (by rw [HU0.out]; rfl), HB2.out⟩
  · have HU0 : Hid (usedB x = true) := hu
    clear hu
    go_wp2
    go_ret
    exact ⟨ret_bool (by rw [HU0.out]; by_cases h : x.c = 0 <;> simp [h]), HB2.out⟩
end Go.Proofs.YtomdbcddokaagaaDoor

/- Contains; what is shaded. -/
namespace Go.Proofs.YtomdbcddokaagaaDoor
open Go.RowKit

/-- The cells to shade of some words. -/
def shStep (h : List Cl) (out : List Int) (x : Int) : List Int := match refN x with
  | none => out
  | some c => match h[c]? with
    | none => out
    | some y => if whiteB y && !(out.any (fun z => z == (c : Int))) then out ++ [(c : Int)] else out
def shM (h : List Cl) (ws : List Int) : List Int := ws.foldl (shStep h) []
theorem shM_step {h : List Cl} {ws : List Int} {j : Nat} {x : Int} (hx : ws[j]? = some x) : shM h (ws.take (j + 1)) = shStep h (shM h (ws.take j)) x := by
  unfold shM
  rw [List.take_add_one, hx, List.foldl_append]
  rfl
theorem sh_len {h : List Cl} : ∀ (ws : List Int) (out : List Int), (ws.foldl (shStep h) out).length ≤ out.length + ws.length
  | [], out => by simp
  | x :: ws, out => by
    have := sh_len (h := h) ws (shStep h out x)
    have h2 : (shStep h out x).length ≤ out.length + 1 := by
      unfold shStep
      split
      · omega
      · split
        · omega
        · split
          · simp
          · omega
    simp only [List.foldl_cons, List.length_cons]
    omega
theorem any_take {α : Type} {q : α → Bool} {l : List α} {j : Nat} {x : α} (h : (l.take j).any q = false) (hx : l[j]? = some x) : (l.take (j + 1)).any q = q x := by
  rw [List.take_add_one, hx, List.any_append, h]
  simp
theorem any_at {α : Type} {q : α → Bool} {l : List α} {j : Nat} {x : α} (hx : l[j]? = some x) (h : q x = true) : l.any q = true := List.any_eq_true.2 ⟨x, List.mem_of_getElem? hx, h⟩
set_option maxRecDepth 100000 in
set_option maxHeartbeats 4000000 in
theorem index_any (l : List Int) (v : Int) (ra : Option Addr) (ca : Nat) (w : World) (hl : l.length ≤ 1000000) (hR : RX (Value.int .i64) w ra l) :
    Calls Tryd.prog 97 #[.slice ra l.length ca, .int .i64 v] w fun e w' => (∃ k : Int, e = .returned (.int .i64 k) ∧ decide (0 ≤ k) = l.any (fun z => z == v)) ∧ w' = w := by
  have HR : Hid (RX (Value.int .i64) w ra l) := hR
  clear hR
  go_enter Tryd.func97, Tryd.ntmps97
  go_wp2
  go_loopw [8, 5] (fun i _ wr => ∃ j : Nat, i = .int .i64 j ∧ j ≤ l.length ∧ Hid ((l.take j).any (fun z => z == v) = false) ∧ wr = w) (fun i _ _ => l.length - (intOf i).toNat)
  case atStart => exact ⟨0, rfl, Nat.zero_le _, rfl, rfl⟩
  case round =>
    obtain ⟨j, rfl, hj, HN, rfl⟩ := hrel
    by_cases hjl : j < l.length
    · have k1 : (j : Int) < (l.length : Int) := by omega
      obtain ⟨x, hx⟩ : ∃ x, l[j]? = some x := ⟨_, List.getElem?_eq_getElem hjl⟩
      obtain ⟨b, o, q1, q2⟩ := HR.out.at
      have q1' := q1 (by omega)
      subst q1'
      obtain ⟨q3, q4⟩ := q2 j x hx
      have HXx : Hid (l[j]? = some x) := hx
      clear q1 q2 hx
      by_cases hv : v = x
      · subst hv
        have z : (v == v) = true := by simp
        have HT : Hid (l.any (fun z => z == v) = true) := any_at HXx.out (by simp)
        go_wp2
        go_ret
        exact ⟨⟨(j : Int), rfl, by rw [HT.out]; exact decide_eq_true (by omega)⟩, rfl⟩
      · have z : (v == x) = false := by simpa using hv
        have HX2 : Hid ((l.take (j + 1)).any (fun z => z == v) = false) := (any_take HN.out HXx.out).trans (by simpa using fun e : x = v => hv e.symm)
        go_wp2
        go_roundw
        case rel => exact ⟨j + 1, by go_num, by omega, HX2, trivial⟩
        case measure => simp [intOf]; omega
    · have k1 : ¬ (j : Int) < (l.length : Int) := by omega
      have HE : Hid (l.any (fun z => z == v) = false) := by have := HN.out; rwa [List.take_of_length_le (by omega)] at this
      go_wp2
      go_ret
      exact ⟨⟨-1, rfl, by rw [HE.out]; rfl⟩, rfl⟩
set_option maxRecDepth 100000 in
set_option maxHeartbeats 4000000 in
theorem contains_any (l : List Int) (v : Int) (ra : Option Addr) (ca : Nat) (w : World) (hl : l.length ≤ 1000000) (hR : RX (Value.int .i64) w ra l) :
    Calls Tryd.prog 88 #[.slice ra l.length ca, .int .i64 v] w fun e w' => e = .returned (.bool (l.any (fun z => z == v))) ∧ w' = w := by
  have HI : Hid _ := index_any l v ra ca w hl hR
  clear hR
  go_enter Tryd.func88, Tryd.ntmps88
  go_wp2_with fail
  refine Calls.mono HI.out ?_
  rintro e w1 ⟨⟨k, rfl, hk⟩, rfl⟩
  have HK : Hid (decide (0 ≤ k) = l.any (fun z => z == v)) := hk
  clear hk HI
  go_wp2
  go_ret
  exact ⟨ret_bool HK.out, rfl⟩
end Go.Proofs.YtomdbcddokaagaaDoor

/- What is shaded, by the program; Store, Fill. -/
namespace Go.Proofs.YtomdbcddokaagaaDoor
open Go.RowKit

theorem ref_some {x : Int} {c : Nat} (h : refN x = some c) : refB x = true ∧ cellV x = (c : Int) := by
  unfold refN at h
  split at h
  · rename_i h8
    have hb : refB x = true := by simpa [refB] using h8
    have := ofN_ref hb
    refine ⟨hb, ?_⟩
    unfold cellV
    rw [if_pos h8]
    have := Option.some.inj h
    omega
  · cases h
theorem ref_none {x : Int} (h : refN x = none) : refB x = false := by
  unfold refN at h
  split at h
  · cases h
  · rename_i h8
    simpa [refB] using h8
def OutI (l : List Int) (e : Ending) (w w' : World) : Prop := (∃ v', e = .returned v' ∧ w'.ownsRow w.heap.size 3 1 v' l.length (l.map (Value.int .i64))) ∧ Below w.heap.size w w'
set_option maxRecDepth 100000 in
set_option maxHeartbeats 8000000 in
theorem shaded_any (h : List Cl) (ws : List Int) (ra rs : Option Addr) (ca cs : Nat) (w : World) (_ : h.length ≤ 281474976710656) (hw : ws.length ≤ 1000) (hH : HR w ra h) (hW : WR w rs ws) (hT : Tab w) :
    Calls Tryd.prog 65 #[.slice ra h.length ca, .slice rs ws.length cs] w fun e w' => OutI (shM h ws) e w w' := by
  have HH : Hid (HR w ra h) := hH
  have HW : Hid (WR w rs ws) := hW
  have HT : Hid (Tab w) := hT
  obtain ⟨i0, hi0, hz0, hz1, hz2⟩ := info_parts infoI
  have HI0 : Hid (Tryd.prog.info? 3 = some i0 ∧ _ ∧ _ ∧ _) := ⟨hi0, hz0, hz1, hz2⟩
  clear hH hW hT hi0 hz0 hz1 hz2
  go_enter Tryd.func65, Tryd.ntmps65
  go_wp2
  go_loopw [12, 5, 7, 8, 9] (fun i s _ _ _ wr => ∃ j : Nat, i = .int .i64 j ∧ j ≤ ws.length ∧ Hid (wr.ownsRow w.heap.size 3 1 s (shM h (ws.take j)).length ((shM h (ws.take j)).map (Value.int .i64))) ∧ Hid (Below w.heap.size w wr)) (fun i _ _ _ _ _ => ws.length - (intOf i).toNat)
  case atStart => exact ⟨0, rfl, Nat.zero_le _, World.ownsRow_nil _ _ _ _, Below.refl _ _⟩
  case round =>
    obtain ⟨j, rfl, hj, HS, HB⟩ := hrel
    have sz := HB.out.size
    obtain ⟨r0, c0, rfl⟩ := own_sl HS.out
    by_cases hlt : j < ws.length
    · have k1 : (j : Int) < (ws.length : Int) := by omega
      obtain ⟨x, hx⟩ : ∃ x, ws[j]? = some x := ⟨_, List.getElem?_eq_getElem hlt⟩
      obtain ⟨b, o, hor, hcs⟩ := HW.out.below HB.out
      have hrs : rs = some ⟨b, o, none⟩ := hor.resolve_left (by omega)
      subst hrs
      obtain ⟨g1, g2, g3⟩ := hcs j x hx
      have HN : Hid (shM h (ws.take (j + 1)) = shStep h (shM h (ws.take j)) x) := shM_step hx
      have hln : (shM h (ws.take j)).length ≤ 1000 := by
        have := sh_len (h := h) (ws.take j) []
        rw [List.length_take] at this
        unfold shM
        simp at this
        omega
      have HC : Hid _ := cell_any x wr g3 (HT.out.below HB.out)
      clear hcs hor hx
      cases hr : refN x with
      | none =>
        rw [ref_none hr] at HC
        have HSn : Hid (wr.ownsRow w.heap.size 3 1 (.slice r0 (shM h (ws.take j)).length c0) (shM h (ws.take (j + 1))).length ((shM h (ws.take (j + 1))).map (Value.int .i64))) := by
          have hn := HN.out
          unfold shStep at hn
          rw [hr] at hn
          show World.ownsRow ..
          rw [hn]
          exact HS.out
        clear HS HN hr g3
        go_wp2_with fail
        refine Calls.mono HC.out ?_
        rintro e w1 ⟨rfl, hw1⟩
        rw [hw1]
        clear hw1 HC
        go_wp2
        go_roundw
        case rel => exact ⟨j + 1, by go_num, by omega, HSn, HB⟩
        case measure => simp [intOf]; omega
      | some c =>
        obtain ⟨hrb, hcv⟩ := ref_some hr
        rw [hrb, hcv] at HC
        clear hrb hcv g3
        cases hy : h[c]? with
        | none =>
          have hcl : h.length ≤ c := by
            rcases Nat.lt_or_ge c h.length with h' | h'
            · rw [List.getElem?_eq_getElem h'] at hy; cases hy
            · exact h'
          have HSn : Hid (wr.ownsRow w.heap.size 3 1 (.slice r0 (shM h (ws.take j)).length c0) (shM h (ws.take (j + 1))).length ((shM h (ws.take (j + 1))).map (Value.int .i64))) := by
            have hn := HN.out
            unfold shStep at hn
            rw [hr] at hn
            dsimp only at hn
            rw [hy] at hn
            show World.ownsRow ..
            rw [hn]
            exact HS.out
          have k2 : ¬ (c : Int) < (h.length : Int) := by omega
          clear HS HN hr hy
          go_wp2_with fail
          refine Calls.mono HC.out ?_
          rintro e w1 ⟨rfl, hw1⟩
          rw [hw1]
          clear hw1 HC
          go_wp2
          go_roundw
          case rel => exact ⟨j + 1, by go_num, by omega, HSn, HB⟩
          case measure => simp [intOf]; omega
        | some y =>
          have hcl := (List.getElem?_eq_some_iff.1 hy).1
          have k2 : (c : Int) < (h.length : Int) := by omega
          obtain ⟨bh, oh, hoh, hch⟩ := HH.out.below HB.out
          have hra : ra = some ⟨bh, oh, none⟩ := hoh.resolve_left (by omega)
          subst hra
          obtain ⟨y1, ⟨y2, y3, y4, y5⟩, _⟩ := hch c y hy
          have HWh : Hid _ := isWhite_any y wr
          clear hch hoh
          go_wp2_with fail
          refine Calls.mono HC.out ?_
          rintro e w1 ⟨rfl, hw1⟩
          rw [hw1]
          clear hw1 HC
          go_wp2_with fail
          refine Calls.mono HWh.out ?_
          rintro e w2 ⟨rfl, hb2⟩
          have HB2 : Hid (Below w.heap.size w w2) := HB.out.trans (hb2.mono sz)
          have HS2 : Hid (w2.ownsRow w.heap.size 3 1 (.slice r0 (shM h (ws.take j)).length c0) (shM h (ws.take j)).length ((shM h (ws.take j)).map (Value.int .i64))) := own_same HS.out (fun g hg => hb2.block g (HS.out.lt g hg).2)
          have HCt : Hid _ := contains_any (shM h (ws.take j)) (c : Int) r0 c0 w2 (by omega) (own_rx HS2.out rfl)
          have HN2 : Hid (shM h (ws.take (j + 1)) = if whiteB y && !((shM h (ws.take j)).any (fun z => z == (c : Int))) then shM h (ws.take j) ++ [(c : Int)] else shM h (ws.take j)) := by
            have hn := HN.out
            unfold shStep at hn
            rw [hr] at hn
            dsimp only at hn
            rw [hy] at hn
            exact hn
          have sz2 := HB2.out.size
          clear hb2 HWh HS HN hr hy HB y1 y2 y3 y4 y5 sz
          cases hwb : whiteB y
          · have HSn : Hid (w2.ownsRow w.heap.size 3 1 (.slice r0 (shM h (ws.take j)).length c0) (shM h (ws.take (j + 1))).length ((shM h (ws.take (j + 1))).map (Value.int .i64))) := by
              have hn := HN2.out
              rw [hwb] at hn
              show World.ownsRow ..
              rw [hn]
              exact HS2.out
            clear HN2 HCt hwb HS2
            go_wp2
            go_roundw
            case rel => exact ⟨j + 1, by go_num, by omega, HSn, HB2⟩
            case measure => simp [intOf]; omega
          · cases hab : (shM h (ws.take j)).any (fun z => z == (c : Int))
            · rw [hab] at HCt
              have HN3 : Hid (shM h (ws.take (j + 1)) = shM h (ws.take j) ++ [(c : Int)]) := by
                have hn := HN2.out
                rw [hwb, hab] at hn
                exact hn
              clear HN2 hwb hab
              go_wp2_with fail
              refine Calls.mono HCt.out ?_
              rintro e w3 ⟨rfl, hw3⟩
              rw [hw3]
              clear hw3 HCt
              obtain ⟨hi0, hz0, hz1, hz2⟩ := HI0.out
              go_wp2_with (at_builtin; refine stop_of ?_)
              unfold Hid
              refine wpList_append_lies _ rfl _ _ 24 rfl w.heap.size 3 i0 _ 1 8 Tryd.underlying24 hi0 hz0 hz1 hz2 rfl (by decide) (.slice r0 (shM h (ws.take j)).length c0) (shM h (ws.take j)).length ((shM h (ws.take j)).map (Value.int .i64)) rfl (World.ownsRow.alloc HS2.out _) ⟨w2.heap.size, 0, none⟩ 1 1 [.int .i64 c] rfl rfl (fun k u hu => ?_) (fun u hu => ?_) (by omega) (by unfold maxLen; omega) (by omega) (by rw [World.size_alloc]; omega) _ rfl ?_
              · rw [ad_add, Nat.zero_add]
                exact new_cell _ #[.int .i64 c] _ k u hu
              · simp at hu; subst hu; rfl
              intro g5 cp w5 hown hgr hat hl3
              have hmid : Below w.heap.size w (w2.alloc (.cells #[.int .i64 (c : Int)] 3)) := HB2.out.alloc sz2 _
              have HBn : Hid (Below w.heap.size w w5) := hmid.grown hgr hmid.size (fun k hk => (World.ownsRow.lt HS2.out k hk).1)
              have HSn : Hid (w5.ownsRow w.heap.size 3 1 (.slice (some ⟨g5, 0, none⟩) ((shM h (ws.take j)).length + 1) cp) (shM h (ws.take (j + 1))).length ((shM h (ws.take (j + 1))).map (Value.int .i64))) := by
                have hn := HN3.out
                show World.ownsRow ..
                rw [hn, List.map_append, List.length_append]
                exact hown
              clear hown hgr hat hmid HS2 HB2 HN3 hi0 hz0 hz1 hz2
              go_wp2
              go_roundw
              case rel => exact ⟨j + 1, by go_num, by omega, HSn, HBn⟩
              case measure => simp [intOf]; omega
            · rw [hab] at HCt
              have HSn : Hid (w2.ownsRow w.heap.size 3 1 (.slice r0 (shM h (ws.take j)).length c0) (shM h (ws.take (j + 1))).length ((shM h (ws.take (j + 1))).map (Value.int .i64))) := by
                have hn := HN2.out
                rw [hwb, hab] at hn
                show World.ownsRow ..
                rw [hn]
                exact HS2.out
              clear HN2 hwb hab HS2
              go_wp2_with fail
              refine Calls.mono HCt.out ?_
              rintro e w3 ⟨rfl, hw3⟩
              rw [hw3]
              clear hw3 HCt
              go_wp2
              go_roundw
              case rel => exact ⟨j + 1, by go_num, by omega, HSn, HB2⟩
              case measure => simp [intOf]; omega
    · obtain rfl : j = ws.length := by omega
      have k1 : ¬ (ws.length : Int) < (ws.length : Int) := by omega
      rw [List.take_length] at HS ⊢
      go_wp2
      go_ret
      exact ⟨⟨_, rfl, HS.out⟩, HB.out⟩
end Go.Proofs.YtomdbcddokaagaaDoor

/- Store, Fill. -/
namespace Go.Proofs.YtomdbcddokaagaaDoor
open Go.RowKit

def storeM (p : Int) (sc : Bool) (a b : Int) (h : List Cl) : List Int := if onB p then (if sc then shM h [a] else shM h [a, b]) else []
def fillM (p : Int) (sc : Bool) (a b : Int) (h : List Cl) : List Int := if onB p && !sc then shM h [a, b] else []
theorem wr_one {w : World} {g : Nat} {a : Int} (h : w.heap[g]? = some (.cells #[.int .u64 a] 57 (0, 0))) (ha : Rng a) : WR w (some ⟨g, 0, none⟩) [a] := by
  refine ⟨g, 0, .inr rfl, fun j x hx => ?_⟩
  match j, hx with
  | 0, hx => cases hx; exact ⟨heap_lt h, heap_cell h rfl, ha⟩
  | j + 1, hx => simp at hx
theorem wr_two {w : World} {g : Nat} {a b : Int} (h : w.heap[g]? = some (.cells #[.int .u64 a, .int .u64 b] 57 (0, 0))) (ha : Rng a) (hb : Rng b) : WR w (some ⟨g, 0, none⟩) [a, b] := by
  refine ⟨g, 0, .inr rfl, fun j x hx => ?_⟩
  match j, hx with
  | 0, hx => cases hx; exact ⟨heap_lt h, heap_cell h rfl, ha⟩
  | 1, hx => cases hx; exact ⟨heap_lt h, heap_cell h rfl, hb⟩
  | j + 2, hx => simp at hx
theorem OutI.from {l : List Int} {e : Ending} {w w1 w' : World} (h : OutI l e w1 w') (hb : Below w.heap.size w w1) : OutI l e w w' := by
  obtain ⟨⟨v', rfl, ho⟩, hb1⟩ := h
  refine ⟨⟨v', rfl, ho.1, ?_⟩, hb.trans (hb1.mono hb.size)⟩
  rcases ho.2 with h' | ⟨g, cap, cur, hv, hbb, r⟩
  · exact .inl h'
  · exact .inr ⟨g, cap, cur, hv, Nat.le_trans hb.size hbb, r⟩
set_option maxRecDepth 100000 in
set_option maxHeartbeats 8000000 in
theorem store_any (p : Int) (sc : Bool) (a b : Int) (h : List Cl) (ra : Option Addr) (ca : Nat) (w : World) (hl : h.length ≤ 281474976710656) (hH : HR w ra h) (ha : Rng a) (hb : Rng b) (hT : Tab w) :
    Calls Tryd.prog 19 #[.int .u8 p, .bool sc, .int .u64 a, .int .u64 b, .slice ra h.length ca] w fun e w' => OutI (storeM p sc a b h) e w w' := by
  have HO : Hid _ := isOn_any p w
  have b1 := (Below.refl _ w).alloc (Nat.le_refl w.heap.size) (.cells #[.int .u64 a] 57)
  have b2 := (Below.refl _ w).alloc (Nat.le_refl w.heap.size) (.cells #[.int .u64 a, .int .u64 b] 57)
  have H1 : Hid (Calls Tryd.prog 65 #[.slice ra h.length ca, .slice (some ⟨w.heap.size, 0, none⟩) 1 1] (w.alloc (.cells #[.int .u64 a] 57)) fun e w' => OutI (shM h [a]) e w w') := (shaded_any h [a] ra _ ca 1 _ hl (by simp) (hH.below b1) (wr_one (heap_alloc_new _ _) ha) (hT.below b1)).mono fun e w' hh => hh.from b1
  have H2 : Hid (Calls Tryd.prog 65 #[.slice ra h.length ca, .slice (some ⟨w.heap.size, 0, none⟩) 2 2] (w.alloc (.cells #[.int .u64 a, .int .u64 b] 57)) fun e w' => OutI (shM h [a, b]) e w w') := (shaded_any h [a, b] ra _ ca 2 _ hl (by simp) (hH.below b2) (wr_two (heap_alloc_new _ _) ha hb) (hT.below b2)).mono fun e w' hh => hh.from b2
  have HZ : Hid (OutI [] (.returned (.slice none 0 0)) w w) := ⟨⟨_, rfl, World.ownsRow_nil _ _ _ _⟩, Below.refl _ _⟩
  clear hH hT ha hb b1 b2
  unfold storeM
  cases ho : onB p
  · rw [ho] at HO
    go_enter Tryd.func19, Tryd.ntmps19
    go_wp2_with fail
    refine Calls.mono HO.out ?_
    rintro e w1 ⟨rfl, hw1⟩
    rw [hw1]
    clear hw1 HO
    go_wp2
    go_ret
    exact HZ.out
  · rw [ho] at HO
    cases sc
    · go_enter Tryd.func19, Tryd.ntmps19
      go_wp2_with fail
      refine Calls.mono HO.out ?_
      rintro e w1 ⟨rfl, hw1⟩
      rw [hw1]
      clear hw1 HO
      go_wp2_with fail
      refine Calls.mono H2.out ?_
      rintro e w2 hh
      obtain ⟨⟨v, rfl, _⟩, _⟩ := id hh
      have HX : Hid (OutI (shM h [a, b]) (.returned v) w w2) := hh
      clear hh H1 H2
      go_wp2
      go_ret
      exact HX.out
    · go_enter Tryd.func19, Tryd.ntmps19
      go_wp2_with fail
      refine Calls.mono HO.out ?_
      rintro e w1 ⟨rfl, hw1⟩
      rw [hw1]
      clear hw1 HO
      go_wp2_with fail
      refine Calls.mono H1.out ?_
      rintro e w2 hh
      obtain ⟨⟨v, rfl, _⟩, _⟩ := id hh
      have HX : Hid (OutI (shM h [a]) (.returned v) w w2) := hh
      clear hh H1 H2
      go_wp2
      go_ret
      exact HX.out
set_option maxRecDepth 100000 in
set_option maxHeartbeats 8000000 in
theorem fill_any (p : Int) (sc : Bool) (a b : Int) (h : List Cl) (ra : Option Addr) (ca : Nat) (w : World) (hl : h.length ≤ 281474976710656) (hH : HR w ra h) (ha : Rng a) (hb : Rng b) (hT : Tab w) :
    Calls Tryd.prog 20 #[.int .u8 p, .bool sc, .int .u64 a, .int .u64 b, .slice ra h.length ca] w fun e w' => OutI (fillM p sc a b h) e w w' := by
  have HO : Hid _ := isOn_any p w
  have b2 := (Below.refl _ w).alloc (Nat.le_refl w.heap.size) (.cells #[.int .u64 a, .int .u64 b] 57)
  have H2 : Hid (Calls Tryd.prog 65 #[.slice ra h.length ca, .slice (some ⟨w.heap.size, 0, none⟩) 2 2] (w.alloc (.cells #[.int .u64 a, .int .u64 b] 57)) fun e w' => OutI (shM h [a, b]) e w w') := (shaded_any h [a, b] ra _ ca 2 _ hl (by simp) (hH.below b2) (wr_two (heap_alloc_new _ _) ha hb) (hT.below b2)).mono fun e w' hh => hh.from b2
  have HZ : Hid (OutI [] (.returned (.slice none 0 0)) w w) := ⟨⟨_, rfl, World.ownsRow_nil _ _ _ _⟩, Below.refl _ _⟩
  clear hH hT ha hb b2
  unfold fillM
  cases ho : onB p
  · rw [ho] at HO
    go_enter Tryd.func20, Tryd.ntmps20
    go_wp2_with fail
    refine Calls.mono HO.out ?_
    rintro e w1 ⟨rfl, hw1⟩
    rw [hw1]
    clear hw1 HO
    go_wp2
    go_ret
    exact HZ.out
  · rw [ho] at HO
    cases sc
    · go_enter Tryd.func20, Tryd.ntmps20
      go_wp2_with fail
      refine Calls.mono HO.out ?_
      rintro e w1 ⟨rfl, hw1⟩
      rw [hw1]
      clear hw1 HO
      go_wp2_with fail
      refine Calls.mono H2.out ?_
      rintro e w2 hh
      obtain ⟨⟨v, rfl, _⟩, _⟩ := id hh
      have HX : Hid (OutI (shM h [a, b]) (.returned v) w w2) := hh
      clear hh H2
      go_wp2
      go_ret
      exact HX.out
    · go_enter Tryd.func20, Tryd.ntmps20
      go_wp2_with fail
      refine Calls.mono HO.out ?_
      rintro e w1 ⟨rfl, hw1⟩
      rw [hw1]
      clear hw1 HO
      go_wp2
      go_ret
      exact HZ.out
end Go.Proofs.YtomdbcddokaagaaDoor

/- When a view may be: heads; numbers. -/
namespace Go.Proofs.YtomdbcddokaagaaDoor
open Go.RowKit

set_option maxRecDepth 100000 in
set_option maxHeartbeats 4000000 in
theorem isGrey_any (x : Cl) (w : World) : Calls Tryd.prog 99 #[cV x] w fun e w' => e = .returned (.bool (greyB x)) ∧ Below w.heap.size w w' := by
  have a1 := (Below.refl _ w).alloc (Nat.le_refl w.heap.size) (.cells #[.int .u8 x.k, .int .u8 x.c, .int .u64 x.a, .int .u64 x.b] 59)
  have n1 := heap_alloc_new w (.cells #[.int .u8 x.k, .int .u8 x.c, .int .u64 x.a, .int .u64 x.b] 59)
  obtain ⟨w1, hw1⟩ : ∃ w1, w1 = w.alloc (.cells #[.int .u8 x.k, .int .u8 x.c, .int .u64 x.a, .int .u64 x.b] 59) := ⟨_, rfl⟩
  rw [← hw1] at a1 n1
  have c0 := heap_cell (j := 0) n1 rfl
  have c1 := heap_cell (j := 1) n1 rfl
  have c2 := heap_cell (j := 2) n1 rfl
  have c3 := heap_cell (j := 3) n1 rfl
  have l1 := heap_lt n1
  have HU : Hid _ := isUsed_any x w1
  have HB1 : Hid (Below w.heap.size w w1) := a1
  have HN1 : Hid (w1.heap[w.heap.size]? = some (.cells #[.int .u8 x.k, .int .u8 x.c, .int .u64 x.a, .int .u64 x.b] 59 (0, 0))) := n1
  unfold greyB
  go_enter Tryd.func99, Tryd.ntmps99
  go_upto_region 1 with fail
  rw [← hw1]
  clear hw1 a1 n1
  go_wp2_with fail
  refine Calls.mono HU.out ?_
  rintro e w2 ⟨rfl, hb2⟩
  have d1 := (hb2.cell (p := ⟨w.heap.size, 1, none⟩) l1).trans c1
  have l2 : w.heap.size < w2.heap.size := Nat.lt_of_lt_of_le l1 hb2.size
  have HB2 : Hid (Below w.heap.size w w2) := HB1.out.trans (hb2.mono HB1.out.size)
  clear hb2 HU HB1 HN1 c0 c1 c2 c3 l1
  cases hu : usedB x
  · have HU0 : Hid (usedB x = false) := hu
    clear hu
    go_wp2
    go_ret
    exact ⟨ret_bool (by rw [HU0.out]; rfl), HB2.out⟩
  · have HU0 : Hid (usedB x = true) := hu
    clear hu
    go_wp2
    go_ret
    exact ⟨ret_bool (by rw [HU0.out]; by_cases h : x.c = 1 <;> simp [h]), HB2.out⟩
theorem fields_all {α : Type} {q : α → Bool} {l : List α} {j : Nat} {x : α} (h : (l.take j).all q = true) (hx : l[j]? = some x) : (l.take (j + 1)).all q = q x := by
  rw [List.take_add_one, hx, List.all_append, h]
  simp
theorem all_not {α : Type} {q : α → Bool} {l : List α} {j : Nat} {x : α} (hx : l[j]? = some x) (h : q x = false) : l.all q = false := by
  rw [List.all_eq_false]
  exact ⟨x, List.mem_of_getElem? hx, by rw [h]; exact Bool.false_ne_true⟩
def upToB (n m : Int) : Bool := decide (0 ≤ n) && decide (n ≤ m)
set_option maxRecDepth 100000 in
set_option maxHeartbeats 4000000 in
theorem isUpTo_any (n m : Int) (w : World) : Calls Tryd.prog 89 #[.int .i64 n, .int .i64 m] w fun e w' => e = .returned (.bool (upToB n m)) ∧ w' = w := by
  unfold upToB
  by_cases h : 0 ≤ n
  · have HE : Hid (decide (0 ≤ n) = true) := decide_eq_true h
    rw [HE.out]
    clear HE
    go_enter Tryd.func89, Tryd.ntmps89
    go_wp2
    go_ret
    exact ⟨rfl, rfl⟩
  · have HE : Hid (decide (0 ≤ n) = false) := decide_eq_false h
    rw [HE.out]
    clear HE
    go_enter Tryd.func89, Tryd.ntmps89
    go_wp2
    go_ret
    exact ⟨rfl, rfl⟩
def headB (x : Cl) : Bool := decide (x.k ≤ 3) && decide (x.c ≤ 2)
set_option maxRecDepth 100000 in
set_option maxHeartbeats 8000000 in
theorem hasHeads_any (h : List Cl) (ra : Option Addr) (ca : Nat) (w : World) (hl : h.length ≤ 281474976710656) (hH : HR w ra h) :
    Calls Tryd.prog 90 #[.slice ra h.length ca] w fun e w' => e = .returned (.bool (h.all headB)) ∧ Below w.heap.size w w' := by
  have HH : Hid (HR w ra h) := hH
  clear hH
  go_enter Tryd.func90, Tryd.ntmps90
  go_wp2
  go_loopw [7, 4] (fun i _ wr => ∃ j : Nat, i = .int .i64 j ∧ j ≤ h.length ∧ Hid ((h.take j).all headB = true) ∧ Hid (Below w.heap.size w wr)) (fun i _ _ => h.length - (intOf i).toNat)
  case atStart => exact ⟨0, rfl, Nat.zero_le _, rfl, Below.refl _ _⟩
  case round =>
    obtain ⟨j, rfl, hj, HN, HB⟩ := hrel
    have sz := HB.out.size
    by_cases hjl : j < h.length
    · have k1 : (j : Int) < (h.length : Int) := by omega
      obtain ⟨x, hx⟩ : ∃ x, h[j]? = some x := ⟨_, List.getElem?_eq_getElem hjl⟩
      obtain ⟨b, o, hor, hcs⟩ := HH.out.below HB.out
      have hra : ra = some ⟨b, o, none⟩ := hor.resolve_left (by omega)
      subst hra
      obtain ⟨g1, ⟨y2, y3, y4, y5⟩, _⟩ := hcs j x hx
      have HXx : Hid (h[j]? = some x) := hx
      have HB2 : Hid (Below w.heap.size w (wr.alloc (.cells #[.int .u8 x.k, .int .u8 x.c, .int .u64 x.a, .int .u64 x.b] 59))) := HB.out.alloc sz _
      clear hcs hor hx
      cases hb : headB x
      · have HF : Hid (h.all headB = false) := all_not HXx.out hb
        have hd : ¬ x.k ≤ 3 ∨ (x.k ≤ 3 ∧ ¬ x.c ≤ 2) := by
          by_cases hk : x.k ≤ 3
          · refine .inr ⟨hk, fun hc => ?_⟩
            have : headB x = true := by simp [headB, hk, hc]
            rw [hb] at this
            cases this
          · exact .inl hk
        clear hb
        rcases hd with hk | ⟨hk, hc⟩
        · have z : x.k > 3 := by omega
          go_wp2
          go_ret
          exact ⟨ret_bool HF.out.symm, HB2.out⟩
        · have z : ¬ x.k > 3 := by omega
          have z2 : x.c > 2 := by omega
          go_wp2
          go_ret
          exact ⟨ret_bool HF.out.symm, HB2.out⟩
      · have HX2 : Hid ((h.take (j + 1)).all headB = true) := (fields_all HN.out HXx.out).trans hb
        obtain ⟨hk, hc⟩ : x.k ≤ 3 ∧ x.c ≤ 2 := by simpa [headB] using hb
        have z : ¬ x.k > 3 := by omega
        have z2 : ¬ x.c > 2 := by omega
        clear hb
        go_wp2
        go_roundw
        case rel => exact ⟨j + 1, by go_num, by omega, HX2, HB2⟩
        case measure => simp [intOf]; omega
    · have k1 : ¬ (j : Int) < (h.length : Int) := by omega
      have HE : Hid (h.all headB = true) := by have := HN.out; rwa [List.take_of_length_le (by omega)] at this
      go_wp2
      go_ret
      exact ⟨ret_bool HE.out.symm, HB.out⟩
end Go.Proofs.YtomdbcddokaagaaDoor
