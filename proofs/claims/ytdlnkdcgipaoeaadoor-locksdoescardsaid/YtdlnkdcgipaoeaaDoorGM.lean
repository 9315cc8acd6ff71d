/- What both books tell is the same.; The document's Ended, Holder, Waits, next, Stuck.; The document's Stuck. -/
import Derived.Test.YtdlnkdcgipaoeaaDoorHLStayA
/- What both books tell is the same. -/
namespace Go.Proofs.YtdlnkdcgipaoeaaDoor
open Go.RowKit

def denX (T : List Dt) (x : Int) : (Bool × Int × Int) × Int := if isB T.length x = true then (match T[(x - 1).toNat]? with
  | some t => ((t.en, t.wd, t.er), 0)
  | none => ((false, 0, 0), 190)) else ((false, 0, 0), 190)
def dhoD (D : Dk) (x : Int) : Int := if isL D.l.length x = true then (match D.l[x.toNat]? with
  | some l => l.ho
  | none => 0) else 0
section
variable {B : Bk} {D : Dk}
theorem Sim.tellE (h : Sim B D) (x : Int) : denX D.t x = enB B x := by
  unfold denX enB
  rw [h.tl]
  by_cases hb : isB B.t.length x = true
  · rw [if_pos hb, if_pos hb]
    obtain ⟨i, rfl, hi⟩ := isB_at hb
    rw [show ((i : Int) + 1 - 1).toNat = i by omega]
    have hx := List.getElem?_eq_getElem hi
    obtain ⟨y, hy⟩ := h.dt hx
    obtain ⟨e1, e2, e3⟩ := h.en i _ y hx hy
    rw [hx, hy]
    dsimp only
    rw [e1, e2, e3]
  · rw [if_neg hb, if_neg hb]
theorem Sim.tellH (h : Sim B D) (x : Int) : dhoD D x = hoB B x := by
  unfold dhoD hoB
  rw [h.ll]
  by_cases hb : isL B.l.length x = true
  · rw [if_pos hb, if_pos hb]
    obtain ⟨i, rfl, hi⟩ := isL_at hb
    rw [Int.toNat_natCast]
    have hx := List.getElem?_eq_getElem hi
    rw [hx, h.dl hx]
    rfl
  · rw [if_neg hb, if_neg hb]
theorem Sim.tellW (h : Sim B D) (hI : Iv B) (x : Int) : dwtX D.t x = wtB B x := by
  unfold dwtX
  rw [h.tl]
  cases hb : isB B.t.length x
  · rw [Bool.false_and]
    cases hw : wtB B x with
    | false => rfl
    | true =>
      obtain ⟨r, hr, hm⟩ := (hI.wt x).1 hw
      have := (hI.rg r hr x hm).rng
      simp [isB] at hb
      omega
  · obtain ⟨i, rfl, hi⟩ := isB_at hb
    have hx := List.getElem?_eq_getElem hi
    obtain ⟨y, hy⟩ := h.dt hx
    rw [show ((i : Int) + 1 - 1).toNat = i by omega, hy, Bool.true_and]
    exact h.wt hI hy
/-- For whom one waits. -/
def dnx (D : Dk) (y : Dt) : Int := if y.w = 1 then y.f else if y.w = 2 then (match D.l[y.f.toNat]? with
  | some l => l.ho
  | none => 0) else 0
theorem Sim.next (h : Sim B D) (hI : Iv B) {i : Nat} {y : Dt} (hy : D.t[i]? = some y) : dnx D y = awB B ((i : Int) + 1) := by
  unfold dnx
  by_cases h0 : y.w = 0
  · rw [if_neg (by omega), if_neg (by omega)]
    have := h.wt hI hy
    rw [h0] at this
    exact (aw_zero this.symm).symm
  · rcases h.w1 i y hy h0 with ⟨a, j, x, b, hx, c⟩ | ⟨a, j, x, b, hx, c⟩
    · rw [if_pos a]
      exact (aw_of hI (.inl ⟨j, x, hx, c, b⟩)).symm
    · rw [if_neg (by omega), if_pos a, b, Int.toNat_natCast, h.dl hx]
      exact (aw_of hI (.inr ⟨j, x, hx, c, rfl⟩)).symm
end
theorem aw_rng {B : Bk} (h : Iv B) (y : Int) : awB B y = 0 ∨ (1 ≤ awB B y ∧ awB B y ≤ B.t.length) := by
  cases hw : wtB B y with
  | false => exact .inl (aw_zero hw)
  | true =>
    right
    rcases aw_ex h hw with ⟨i, x, hx, -, e⟩ | ⟨j, l, hl, hm, e⟩
    · rw [e]
      have := (List.getElem?_eq_some_iff.1 hx).1
      omega
    · rw [e]
      by_cases h0 : l.ho = 0
      · rw [h.fr l (List.mem_of_getElem? hl) h0] at hm
        cases hm
      · exact (h.ho l (List.mem_of_getElem? hl) h0).rng
theorem way_rng {B : Bk} (h : Iv B) : ∀ (n : Nat) (y : Int), wayB B (n + 1) y = 0 ∨ (1 ≤ wayB B (n + 1) y ∧ wayB B (n + 1) y ≤ B.t.length) := fun n y => by
  rw [way_add]
  exact aw_rng h (wayB B n y)
theorem way_next (B : Bk) (n : Nat) (y : Int) : wayB B (n + 1) y = awB B (wayB B n y) := by
  rw [way_add]
  rfl
/-- A way round is no longer than there are threads. -/
theorem way_short {B : Bk} (h : Iv B) {x : Int} (hx : 1 ≤ x) (hr : wayB B (B.t.length + 1) x = x) : ∃ m, 1 ≤ m ∧ m ≤ B.t.length ∧ wayB B m x = x := by
  have hne : ∀ m, m ≤ B.t.length → wayB B (m + 1) x ≠ 0 := fun m hm e => by
    have h1 : wayB B (m + 1 + (B.t.length - m)) x = x := by rw [show m + 1 + (B.t.length - m) = B.t.length + 1 by omega]; exact hr
    rw [way_add, e, way_zero h] at h1
    omega
  have hnd : ¬ ((List.range (B.t.length + 1)).map (fun m => wayB B (m + 1) x)).Nodup := fun hn => by
    have := nodup_le B.t.length _ (fun p hp => by
      obtain ⟨m, hm, rfl⟩ := List.mem_map.1 hp
      have hm' := List.mem_range.1 hm
      rcases way_rng h m x with e | e
      · exact absurd e (hne m (by omega))
      · exact e) hn
    simp only [List.length_map, List.length_range] at this
    omega
  have hex : ∃ a b, a < b ∧ b < B.t.length + 1 ∧ wayB B (a + 1) x = wayB B (b + 1) x := by
    refine Classical.byContradiction (fun hc => hnd ?_)
    rw [List.nodup_iff_pairwise_ne, List.pairwise_map]
    refine List.Pairwise.imp_of_mem ?_ (List.pairwise_lt_range (n := B.t.length + 1))
    intro a b ha hb hab e
    exact hc ⟨a, b, hab, List.mem_range.1 hb, e⟩
  obtain ⟨a, b, hab, hb, e⟩ := hex
  refine ⟨a + 1 + (B.t.length - b), by omega, by omega, ?_⟩
  rw [way_add, e, ← way_add, show b + 1 + (B.t.length - b) = B.t.length + 1 by omega]
  exact hr
/-- How the document's search ends. -/
theorem ring_dec {B : Bk} (h : Iv B) {x : Int} (hx : 1 ≤ x) {n : Nat} (hn : n ≤ B.t.length) (hno : ∀ m, 1 ≤ m → m ≤ n → wayB B m x ≠ x) (hend : n = B.t.length ∨ wayB B (n + 1) x = 0 ∨ wayB B (n + 1) x = x) : (wayB B (n + 1) x = x) ↔ ringB B x B.t.length x = true := by
  rw [ring_iff]
  constructor
  · intro e
    by_cases hl : n + 1 ≤ B.t.length
    · exact ⟨n + 1, by omega, hl, e⟩
    · have : n = B.t.length := by omega
      subst this
      exact way_short h hx e
  · rintro ⟨k, k1, k2, k3⟩
    by_cases hk : k ≤ n
    · exact absurd k3 (hno k k1 hk)
    · rcases hend with e | e | e
      · omega
      · have : wayB B (n + 1 + (k - (n + 1))) x = x := by rw [show n + 1 + (k - (n + 1)) = k by omega]; exact k3
        rw [way_add, e, way_zero h] at this
        omega
      · exact e
theorem stB_succ (B : Bk) (j : Nat) : stB B (j + 1) = if ringB B ((j : Int) + 1) B.t.length ((j : Int) + 1) then stB B j ++ [(j : Int) + 1] else stB B j := by
  simp only [stB, List.range_succ, List.map_append, List.filter_append, List.map_cons, List.map_nil, List.filter_cons, List.filter_nil]
  split <;> simp
theorem stB_len (B : Bk) (j : Nat) : (stB B j).length ≤ j := by
  have := List.length_filter_le (fun x => ringB B x B.t.length x) ((List.range j).map (fun i : Nat => (i : Int) + 1))
  simp only [List.length_map, List.length_range] at this
  exact this
end Go.Proofs.YtdlnkdcgipaoeaaDoor

/- The document's Ended, Holder, Waits, next, Stuck. -/
namespace Go.Proofs.YtdlnkdcgipaoeaaDoor
open Go.RowKit

theorem below_one (w : World) (o : Obj) : Below w.heap.size w (w.alloc o) := (Below.refl _ _).alloc (Nat.le_refl _) _
set_option maxRecDepth 100000 in
set_option maxHeartbeats 4000000 in
theorem dEnded_any {w : World} {r : Nat} {D : Dk} {F : Nat → Prop} (h : DB w r D F) (x : Int) :
    Calls Tryd.prog 41 #[.pointer (some ⟨r, 0, none⟩), .int .i64 x] w fun e w' => e = .returned (.tuple #[.agg #[.bool (denX D.t x).1.1, .int .u64 (denX D.t x).1.2.1, .int .i64 (denX D.t x).1.2.2], .int .i64 (denX D.t x).2]) ∧ Below w.heap.size w w' := by
  have h1 := h.below (below_one w (.cells #[.bool false, .int .u64 0, .int .i64 0] 67))
  obtain ⟨pt, pl, pg, L, hX, hL, hF⟩ := h1
  have HI : Hid _ := dIs_any hX x
  have htn := hX.tn
  cases hB : isB D.t.length x
  · have HE : denX D.t x = ((false, 0, 0), 190) := by unfold denX; rw [hB]; rfl
    rw [HE]
    rw [hB] at HI
    clear h HE hB hX hL hF
    go_enter Tryd.func41, Tryd.ntmps41
    go_wp2_with fail
    refine Calls.mono HI.out ?_
    rintro e w2 ⟨rfl, hw2⟩
    rw [hw2]
    clear hw2
    go_wp2
    exact bodyPost_ret (results_e rfl rfl rfl (heap_alloc_new w _)) rfl ⟨rfl, below_one w _⟩
  · obtain ⟨i, rfl, hi⟩ := isB_at hB
    obtain ⟨t, ht⟩ : ∃ t, D.t[i]? = some t := ⟨_, List.getElem?_eq_getElem hi⟩
    obtain ⟨gt, hp, -, lg, cs, hcs, -, -, hc2, hc3, hc4⟩ := hX.tf ht
    have c0 := hX.c0
    rw [hp] at c0
    have lb := heap_lt hX.obj
    have d2 := heap_cell hcs hc2
    have d3 := heap_cell hcs hc3
    have d4 := heap_cell hcs hc4
    have HE : denX D.t ((i : Int) + 1) = ((t.en, t.wd, t.er), 0) := by
      unfold denX
      rw [hB, if_pos rfl, show ((i : Int) + 1 - 1).toNat = i by omega, ht]
    rw [HE]
    rw [hB] at HI
    have hw : IntKind.i64.wrap ((i : Int) + 1 - 1) = (i : Int) := by
      rw [show (i : Int) + 1 - 1 = i by omega]
      exact IntWalk.i64_in _ (by omega)
    have k1 : (0 : Int) ≤ (i : Int) := by omega
    have k2 : (i : Int) < (D.t.length : Int) := by omega
    clear h HE hB hcs hc2 hc3 hc4 hp hX hL hF
    go_enter Tryd.func41, Tryd.ntmps41
    go_wp2_with fail
    refine Calls.mono HI.out ?_
    rintro e w2 ⟨rfl, hw2⟩
    rw [hw2]
    clear hw2
    go_wp2
    exact bodyPost_ret (results_e rfl rfl rfl (heap_alloc_new w _)) rfl ⟨rfl, below_one w _⟩
theorem dHolder_D {w : World} {r : Nat} {D : Dk} {F : Nat → Prop} (h : DB w r D F) (x : Int) :
    Calls Tryd.prog 43 #[.pointer (some ⟨r, 0, none⟩), .int .i64 x] w fun e w' => e = .returned (.int .i64 (dhoD D x)) ∧ w' = w := by
  obtain ⟨pt, pl, pg, L, hX, hL, hF⟩ := h
  have : dhoD D x = dhoX L x := by
    unfold dhoD dhoX
    rw [← hL, List.length_map]
    split
    · rw [List.getElem?_map]
      cases L[x.toNat]? <;> rfl
    · rfl
  rw [this]
  exact dHolder_any hX x
theorem dWaits_D {w : World} {r : Nat} {D : Dk} {F : Nat → Prop} (h : DB w r D F) (x : Int) :
    Calls Tryd.prog 42 #[.pointer (some ⟨r, 0, none⟩), .int .i64 x] w fun e w' => e = .returned (.bool (dwtX D.t x)) ∧ w' = w := by
  obtain ⟨pt, pl, pg, L, hX, hL, hF⟩ := h
  exact dWaits_any hX x
set_option maxRecDepth 100000 in
set_option maxHeartbeats 8000000 in
theorem dNext_any {w : World} {r : Nat} {B : Bk} {D : Dk} {F : Nat → Prop} (h : DB w r D F) (hs : Sim B D) (hI : Iv B) {x : Int} (h1 : 1 ≤ x) (h2 : x ≤ B.t.length) :
    Calls Tryd.prog 81 #[.pointer (some ⟨r, 0, none⟩), .int .i64 x] w fun e w' => e = .returned (.int .i64 (awB B x)) ∧ Below w.heap.size w w' := by
  obtain ⟨i, rfl⟩ : ∃ i : Nat, x = (i : Int) + 1 := ⟨(x - 1).toNat, by omega⟩
  have hlt : i < D.t.length := by rw [hs.tl]; omega
  obtain ⟨y, hy⟩ : ∃ y, D.t[i]? = some y := ⟨_, List.getElem?_eq_getElem hlt⟩
  have hnx := hs.next hI hy
  rw [← hnx]
  have hw2 : y.w = 2 → ∃ j : Nat, y.f = (j : Int) ∧ j < D.l.length := fun e => by
    rcases hs.w1 i y hy (by omega) with ⟨a, -⟩ | ⟨-, j, z, b, hz, -⟩
    · omega
    · exact ⟨j, b, by rw [hs.ll]; exact (List.getElem?_eq_some_iff.1 hz).1⟩
  obtain ⟨pt, pl, pg, L, hX, hL, hF⟩ := h
  have htn := hX.tn
  obtain ⟨gt, hp, -, lg, cs, hcs, hc0, hc1, hc2, hc3, hc4⟩ := hX.tf hy
  have c0 := hX.c0
  rw [hp] at c0
  have lb := heap_lt hX.obj
  have d0 := heap_cell hcs hc0
  have d1 := heap_cell hcs hc1
  have d2 := heap_cell hcs hc2
  have d3 := heap_cell hcs hc3
  have d4 := heap_cell hcs hc4
  have hw : IntKind.i64.wrap ((i : Int) + 1 - 1) = (i : Int) := by
    rw [show (i : Int) + 1 - 1 = i by omega]
    exact IntWalk.i64_in _ (by omega)
  have k1 : (0 : Int) ≤ (i : Int) := by omega
  have k2 : (i : Int) < (D.t.length : Int) := by omega
  obtain ⟨yw, yf, yen, ywd, yer⟩ := y
  dsimp only at hw2 d0 d1 d2 d3 d4
  unfold dnx
  dsimp only
  by_cases e1 : yw = 1
  · subst e1
    rw [if_pos rfl]
    clear hX hL hF hcs hc0 hc1 hc2 hc3 hc4 hp hnx hs hI h1 h2 hy hw2
    go_enter Tryd.func81, Tryd.ntmps81
    go_wp2
    go_ret
    exact ⟨rfl, below_one w _⟩
  · rw [if_neg e1]
    by_cases e2 : yw = 2
    · subst e2
      rw [if_pos rfl]
      obtain ⟨j, rfl, hj⟩ := hw2 rfl
      have hXq := hX.below (below_one w (.cells #[.int .i64 2, .int .i64 (j : Int), .bool yen, .int .u64 ywd, .int .i64 yer] 140))
      have hlL : L.length = D.l.length := by rw [← hL, List.length_map]
      obtain ⟨z, hz⟩ : ∃ z, L[j]? = some z := ⟨_, List.getElem?_eq_getElem (by omega)⟩
      have hzl : D.l[j]? = some z.2 := by rw [← hL, List.getElem?_map, hz]; rfl
      rw [Int.toNat_natCast, hzl]
      dsimp only
      obtain ⟨gl, hpl, -, lgl, cs2, hcs2, hv0, -⟩ := hXq.lf hz
      have c1 := hXq.c1
      rw [hpl, hlL] at c1
      have v0 := heap_cell hcs2 hv0
      have lbq := heap_lt hXq.obj
      have hnb := heap_alloc_new w (.cells #[.int .i64 2, .int .i64 (j : Int), .bool yen, .int .u64 ywd, .int .i64 yer] 140)
      have n1 := heap_cell (j := 1) hnb rfl
      have ln := heap_lt hnb
      have j0 : (0 : Int) ≤ (j : Int) := by omega
      have j1 : (j : Int) < (D.l.length : Int) := by omega
      generalize z.2.ho = zh at v0 ⊢
      obtain ⟨w1, hw1⟩ : ∃ w1, w1 = w.alloc (.cells #[.int .i64 2, .int .i64 (j : Int), .bool yen, .int .u64 ywd, .int .i64 yer] 140) := ⟨_, rfl⟩
      rw [← hw1] at c1 v0 lbq n1 ln lgl
      have HW1 : Hid (w1 = w.alloc (.cells #[.int .i64 2, .int .i64 (j : Int), .bool yen, .int .u64 ywd, .int .i64 yer] 140)) := hw1
      have HB1 : Hid (Below w.heap.size w w1) := by show Below _ _ _; rw [hw1]; exact below_one w _
      clear hX hL hF hcs hc0 hc1 hc2 hc3 hc4 hp hnx hs hI h1 h2 hy hw2 hXq hlL hz hzl hpl hcs2 hv0 hnb hw1 hj e1
      go_enter Tryd.func81, Tryd.ntmps81
      go_upto_region 6 with fail
      rw [← HW1.out]
      go_quiet (fail)
      go_wp2
      go_ret
      exact ⟨rfl, below_drewM HB1.out _⟩
    · rw [if_neg e2]
      clear hX hL hF hcs hc0 hc1 hc2 hc3 hc4 hp hnx hs hI h1 h2 hy hw2
      go_enter Tryd.func81, Tryd.ntmps81
      go_wp2
      go_ret
      exact ⟨rfl, below_one w _⟩
end Go.Proofs.YtdlnkdcgipaoeaaDoor

/- The document's Stuck. -/
namespace Go.Proofs.YtdlnkdcgipaoeaaDoor
open Go.RowKit

set_option maxRecDepth 100000 in
set_option maxHeartbeats 8000000 in
theorem dStuck_any {w : World} {r : Nat} {B : Bk} {D : Dk} {F : Nat → Prop} (h : DB w r D F) (hs : Sim B D) (hI : Iv B) :
    Calls Tryd.prog 44 #[.pointer (some ⟨r, 0, none⟩)] w fun e w' => OutR w (stB B B.t.length) e w' := by
  have HD : Hid (DB w r D F) := h
  have HS : Hid (Sim B D) := hs
  have HI : Hid (Iv B) := hI
  have HC0 : Hid (∀ W, Below w.heap.size w W → ∃ ra ca, W.cell? ⟨r, 0, none⟩ = some (.slice ra B.t.length ca) ∧ r < W.heap.size) := fun W hb => by
    obtain ⟨pt, pl, pg, L, hX, -, -⟩ := HD.out.below hb
    have := hX.c0
    rw [HS.out.tl] at this
    exact ⟨_, _, this, heap_lt hX.obj⟩
  have tn := hI.tn
  obtain ⟨n, hn⟩ : ∃ n, n = B.t.length := ⟨_, rfl⟩
  have HN : Hid (n = B.t.length) := hn
  rw [← hn] at HC0 tn ⊢
  clear h hs hI hn
  go_enter Tryd.func44, Tryd.ntmps44
  go_wp2
  go_loopw [3, 4] (fun o q wr => ∃ (j : Nat) (s : Sl), q = .int .i64 ((j : Int) + 1) ∧ o = .slice s.ra (stB B j).length s.cap ∧ j ≤ n ∧ Hid (RO wr s (stB B j) ∧ (∀ g, s.blk = some g → w.heap.size ≤ g) ∧ Below w.heap.size w wr)) (fun _ q _ => n + 1 - (intOf q).toNat)
  case atStart => exact ⟨0, ⟨none, 0⟩, rfl, rfl, Nat.zero_le _, RO.nil _, (fun g hg => by cases hg), Below.refl _ _⟩
  case round =>
    obtain ⟨j, s, rfl, rfl, hj, HR⟩ := hrel
    obtain ⟨ra, ca⟩ := s
    obtain ⟨ta, tc, c0, lb⟩ := HC0.out wr HR.out.2.2
    have hol := stB_len B j
    generalize hOl : (stB B j).length = ol at hol ⊢
    by_cases hjn : j < n
    · have k1 : (j : Int) + 1 ≤ (n : Int) := by omega
      have HX : Hid (∀ (W : World) (x : Int), Below w.heap.size w W → 1 ≤ x → x ≤ n → Calls Tryd.prog 81 #[.pointer (some ⟨r, 0, none⟩), .int .i64 x] W fun e w' => e = .returned (.int .i64 (awB B x)) ∧ Below W.heap.size W w') := fun W x hb h1 h2 => dNext_any (HD.out.below hb) HS.out HI.out h1 (by rw [← HN.out]; exact h2)
      have HX0 : Hid _ := HX.out wr ((j : Int) + 1) HR.out.2.2 (by omega) (by omega)
      have HW0 : Hid (awB B ((j : Int) + 1) = wayB B 1 ((j : Int) + 1)) := rfl
      rw [HW0.out] at HX0
      go_wp2_with fail
      refine Calls.mono HX0.out ?_
      rintro e w1 ⟨rfl, hb1⟩
      have HR1 : Hid (RO w1 ⟨ra, ca⟩ (stB B j) ∧ (∀ g, Sl.blk ⟨ra, ca⟩ = some g → w.heap.size ≤ g) ∧ Below w.heap.size w w1) := ⟨HR.out.1.kept (fun g hg => hb1.block g (HR.out.1.lt hg)), HR.out.2.1, HR.out.2.2.trans (hb1.mono HR.out.2.2.size)⟩
      clear HX0 hb1 HR c0 lb HW0
      go_wp2
      obtain ⟨wA, hwA⟩ : ∃ wA, wA = w1 := ⟨_, rfl⟩
      rw [← hwA] at HR1 ⊢
      clear hwA
      go_loopw [5, 6] (fun v q wr => ∃ (m : Nat) (y : Int), q = .int .i64 m ∧ v = .int .i64 y ∧ m ≤ n ∧ Hid (y = wayB B (m + 1) ((j : Int) + 1) ∧ (∀ u, 1 ≤ u → u ≤ m → wayB B u ((j : Int) + 1) ≠ (j : Int) + 1) ∧ Below wA.heap.size wA wr)) (fun _ q _ => n - (intOf q).toNat)
      case atStart => exact ⟨0, _, rfl, rfl, Nat.zero_le _, rfl, (fun u h1 h2 => by omega), Below.refl _ _⟩
      case round =>
        obtain ⟨m, y, rfl, rfl, hm, HV⟩ := hrel
        have hbW : Below w.heap.size w wr := HR1.out.2.2.trans (HV.out.2.2.mono HR1.out.2.2.size)
        obtain ⟨ta, tc, c0, lb⟩ := HC0.out wr hbW
        by_cases hgo : m < n ∧ y ≠ 0 ∧ y ≠ (j : Int) + 1
        · obtain ⟨g1, g2, g3⟩ := hgo
          have q1 : (m : Int) < (n : Int) := by omega
          have q2 : (y == 0) = false := beq_false_of_ne g2
          have q3 : (y == (j : Int) + 1) = false := beq_false_of_ne g3
          have q4 : (y != 0) = true := by simpa using g2
          have q5 : (y != (j : Int) + 1) = true := by simpa using g3
          have hrg := way_rng HI.out m ((j : Int) + 1)
          rw [← HV.out.1, ← HN.out] at hrg
          have hr1 : 1 ≤ y ∧ y ≤ n := hrg.resolve_left g2
          have HX0 : Hid _ := HX.out wr y hbW hr1.1 hr1.2
          have hnx : awB B y = wayB B (m + 1 + 1) ((j : Int) + 1) := by rw [way_next, ← HV.out.1]
          rw [hnx] at HX0
          have HV2 : Hid (∀ u, 1 ≤ u → u ≤ m + 1 → wayB B u ((j : Int) + 1) ≠ (j : Int) + 1) := fun u h1 h2 => by
            by_cases e : u ≤ m
            · exact HV.out.2.1 u h1 e
            · have : u = m + 1 := by omega
              rw [this, ← HV.out.1]
              exact g3
          have HV3 : Hid (Below wA.heap.size wA wr) := HV.out.2.2
          clear HV hrg hr1 hnx g2 g3 hbW
          go_wp2_with fail
          refine Calls.mono HX0.out ?_
          rintro e w2 ⟨rfl, hb2⟩
          have HB2 : Hid (Below wA.heap.size wA w2) := HV3.out.trans (hb2.mono HV3.out.size)
          clear hb2 HX0 HV3 c0 lb
          go_wp2
          go_roundw
          case rel => exact ⟨m + 1, _, by go_num, rfl, by omega, rfl, HV2.out, HB2.out⟩
          case measure => simp [intOf]; omega
        · have hend : m = n ∨ y = 0 ∨ y = (j : Int) + 1 := by omega
          have hdec := ring_dec HI.out (x := (j : Int) + 1) (by omega) (n := m) (by rw [← HN.out]; exact hm) HV.out.2.1 (by rw [← HN.out, ← HV.out.1]; exact hend)
          rw [← HV.out.1] at hdec
          have hR2 : RO wr ⟨ra, ca⟩ (stB B j) := HR1.out.1.kept (fun g hg => HV.out.2.2.block g (HR1.out.1.lt hg))
          have hst := stB_succ B j
          have HBW : Hid (Below w.heap.size w wr) := hbW
          have HF2 : Hid (∀ g, Sl.blk ⟨ra, ca⟩ = some g → w.heap.size ≤ g) := HR1.out.2.1
          by_cases hy : y = (j : Int) + 1
          · have hrt := hdec.1 hy
            rw [hrt, if_pos rfl] at hst
            subst hy
            obtain ⟨s3, w3, hap, h1, h2, h3, h4⟩ := (hR2.kept (w' := wr.alloc (.cells #[.int .i64 ((j : Int) + 1)] 3)) (fun g hg => Below.heap_alloc _ _ _ (hR2.lt hg))).snoc (by omega) ((j : Int) + 1) wr.heap.size (heap_alloc_new wr _)
            have hbs := HBW.out.size
            have hz : (wr.alloc (.cells #[.int .i64 ((j : Int) + 1)] 3)).heap.size = wr.heap.size + 1 := World.size_alloc ..
            have hbl := HBW.out.alloc hbs (.cells #[.int .i64 ((j : Int) + 1)] 3)
            have hb1 : Below w.heap.size w w3 := ⟨h3.os.trans hbl.os, h3.tape.trans hbl.tape, h3.output.trans hbl.output, by have := h3.size; omega, fun k hk' => by
              rw [h2 k (by omega) (fun e => by have := HF2.out k e; omega)]
              exact hbl.block k hk'⟩
            have HN2 : Hid (RO w3 s3 (stB B (j + 1)) ∧ (∀ g, s3.blk = some g → w.heap.size ≤ g) ∧ Below w.heap.size w w3) := ⟨by rw [hst]; exact h1, fun g hg => by
              rcases h4 with h4 | h4
              · exact HF2.out g (by rw [← h4]; exact hg)
              · rw [h4] at hg
                have := Option.some.inj hg
                omega, hb1⟩
            have HL : Hid ((stB B (j + 1)).length = (stB B j).length + 1) := by show _ = _; rw [hst]; simp
            rw [hOl] at hap HL
            obtain ⟨ra', ca'⟩ := s3
            dsimp only at hap
            by_cases hmn : m < n
            · have q1 : (m : Int) < (n : Int) := by omega
              have q2 : ((j : Int) + 1 == 0) = false := beq_false_of_ne (by omega)
              have q4 : ((j : Int) + 1 != 0) = true := by simp; omega
              clear hst HV hR2 HR1 h1 h2 h3 h4 hbl hz hb1 hbs hdec hrt hend hgo hbW
              go_wp2_with (at_builtin; refine stop_of ?_)
              unfold Hid
              refine wpList_append_known _ rfl _ _ 62 62 rfl _ _ rfl rfl (hap _) ?_
              clear hap
              go_wp2
              go_roundw
              case rel => exact ⟨j + 1, ⟨ra', ca'⟩, by go_num, by rw [HL.out], by omega, HN2⟩
              case measure => simp [intOf]; omega
            · have q1 : ¬ (m : Int) < (n : Int) := by omega
              clear hst HV hR2 HR1 h1 h2 h3 h4 hbl hz hb1 hbs hdec hrt hend hgo hbW
              go_wp2_with (at_builtin; refine stop_of ?_)
              unfold Hid
              refine wpList_append_known _ rfl _ _ 62 62 rfl _ _ rfl rfl (hap _) ?_
              clear hap
              go_wp2
              go_roundw
              case rel => exact ⟨j + 1, ⟨ra', ca'⟩, by go_num, by rw [HL.out], by omega, HN2⟩
              case measure => simp [intOf]; omega
          · have hrf : ringB B ((j : Int) + 1) B.t.length ((j : Int) + 1) = false := by
              cases hc : ringB B ((j : Int) + 1) B.t.length ((j : Int) + 1)
              · rfl
              · exact absurd (hdec.2 hc) hy
            rw [hrf, if_neg (by decide)] at hst
            have HN2 : Hid (RO wr ⟨ra, ca⟩ (stB B (j + 1)) ∧ (∀ g, Sl.blk ⟨ra, ca⟩ = some g → w.heap.size ≤ g) ∧ Below w.heap.size w wr) := ⟨by rw [hst]; exact hR2, HF2.out, HBW.out⟩
            have HL : Hid ((stB B (j + 1)).length = ol) := by show _ = _; rw [hst]; exact hOl
            have q3 : (y == (j : Int) + 1) = false := beq_false_of_ne hy
            have q5 : (y != (j : Int) + 1) = true := by simpa using hy
            by_cases hmn : m < n
            · have hy0 : y = 0 := by omega
              subst hy0
              have q1 : (m : Int) < (n : Int) := by omega
              clear hst HV hR2 HR1 hdec hrf hend hgo hbW hy
              go_wp2
              go_roundw
              case rel => exact ⟨j + 1, ⟨ra, ca⟩, by go_num, by rw [HL.out], by omega, HN2⟩
              case measure => simp [intOf]; omega
            · have q1 : ¬ (m : Int) < (n : Int) := by omega
              clear hst HV hR2 HR1 hdec hrf hend hgo hbW hy
              go_wp2
              go_roundw
              case rel => exact ⟨j + 1, ⟨ra, ca⟩, by go_num, by rw [HL.out], by omega, HN2⟩
              case measure => simp [intOf]; omega
    · have k1 : ¬ (j : Int) + 1 ≤ (n : Int) := by omega
      have hjj : j = n := by omega
      have HF : Hid (OutR w (stB B n) (.returned (.slice ra ol ca)) wr) := by
        rw [← hOl]
        subst hjj
        exact ⟨⟨ra, ca⟩, rfl, HR.out⟩
      clear hjj HR hjn
      go_wp2
      go_ret
      exact HF.out
end Go.Proofs.YtdlnkdcgipaoeaaDoor
