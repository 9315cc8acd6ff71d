/- ShowLabels: how its first loop stands, as mathematics and in memory.; ShowLabels. -/
import Derived.Test.YtejmoopgfnjaaaaDoorK27
import Derived.Test.YtejmoopgfnjaaaaDoorK28
import Derived.Test.YtejmoopgfnjaaaaDoorK30
import Derived.Deep.CutBlock
import Derived.Deep.RegionHeld3
/- ShowLabels: how its first loop stands, as mathematics and in memory. -/
namespace Go.Proofs.YtejmoopgfnjaaaaDoor
open Go.RowKit Go.Maps Go.ChangeMaps

/-- How the count stands: i words of the row R are looked at, O the cells met so far. -/
structure Lp (h : List Cl) (x : Int) (i : Nat) (R : List Int) (O : List Nat) : Prop where
  row : R = x :: O.flatMap (fl h)
  nd : O.Nodup
  within : ∀ c ∈ O, c ∈ rowM h x
  met : ∀ c, c ∈ O ↔ 1 ≤ cntM (R.take i) c
  le : i ≤ R.length
theorem Lp.start (h : List Cl) (x : Int) : Lp h x 0 [x] [] := by
  refine ⟨rfl, List.nodup_nil, fun c hc => absurd hc (List.not_mem_nil), fun c => ?_, Nat.zero_le _⟩
  simp [cntM]
theorem fl_len (h : List Cl) (c : Nat) : (fl h c).length ≤ 2 := (fields_len _).2
theorem flat_len (h : List Cl) : ∀ O : List Nat, (O.flatMap (fl h)).length ≤ 2 * O.length
  | [] => Nat.le_refl _
  | c :: O => by
    have := flat_len h O
    have := fl_len h c
    rw [List.flatMap_cons, List.length_append, List.length_cons]
    omega
theorem nd_len : ∀ (n : Nat) {O : List Nat}, O.Nodup → (∀ c ∈ O, c < n) → O.length ≤ n := fun n O hn hc => by
  have h1 := rsum_over (g := fun c => if c ∈ O then 1 else 0) hn hc (fun c hc => if_neg hc)
  rw [sum_map_congr (g' := fun _ => 1) (fun c hc => if_pos hc), sum_ones] at h1
  have : ∀ m, rsum (fun c => if c ∈ O then 1 else 0) [] m ≤ m := fun m => by
    induction m with
    | zero => exact Nat.le_refl _
    | succ m ih =>
      unfold rsum
      simp only [List.not_mem_nil, if_false]
      split <;> omega
  have := this n
  omega
theorem Lp.len {h : List Cl} {x : Int} {i : Nat} {R : List Int} {O : List Nat} (p : Lp h x i R O) (ro : RowOk h x) : R.length ≤ 2 * h.length + 1 := by
  have h1 := nd_len h.length p.nd (fun c hc => ro.lt c (p.within c hc))
  have h2 := flat_len h O
  rw [p.row, List.length_cons]
  omega
theorem Lp.ref {h : List Cl} {x : Int} {i : Nat} {R : List Int} {O : List Nat} (p : Lp h x i R O) (ro : RowOk h x) {z : Int} (hz : z ∈ R) {d : Nat} (hd : refN z = some d) : d ∈ rowM h x := by
  rw [p.row] at hz
  rcases List.mem_cons.1 hz with rfl | hz
  · exact ro.root d hd
  · obtain ⟨c, hc, hz⟩ := List.mem_flatMap.1 hz
    exact ro.cl c (p.within c hc) z hz d hd
/-- A word that is no reference, or one of a cell that was met. -/
theorem Lp.same {h : List Cl} {x : Int} {i : Nat} {R : List Int} {O : List Nat} (p : Lp h x i R O) {z : Int} (hz : R[i]? = some z) (hn : ∀ c, refN z = some c → c ∈ O) : Lp h x (i + 1) R O := by
  refine ⟨p.row, p.nd, p.within, fun c => ?_, (List.getElem?_eq_some_iff.1 hz).1⟩
  rw [cnt_step hz]
  by_cases hc : refN z = some c
  · rw [if_pos hc]
    exact ⟨fun _ => by omega, fun _ => hn c hc⟩
  · rw [if_neg hc, Nat.add_zero]
    exact p.met c
theorem take_app {R S : List Int} {i : Nat} (h : i ≤ R.length) : (R ++ S).take i = R.take i := by
  rw [List.take_append_of_le_length h]
/-- A cell that is new. -/
theorem Lp.new {h : List Cl} {x : Int} {i : Nat} {R : List Int} {O : List Nat} (p : Lp h x i R O) (ro : RowOk h x) {z : Int} (hz : R[i]? = some z) {c : Nat} (hc : refN z = some c) (hn : c ∉ O) : Lp h x (i + 1) (R ++ fl h c) (O ++ [c]) := by
  have hi := (List.getElem?_eq_some_iff.1 hz).1
  refine ⟨?_, ?_, fun d hd => ?_, fun d => ?_, by rw [List.length_append]; omega⟩
  · rw [p.row, List.flatMap_append]
    simp
  · rw [List.nodup_append]
    refine ⟨p.nd, by simp, fun a ha b hb => ?_⟩
    rw [List.mem_singleton] at hb
    subst hb
    exact fun e => hn (e ▸ ha)
  · rcases List.mem_append.1 hd with hd | hd
    · exact p.within d hd
    · rw [List.mem_singleton] at hd
      subst hd
      exact p.ref ro (List.mem_of_getElem? hz) hc
  · rw [take_app (by omega), cnt_step hz, List.mem_append, List.mem_singleton]
    by_cases he : refN z = some d
    · have : d = c := Option.some.inj (he.symm.trans hc)
      rw [if_pos he]
      exact ⟨fun _ => by omega, fun _ => .inr this⟩
    · rw [if_neg he, Nat.add_zero, ← p.met d]
      exact ⟨fun hh => hh.resolve_right (fun e => he (e ▸ hc)), .inl⟩
theorem cnt_mem {L : List Int} {z : Int} {d : Nat} (hz : z ∈ L) (hd : refN z = some d) : 1 ≤ cntM L d := by
  unfold cntM
  refine List.length_pos_of_mem (a := z) ?_
  rw [List.mem_filter]
  exact ⟨hz, by simp [hd]⟩
/-- At its end all is met. -/
theorem Lp.over {h : List Cl} {x : Int} {i : Nat} {R : List Int} {O : List Nat} (p : Lp h x i R O) (hf : fitsB h x = true) (hl : h.length ≤ 1000000) (hk : ∀ y ∈ h, OkK y) (hx : Rng x) (hnm : (metW (fH (bareM h) [x]) (fromM h x)).any (nameless 0) = false) (hi : R.length ≤ i) :
    ∃ e, lrun 0 (showT h [] x) = (e, rsum (fun c => if 1 < cntM (R.take i) c then 1 else 0) [] h.length, rsum (fun c => cntM (R.take i) c - 1) [] h.length) := by
  have hm := p.met
  rw [List.take_of_length_le hi] at hm ⊢
  have hr := p.row
  have := law_counts hf hl hk hx hnm p.nd p.within (fun d hd => (hm d).2 (by rw [hr]; exact cnt_mem (List.mem_cons_self ..) hd)) (fun c hc z hz d hd => (hm d).2 (by rw [hr]; exact cnt_mem (List.mem_cons_of_mem _ (List.mem_flatMap.2 ⟨c, hc, hz⟩)) hd)) (fun c hc => by rw [← hr]; exact (hm c).1 hc)
  rw [← hr] at this
  exact this
/-- The law's two rows in memory: how often each cell was met, and the words. -/
structure LL (w0 wr : World) (gm B n : Nat) (f : Nat → Nat) (v : Value) (k : Nat) (R : List Int) : Prop where
  dr : DR wr 3 gm n (fun k u => u = .int .i64 (f k : Nat))
  own : wr.ownsRow B 25 1 v k (encU R)
  len : R.length = k
  bel : Below w0.heap.size w0 wr
  lo : w0.heap.size ≤ gm
  hi : gm < B
  le : B ≤ wr.heap.size
theorem LL.at {w0 wr : World} {gm B n : Nat} {f : Nat → Nat} {rv : Option Addr} {k cv : Nat} {R : List Int} (h : LL w0 wr gm B n f (.slice rv k cv) k R) {j : Nat} {z : Int} (hz : R[j]? = some z) : ∃ g, rv = some ⟨g, 0, none⟩ ∧ g < wr.heap.size ∧ wr.cell? ⟨g, j, none⟩ = some (.int .u64 z) := by
  have hj := (List.getElem?_eq_some_iff.1 hz).1
  have hl := h.len
  rcases h.own.2 with ⟨h0, h1⟩ | ⟨g, cap, cur, hv, _⟩
  · cases h0; omega
  · cases hv
    have h2 := h.own.cells rfl j (.int .u64 z) (by rw [List.getElem?_map, hz]; rfl)
    rw [ad_add, Nat.zero_add] at h2
    exact ⟨g, rfl, (h.own.lt g rfl).2, h2⟩
theorem LL.set {w0 wr : World} {gm B n k : Nat} {f f' : Nat → Nat} {v : Value} {R : List Int} (h : LL w0 wr gm B n f v k R) {c m : Nat} (hf : ∀ k, k ≠ c → f' k = f k) (hm : f' c = m) : LL w0 (wr.setCell ⟨gm, c, none⟩ (.int .i64 (m : Nat))) gm B n f' v k R := by
  refine ⟨h.dr.set (fun k u hk hh => by rw [hf k hk]; exact hh) (by rw [hm]), own_same h.own (fun k hk => ?_), h.len, h.bel.setCell (p := ⟨gm, c, none⟩) h.lo _, h.lo, h.hi, by rw [World.size_setCell]; exact h.le⟩
  have := (h.own.lt k hk).1
  have := h.hi
  exact Below.heap_setCell _ _ _ k (by show k ≠ gm; omega)
theorem LL.fs {w0 wr : World} {gm B n k : Nat} {f f' : Nat → Nat} {v : Value} {R : List Int} (h : LL w0 wr gm B n f v k R) (hf : ∀ k, f' k = f k) : LL w0 wr gm B n f' v k R :=
  ⟨h.dr.mono (fun k u _ hh => by rw [hf k]; exact hh), h.own, h.len, h.bel, h.lo, h.hi, h.le⟩
theorem LL.alloc {w0 wr : World} {gm B n k : Nat} {f : Nat → Nat} {v : Value} {R : List Int} (h : LL w0 wr gm B n f v k R) (o : Obj) : LL w0 (wr.alloc o) gm B n f v k R := by
  have al := (Below.refl _ wr).alloc (Nat.le_refl _) o
  exact ⟨h.dr.kept (al.block _ h.dr.lt), own_same h.own (fun k hk => al.block k (h.own.lt k hk).2), h.len, h.bel.trans (al.mono h.bel.size), h.lo, h.hi, Nat.le_trans h.le al.size⟩
theorem LL.app {w0 wr w' : World} {gm B n k : Nat} {f : Nat → Nat} {v v' : Value} {R : List Int} (h : LL w0 wr gm B n f v k R) {z : Int} (ho : w'.ownsRow B 25 1 v' (k + 1) (encU R ++ [.int .u64 z])) (hg : wr.grownBy w' v.ownBlock) : LL w0 w' gm B n f v' (k + 1) (R ++ [z]) := by
  have hb : Below B wr w' := grown_low hg (fun k hk => (h.own.lt k hk).1) h.le
  refine ⟨h.dr.kept (hb.block _ h.hi), ?_, by rw [List.length_append, h.len]; rfl, h.bel.trans (hb.mono (by have := h.lo; have := h.hi; omega)), h.lo, h.hi, Nat.le_trans h.le hb.size⟩
  rw [show encU (R ++ [z]) = encU R ++ [.int .u64 z] by simp [encU]]
  exact ho
theorem fl_rng {h : List Cl} (hk : ∀ y ∈ h, OkK y) {c : Nat} (hc : c < h.length) : ∀ z ∈ fl h c, Rng z := fun z hz => by
  obtain ⟨y, hy⟩ : ∃ y, h[c]? = some y := ⟨_, List.getElem?_eq_getElem hc⟩
  have := hk y (List.mem_of_getElem? hy)
  unfold fl at hz
  rw [getD_some hy] at hz
  unfold fieldsM at hz
  split at hz
  · simp at hz; rcases hz with rfl | rfl
    · exact this.a
    · exact this.b
  · split at hz
    · simp at hz; subst hz; exact this.a
    · simp at hz; subst hz; exact this.b
theorem Lp.rng {h : List Cl} {x : Int} {i : Nat} {R : List Int} {O : List Nat} (p : Lp h x i R O) (ro : RowOk h x) (hk : ∀ y ∈ h, OkK y) (hx : Rng x) {z : Int} (hz : z ∈ R) : Rng z := by
  rw [p.row] at hz
  rcases List.mem_cons.1 hz with rfl | hz
  · exact hx
  · obtain ⟨c, hc, hz⟩ := List.mem_flatMap.1 hz
    exact fl_rng hk (ro.lt c (p.within c hc)) z hz
theorem okS_parts {h : List Cl} {x : Int} (hk : okS h [] x = true) : fitsB h x = true ∧ (metW (fH (bareM h) [x]) (fromM h x)).any (nameless 0) = false := by
  unfold okS at hk
  simp only [Bool.and_eq_true, Bool.not_eq_true'] at hk
  exact ⟨hk.1, hk.2.2⟩
theorem show_len {h : List Cl} {x : Int} (hk : okS h [] x = true) (hl : h.length ≤ 1000000) (hK : ∀ y ∈ h, OkK y) (hx : Rng x) : (showT h [] x).length ≤ 64 * (3 * h.length + 1) := by
  obtain ⟨h1, h2⟩ := okS_parts hk
  have hs := seen_of h1 hl hK hx
  have ro := row_ok h1 hl hK hx
  obtain ⟨r, V, e1, _, _, _, h3, _⟩ := hs.tells (N := []) rfl h2
  have e2 : showT h [] x = r.1 := by unfold showT textM; rw [e1]
  have h4 := nd_len h.length ro.nd ro.lt
  rw [e2]
  rw [ro.len] at h3
  omega
theorem rsum_succ (g : Nat → Nat) (n : Nat) : rsum g [] (n + 1) = rsum g [] n + g n := by
  rw [rsum]
  simp
theorem rsum_le {g : Nat → Nat} {m : Nat} (hg : ∀ k, g k ≤ m) : ∀ n, rsum g [] n ≤ m * n
  | 0 => Nat.zero_le _
  | n + 1 => by
    have := rsum_le hg n
    have := hg n
    rw [rsum_succ, Nat.mul_succ]
    omega
end Go.Proofs.YtejmoopgfnjaaaaDoor

/- ShowLabels. -/
namespace Go.Proofs.YtejmoopgfnjaaaaDoor
open Go.RowKit Go.Maps Go.ChangeMaps

set_option maxRecDepth 100000 in
set_option maxHeartbeats 40000000 in
theorem showLabels_walk (h : List Cl) (x : Int) (ra : Option Addr) (ca : Nat) (w : World) (hh : h.length ≤ 281474976710656) (hH : HR w ra h) (hx : Rng x) (hG : Gl w) :
    Calls Tryd.prog 5 #[.slice ra h.length ca, .int .u64 x] w fun e w' => e = .returned (.bool true) ∧ Below w.heap.size w w' := by
  have HWk : Hid _ := works_any w hG
  have HA : Hid (∀ w', Below w.heap.size w w' → HR w' ra h ∧ Gl w') := fun w' hb => ⟨hH.below hb, hG.below hb⟩
  have HXY : Hid (Rng x ∧ ∀ z ∈ h, OkK z) := ⟨hx, hr_ok hH⟩
  clear hH hG hx
  go_enter Tryd.func5, Tryd.ntmps5
  go_wp2_with fail
  refine Calls.mono HWk.out ?_
  rintro e w1 ⟨rfl, hb1⟩
  have HB1 : Hid (Below w.heap.size w w1) := hb1
  have HV1 : Hid _ := heavy_any h.length [] ra none ca 0 w1 hh (tx_nil w1) (by simp)
  clear hb1 HWk
  go_wp2_with fail
  refine Calls.mono HV1.out ?_
  rintro e w2 ⟨⟨b1, rfl, hv1⟩, hb2⟩
  have HB2 : Hid (Below w.heap.size w w2) := HB1.out.trans (hb2.mono HB1.out.size)
  clear hb2 HV1
  cases b1 with
  | true =>
    clear hv1
    go_wp2
    go_ret
    exact ⟨rfl, HB2.out⟩
  | false =>
    obtain ⟨l1, l2, l3⟩ := hv1 rfl
    have A2 := HA.out w2 HB2.out
    have HS1 : Hid _ := show_any h [] x ra none ca 0 w2 (by omega) A2.1 HXY.out.1 A2.2.tab (by simp) (tx_nil w2) A2.2.ev A2.2.tb
    clear hv1 A2 l2 l3
    go_wp2_with fail
    refine Calls.mono HS1.out ?_
    rintro e w5 ⟨hr1, hb3⟩
    have HB5 : Hid (Below w.heap.size w w5) := HB2.out.trans (hb3.mono HB2.out.size)
    clear hb3 HS1 HB1 HB2
    rcases hr1 with ⟨hk1, rfl⟩ | ⟨hk1, rfl⟩
    · clear hk1
      go_wp2
      go_ret
      exact ⟨rfl, HB5.out⟩
    have HK1 : Hid (okS h [] x = true) := hk1
    have HRo : Hid (RowOk h x) := row_ok (okS_parts hk1).1 (by omega) HXY.out.2 HXY.out.1
    obtain ⟨T1, hT1⟩ : ∃ T, T = showT h [] x := ⟨_, rfl⟩
    rw [← hT1]
    have HT1 : Hid (T1 = showT h [] x) := hT1
    clear hk1 hT1
    obtain ⟨i0, hi0, hz0, hz1, hz2⟩ := info_parts infoI
    obtain ⟨i2, hi2, hv0, hv1, hv2⟩ := info_parts infoW
    go_wp2_with (at_make; refine stop_of ?_)
    unfold Hid
    refine wpList_make_full _ rfl _ _ 34 rfl w5.heap.size 3 i0 (.int .i64 0) 1 Tryd.underlying34 hi0 hz0 hz1 .i64 .i64 _ _ h.length rfl rfl rfl rfl (by rw [hz2]; omega) (by unfold maxLen; omega) (Nat.le_refl _) ?_
    intro w6 hown hgr
    have hd6 := dr_made hown (made_zero _)
    have hB6 : Below w5.heap.size w5 w6 := grown_low hgr (fun g hg => by cases hg) (Nat.le_refl _)
    have hl6 := hd6.lt
    have al := (Below.refl _ w6).alloc (Nat.le_refl _) (.cells #[.int .u64 x] 25)
    have HL0 : Hid (LL w5 (w6.alloc (.cells #[.int .u64 x] 25)) w5.heap.size w6.heap.size h.length (cntM ([x].take 0)) (.slice (some ⟨w6.heap.size, 0, none⟩) 1 1) 1 [x]) :=
      ⟨(hd6.kept (al.block _ hl6)).mono (fun k u _ hh => hh), ⟨by simp, .inr ⟨w6.heap.size, 1, #[.int .u64 x], rfl, Nat.le_refl _, heap_alloc_new _ _, Nat.le_refl _, by unfold maxLen; omega, rfl, by simp⟩⟩, rfl, hB6.trans (al.mono hB6.size), Nat.le_refl _, hl6, al.size⟩
    clear hown hgr hd6 hB6 al hi0 hz0 hz1 hz2
    go_upto_region 10 with fail
    generalize w6.alloc (.cells #[.int .u64 x] 25) = W7 at *
    go_wp2
    go_loopw [10, 11, 12, 13] (fun v i _ _ wr => ∃ (j k : Nat) (R : List Int) (O : List Nat) (rv : Option Addr) (cv : Nat), v = .slice rv k cv ∧ i = .int .i64 j ∧ j ≤ k ∧ k ≤ 10001 ∧ Hid (Lp h x j R O) ∧ Hid (LL w5 wr w5.heap.size w6.heap.size h.length (cntM (R.take j)) (.slice rv k cv) k R)) (fun _ i _ _ _ => 20002 - (intOf i).toNat)
    case atStart => exact ⟨0, 1, [x], [], some ⟨w6.heap.size, 0, none⟩, 1, rfl, rfl, by omega, by omega, Lp.start h x, HL0⟩
    case round =>
      clear HL0
      obtain ⟨j, k, R, O, rv, cv, rfl, rfl, hj, hk, HP, HL⟩ := hrel
      by_cases hlt : j < k
      · have k1 : (j : Int) < (k : Int) := by omega
        obtain ⟨z, hz⟩ : ∃ z, R[j]? = some z := ⟨_, List.getElem?_eq_getElem (by rw [HL.out.len]; exact hlt)⟩
        obtain ⟨g, rfl, lg, cz⟩ := HL.out.at hz
        have hbw : Below w.heap.size w wr := HB5.out.trans (HL.out.bel.mono HB5.out.size)
        have HC : Hid (Calls Tryd.prog 12 #[.int .u64 z] wr fun e w' => e = .returned (.tuple #[.int .i64 (cellV z), .bool (refB z)]) ∧ w' = wr) := cell_any z wr (HP.out.rng HRo.out HXY.out.2 HXY.out.1 (List.mem_of_getElem? hz)) (HA.out wr hbw).2.tab
        have HZ : Hid (R[j]? = some z) := hz
        clear hz hbw
        cases hrb : refB z
        · have hn : refN z = none := by
            have h2 : ¬ ofT z = 8 := by unfold refB at hrb; simpa using hrb
            unfold refN; rw [if_neg h2]
          have HP2 : Hid (Lp h x (j + 1) R O) := HP.out.same HZ.out (fun c hc => by rw [hn] at hc; cases hc)
          have HL2 : Hid (LL w5 wr w5.heap.size w6.heap.size h.length (cntM (R.take (j + 1))) (.slice (some ⟨g, 0, none⟩) k cv) k R) := HL.out.fs (fun d => by rw [cnt_step HZ.out, hn]; simp)
          rw [hrb] at HC
          clear hrb hn HL HP
          go_wp2_with fail
          refine Calls.mono HC.out ?_
          rintro e wq ⟨rfl, hq⟩
          rw [hq]
          clear hq HC
          go_wp2
          go_roundw
          case rel => exact ⟨j + 1, k, R, O, some ⟨g, 0, none⟩, cv, rfl, by go_num, by omega, hk, HP2, HL2⟩
          case measure => simp [intOf]; omega
        · obtain ⟨c, hc, hcv⟩ := ref_some hrb
          rw [hrb, hcv] at HC
          have hcr := HP.out.ref HRo.out (List.mem_of_getElem? HZ.out) hc
          have hcl := HRo.out.lt c hcr
          obtain ⟨y, hy, hky⟩ := HRo.out.kd c hcr
          have HY : Hid (h[c]? = some y ∧ Kd y) := ⟨hy, hky⟩
          have HCz : Hid (refN z = some c) := hc
          obtain ⟨m, hm⟩ : ∃ m, m = cntM (R.take j) c := ⟨_, rfl⟩
          have HM : Hid (m = cntM (R.take j) c) := hm
          have hmb : m ≤ 10001 := by
            have := cnt_le (R.take j) c
            rw [List.length_take] at this
            omega
          obtain ⟨u, hu, hu2⟩ := HL.out.dr.cell hcl
          have hu3 : u = .int .i64 (m : Nat) := by rw [hu2, hm]
          subst hu3
          have zf := HL.out.dr.fz c
          have sl := HL.out.dr.lt
          have kc : (c : Int) < (h.length : Int) := by omega
          obtain ⟨m', hm'⟩ : ∃ m' : Nat, m' = m + 1 := ⟨_, rfl⟩
          have e1 : (m : Int) + 1 = (m' : Int) := by omega
          have e2 : (m' : Int) ≤ 9223372036854775807 := by omega
          have HL2 : Hid (LL w5 (wr.setCell ⟨w5.heap.size, c, none⟩ (.int .i64 (m' : Nat))) w5.heap.size w6.heap.size h.length (cntM (R.take (j + 1))) (.slice (some ⟨g, 0, none⟩) k cv) k R) := HL.out.set (fun d hd => by rw [cnt_step HZ.out, HCz.out, if_neg (fun e => hd (Option.some.inj e).symm), Nat.add_zero]) (by rw [cnt_step HZ.out, HCz.out, if_pos rfl, ← hm, hm'])
          obtain ⟨u5, hu5, hu6⟩ := HL2.out.dr.cell hcl
          have hu7 : u5 = .int .i64 (m' : Nat) := by rw [hu6, cnt_step HZ.out, HCz.out, if_pos rfl, ← hm, hm']
          subst hu7
          have sl2 := HL2.out.dr.lt
          clear hrb hcv hc hy hky hm hu2 hu6 HL hcr hm'
          go_wp2_with fail
          refine Calls.mono HC.out ?_
          rintro e wq ⟨rfl, hq⟩
          rw [hq]
          clear hq HC
          go_upto_region 16 with fail
          generalize wr.setCell ⟨w5.heap.size, c, none⟩ (.int .i64 (m' : Nat)) = W2 at *
          clear lg cz hu zf sl
          by_cases hm1 : m = 0
          · have g1 : ¬ (m' : Int) > 1 := by omega
            have hcO : c ∉ O := fun e => by
              have := (HP.out.met c).1 e
              rw [← HM.out] at this
              omega
            have HN0 : Hid (Lp h x (j + 1) (R ++ fl h c) (O ++ [c])) := HP.out.new HRo.out HZ.out HCz.out hcO
            have HFl : Hid (fl h c = fieldsM y) := by show _ = _; unfold fl; rw [getD_some HY.out.1]
            have HTk : Hid (∀ S : List Int, cntM ((R ++ S).take (j + 1)) = cntM (R.take (j + 1))) := fun S => by rw [take_app (by rw [HL2.out.len]; omega)]
            obtain ⟨bh, oh, q1, q2⟩ := (HA.out W2 (HB5.out.trans (HL2.out.bel.mono HB5.out.size))).1
            obtain rfl : ra = some ⟨bh, oh, none⟩ := q1.resolve_left (by omega)
            obtain ⟨dl, ⟨d0, _, d2, d3⟩, _⟩ := q2 c y HY.out.1
            clear q1 q2 hcO hm1 e1 e2 HP HM
            rcases HY.out.2 with ky | ky | ky
            · have f1 : (y.k != 3) = true := by rw [ky]; rfl
              have f2 : (y.k != 2) = true := by rw [ky]; rfl
              have HNw : Hid (Lp h x (j + 1) (R ++ [y.a] ++ [y.b]) (O ++ [c]) ∧ True) := by
                have := HN0.out
                rw [HFl.out] at this
                unfold fieldsM at this
                rw [if_pos ky] at this
                rw [List.append_assoc]
                exact ⟨this, trivial⟩
              clear ky HN0 HFl
              go_wp2_with (at_builtin; refine stop_of ?_)
              unfold Hid
              refine wpList_append_lies _ rfl _ _ 42 rfl w6.heap.size 25 i2 (.int .u64 0) 1 8 Tryd.underlying42 hi2 hv0 hv1 hv2 rfl (by decide) _ k (encU R) rfl (HL2.out.own.alloc _) ⟨W2.heap.size, 0, none⟩ 1 1 [.int .u64 y.a] rfl rfl (fun k u hu => ?_) (fun u hu => ?_) (by omega) (by unfold maxLen; omega) (by omega) (by rw [World.size_alloc]; have := HL2.out.le; omega) _ rfl ?_
              · rw [ad_add, Nat.zero_add]
                exact new_cell _ #[.int .u64 y.a] _ k u hu
              · simp only [List.mem_cons, List.not_mem_nil, or_false] at hu
                subst hu; rfl
              intro g4 c4 w4 hown hgr _ _
              have HL4 : Hid (LL w5 w4 w5.heap.size w6.heap.size h.length (cntM (R.take (j + 1))) (.slice (some ⟨g4, 0, none⟩) (k + 1) c4) (k + 1) (R ++ [y.a])) := (HL2.out.alloc _).app hown hgr
              clear hown hgr HL2
              obtain ⟨bq, oq, p1, p2⟩ := (HA.out w4 (HB5.out.trans (HL4.out.bel.mono HB5.out.size))).1
              obtain ⟨rfl, rfl⟩ : bh = bq ∧ oh = oq := by
                have := p1.resolve_left (by omega)
                cases this
                exact ⟨rfl, rfl⟩
              obtain ⟨xl, ⟨x0, _, x2, x3⟩, _⟩ := p2 c y HY.out.1
              clear p1 p2
              clear d0 d2 d3 dl hu5 sl2
              go_wp2_with (at_builtin; refine stop_of ?_)
              unfold Hid
              refine wpList_append_lies _ rfl _ _ 42 rfl w6.heap.size 25 i2 (.int .u64 0) 1 8 Tryd.underlying42 hi2 hv0 hv1 hv2 rfl (by decide) _ (k + 1) (encU (R ++ [y.a])) rfl (HL4.out.own.alloc _) ⟨w4.heap.size, 0, none⟩ 1 1 [.int .u64 y.b] rfl rfl (fun k u hu => ?_) (fun u hu => ?_) (by omega) (by unfold maxLen; omega) (by omega) (by rw [World.size_alloc]; have := HL4.out.le; omega) _ rfl ?_
              · rw [ad_add, Nat.zero_add]
                exact new_cell _ #[.int .u64 y.b] _ k u hu
              · simp only [List.mem_cons, List.not_mem_nil, or_false] at hu
                subst hu; rfl
              intro g5 c5 w8 hown hgr _ _
              have HL5 : Hid (LL w5 w8 w5.heap.size w6.heap.size h.length (cntM (R.take (j + 1))) (.slice (some ⟨g5, 0, none⟩) ((k + 1) + 1) c5) ((k + 1) + 1) ((R ++ [y.a]) ++ [y.b])) := (HL4.out.alloc _).app hown hgr
              clear hown hgr HL4
              have HL6 : Hid (LL w5 w8 w5.heap.size w6.heap.size h.length (cntM ((R ++ [y.a] ++ [y.b]).take (j + 1))) (.slice (some ⟨g5, 0, none⟩) (k + 1 + 1) c5) (k + 1 + 1) (R ++ [y.a] ++ [y.b])) := HL5.out.fs (fun d => by rw [List.append_assoc, HTk.out])
              clear HL5 HTk x0 x2 x3 xl
              go_wp2
              go_roundw
              case rel => exact ⟨j + 1, k + 1 + 1, R ++ [y.a] ++ [y.b], O ++ [c], some ⟨g5, 0, none⟩, c5, rfl, by go_num, by have := HNw.out.1.le; have := HL6.out.len; have := HNw.out.2; omega, by have := HNw.out.1.len HRo.out; have := HL6.out.len; have := HNw.out.2; omega, HNw.out.1, HL6⟩
              case measure => simp [intOf]; omega
            · have f1 : (y.k != 3) = true := by rw [ky]; rfl
              have f2 : (y.k != 2) = false := by rw [ky]; rfl
              have HNw : Hid (Lp h x (j + 1) (R ++ [y.a]) (O ++ [c]) ∧ True) := by
                have := HN0.out
                rw [HFl.out] at this
                unfold fieldsM at this
                rw [if_neg (by omega), if_pos ky] at this
                exact ⟨this, trivial⟩
              clear ky HN0 HFl
              go_wp2_with (at_builtin; refine stop_of ?_)
              unfold Hid
              refine wpList_append_lies _ rfl _ _ 42 rfl w6.heap.size 25 i2 (.int .u64 0) 1 8 Tryd.underlying42 hi2 hv0 hv1 hv2 rfl (by decide) _ k (encU R) rfl (HL2.out.own.alloc _) ⟨W2.heap.size, 0, none⟩ 1 1 [.int .u64 y.a] rfl rfl (fun k u hu => ?_) (fun u hu => ?_) (by omega) (by unfold maxLen; omega) (by omega) (by rw [World.size_alloc]; have := HL2.out.le; omega) _ rfl ?_
              · rw [ad_add, Nat.zero_add]
                exact new_cell _ #[.int .u64 y.a] _ k u hu
              · simp only [List.mem_cons, List.not_mem_nil, or_false] at hu
                subst hu; rfl
              intro g4 c4 w4 hown hgr _ _
              have HL4 : Hid (LL w5 w4 w5.heap.size w6.heap.size h.length (cntM (R.take (j + 1))) (.slice (some ⟨g4, 0, none⟩) (k + 1) c4) (k + 1) (R ++ [y.a])) := (HL2.out.alloc _).app hown hgr
              clear hown hgr HL2
              obtain ⟨bq, oq, p1, p2⟩ := (HA.out w4 (HB5.out.trans (HL4.out.bel.mono HB5.out.size))).1
              obtain ⟨rfl, rfl⟩ : bh = bq ∧ oh = oq := by
                have := p1.resolve_left (by omega)
                cases this
                exact ⟨rfl, rfl⟩
              obtain ⟨xl, ⟨x0, _, x2, x3⟩, _⟩ := p2 c y HY.out.1
              clear p1 p2
              have HL6 : Hid (LL w5 w4 w5.heap.size w6.heap.size h.length (cntM ((R ++ [y.a]).take (j + 1))) (.slice (some ⟨g4, 0, none⟩) (k + 1) c4) (k + 1) (R ++ [y.a])) := HL4.out.fs (fun d => by rw [HTk.out])
              clear HL4 HTk d0 d2 d3 dl hu5 sl2
              go_wp2
              go_roundw
              case rel => exact ⟨j + 1, k + 1, R ++ [y.a], O ++ [c], some ⟨g4, 0, none⟩, c4, rfl, by go_num, by have := HNw.out.1.le; have := HL6.out.len; have := HNw.out.2; omega, by have := HNw.out.1.len HRo.out; have := HL6.out.len; have := HNw.out.2; omega, HNw.out.1, HL6⟩
              case measure => simp [intOf]; omega
            · have f1 : (y.k != 3) = false := by rw [ky]; rfl
              have f2 : (y.k != 2) = true := by rw [ky]; rfl
              have HNw : Hid (Lp h x (j + 1) (R ++ [y.b]) (O ++ [c]) ∧ True) := by
                have := HN0.out
                rw [HFl.out] at this
                unfold fieldsM at this
                rw [if_neg (by omega), if_neg (by omega)] at this
                exact ⟨this, trivial⟩
              clear ky HN0 HFl
              go_wp2_with (at_builtin; refine stop_of ?_)
              unfold Hid
              refine wpList_append_lies _ rfl _ _ 42 rfl w6.heap.size 25 i2 (.int .u64 0) 1 8 Tryd.underlying42 hi2 hv0 hv1 hv2 rfl (by decide) _ k (encU R) rfl (HL2.out.own.alloc _) ⟨W2.heap.size, 0, none⟩ 1 1 [.int .u64 y.b] rfl rfl (fun k u hu => ?_) (fun u hu => ?_) (by omega) (by unfold maxLen; omega) (by omega) (by rw [World.size_alloc]; have := HL2.out.le; omega) _ rfl ?_
              · rw [ad_add, Nat.zero_add]
                exact new_cell _ #[.int .u64 y.b] _ k u hu
              · simp only [List.mem_cons, List.not_mem_nil, or_false] at hu
                subst hu; rfl
              intro g4 c4 w4 hown hgr _ _
              have HL4 : Hid (LL w5 w4 w5.heap.size w6.heap.size h.length (cntM (R.take (j + 1))) (.slice (some ⟨g4, 0, none⟩) (k + 1) c4) (k + 1) (R ++ [y.b])) := (HL2.out.alloc _).app hown hgr
              clear hown hgr HL2
              have HL6 : Hid (LL w5 w4 w5.heap.size w6.heap.size h.length (cntM ((R ++ [y.b]).take (j + 1))) (.slice (some ⟨g4, 0, none⟩) (k + 1) c4) (k + 1) (R ++ [y.b])) := HL4.out.fs (fun d => by rw [HTk.out])
              clear HL4 HTk d0 d2 d3 dl hu5 sl2
              go_wp2
              go_roundw
              case rel => exact ⟨j + 1, k + 1, R ++ [y.b], O ++ [c], some ⟨g4, 0, none⟩, c4, rfl, by go_num, by have := HNw.out.1.le; have := HL6.out.len; have := HNw.out.2; omega, by have := HNw.out.1.len HRo.out; have := HL6.out.len; have := HNw.out.2; omega, HNw.out.1, HL6⟩
              case measure => simp [intOf]; omega
          · have g1 : (m' : Int) > 1 := by omega
            have HP2 : Hid (Lp h x (j + 1) R O) := HP.out.same HZ.out (fun d hd => by
              have : d = c := Option.some.inj (hd.symm.trans HCz.out)
              subst this
              refine (HP.out.met d).2 ?_
              rw [← HM.out]; omega)
            clear HP HM
            go_wp2
            go_roundw
            case rel => exact ⟨j + 1, k, R, O, some ⟨g, 0, none⟩, cv, rfl, by go_num, by omega, hk, HP2, HL2⟩
            case measure => simp [intOf]; omega
      · have k1 : ¬ (j : Int) < (k : Int) := by omega
        obtain ⟨f, hf⟩ : ∃ f, f = cntM (R.take j) := ⟨_, rfl⟩
        have hfb : ∀ c, f c ≤ 10001 := fun c => by
          have := cnt_le (R.take j) c
          rw [List.length_take] at this
          rw [hf]; omega
        have HE : Hid (∃ e, lrun 0 T1 = (e, rsum (fun c => if 1 < f c then 1 else 0) [] h.length, rsum (fun c => f c - 1) [] h.length)) := by
          have ok := okS_parts HK1.out
          have := HP.out.over ok.1 (by omega) HXY.out.2 HXY.out.1 ok.2 (by rw [HL.out.len]; omega)
          rw [← hf, ← HT1.out] at this
          exact this
        have HTl : Hid (T1.length ≤ 100000000) := by
          show _ ≤ _
          have := show_len HK1.out (by omega) HXY.out.2 HXY.out.1
          rw [HT1.out]; omega
        have HL2 := HL.out
        rw [← hf] at HL2
        have HF : Hid (∀ c, f c ≤ 10001) := hfb
        have HDr : Hid (DR wr 3 w5.heap.size h.length (fun k u => u = .int .i64 (f k : Nat))) := HL2.dr
        have HBe : Hid (Below w.heap.size w wr) := HB5.out.trans (HL2.bel.mono HB5.out.size)
        clear HL HP hf HL2 hfb HT1 HK1 HRo HXY HA HB5
        obtain ⟨wA, rfl⟩ : ∃ wA, wA = wr := ⟨_, rfl⟩
        go_wp2
        go_loopw [14, 15, 16] (fun a b i wr => ∃ (s G B : Nat), a = .int .i64 G ∧ b = .int .i64 B ∧ i = .int .i64 s ∧ s ≤ h.length ∧ G ≤ 5000 ∧ B ≤ 50005000 ∧ Hid (G = rsum (fun c => if 1 < f c then 1 else 0) [] s ∧ B = rsum (fun c => f c - 1) [] s) ∧ wr = wA) (fun _ _ i _ => h.length - (intOf i).toNat)
        case atStart => exact ⟨0, 0, 0, rfl, rfl, rfl, Nat.zero_le _, by omega, by omega, ⟨rfl, rfl⟩, rfl⟩
        case round =>
          obtain ⟨s, G, B, rfl, rfl, rfl, hs, hG, hB, HGB, rfl⟩ := hrel
          by_cases hls : s < h.length
          · have k2 : (s : Int) < (h.length : Int) := by omega
            obtain ⟨u, hu, hu2⟩ := HDr.out.cell hls
            obtain ⟨m, hm⟩ : ∃ m, m = f s := ⟨_, rfl⟩
            rw [← hm] at hu2
            subst hu2
            have sl := HDr.out.lt
            have hmb : m ≤ 10001 := by rw [hm]; exact HF.out s
            have r1 := rsum_le (g := fun c => if 1 < f c then 1 else 0) (m := 1) (fun k => by split <;> omega) (s + 1)
            have r2 := rsum_le (g := fun c => f c - 1) (m := 10001) (fun k => by have := HF.out k; omega) (s + 1)
            have HG1 : Hid (rsum (fun c => if 1 < f c then 1 else 0) [] (s + 1) = G + (if 1 < m then 1 else 0)) := by show _ = _; rw [rsum_succ, HGB.out.1, hm]
            have HG2 : Hid (rsum (fun c => f c - 1) [] (s + 1) = B + (m - 1)) := by show _ = _; rw [rsum_succ, HGB.out.2, hm]
            rw [HG1.out] at r1
            rw [HG2.out] at r2
            clear hm
            by_cases h1 : 1 < m
            · have k3 : (m : Int) > 1 := by omega
              rw [if_pos h1] at r1 HG1
              have e1 : (B : Int) + (m : Int) ≤ 9223372036854775807 := by omega
              have e2 : (B : Int) + (m : Int) - 1 = ((B + (m - 1) : Nat) : Int) := by omega
              obtain ⟨B', hB'⟩ : ∃ B', B' = B + (m - 1) := ⟨_, rfl⟩
              rw [← hB'] at e2
              have e3 : (B' : Int) ≤ 9223372036854775807 := by omega
              have HB' : Hid (B' = B + (m - 1)) := hB'
              clear hB'
              go_wp2
              go_roundw
              case rel => exact ⟨s + 1, G + 1, B', by go_num, rfl, by go_num, by omega, by omega, by have := HB'.out; omega, ⟨HG1.out.symm, by rw [HG2.out, HB'.out]⟩, trivial⟩
              case measure => simp [intOf]; omega
            · have k3 : ¬ (m : Int) > 1 := by omega
              rw [if_neg h1] at r1 HG1
              go_wp2
              go_roundw
              case rel => exact ⟨s + 1, G, B, rfl, rfl, by go_num, by omega, by omega, by omega, ⟨by rw [HG1.out]; rfl, by rw [HG2.out]; omega⟩, trivial⟩
              case measure => simp [intOf]; omega
          · have k2 : ¬ (s : Int) < (h.length : Int) := by omega
            obtain rfl : s = h.length := by omega
            have HLb : Hid (Calls Tryd.prog 13 #[S T1] wr fun e w' => e = .returned (.tuple #[.int .i64 (G : Nat), .int .i64 (B : Nat)]) ∧ w' = wr) := by
              obtain ⟨e, he⟩ := HE.out
              have := labels_any ⟨T1.toArray⟩ wr HTl.out
              have e5 : (ByteArray.mk T1.toArray).data.toList = T1 := rfl
              rw [e5, he] at this
              rw [HGB.out.1, HGB.out.2]
              exact this
            clear HE HTl HGB
            go_wp2_with fail
            refine Calls.mono HLb.out ?_
            rintro e wq ⟨rfl, hq⟩
            rw [hq]
            clear hq HLb
            go_wp2
            go_ret
            exact ⟨rfl, HBe.out⟩
end Go.Proofs.YtejmoopgfnjaaaaDoor
