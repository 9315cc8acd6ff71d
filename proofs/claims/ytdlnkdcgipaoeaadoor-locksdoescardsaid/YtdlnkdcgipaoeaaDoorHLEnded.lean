/- A thread ends, by the answers alone. -/
import Derived.Test.YtdlnkdcgipaoeaaDoorHLEndJ
namespace Go.Proofs.YtdlnkdcgipaoeaaDoor
open Go.RowKit

theorem EJ.gs {w0 w wr : World} {b gr gj gb ob : Nat} {R : List (Sl × List Int)} {J : List Int} {B : Bk} {F : Nat → Prop} {gs gs' : Nat → Bool} {ov : Array Value} (h : EJ w0 w wr b gr gj gb ob R J B F gs ov) (he : ∀ k, gs k = gs' k) : EJ w0 w wr b gr gj gb ob R J B F gs' ov :=
  ⟨h.jf, h.g.mono (fun k u _ hu => by rw [← he k]; exact hu), h.o, h.dg, h.d2, h.fl, h.w0⟩
def wantN (gs : Nat → Bool) (n : Nat) : List Int := ((List.range n).filter (fun i => gs (i + 1))).map (fun i => ((i + 1 : Nat) : Int))
theorem wantN_succ (gs : Nat → Bool) (n : Nat) : wantN gs (n + 1) = if gs (n + 1) = true then wantN gs n ++ [((n + 1 : Nat) : Int)] else wantN gs n := by
  unfold wantN
  rw [List.range_succ, List.filter_append, List.map_append, List.filter_cons, List.filter_nil]
  split <;> simp
theorem wantN_len (gs : Nat → Bool) (n : Nat) : (wantN gs n).length ≤ n := by
  unfold wantN
  rw [List.length_map]
  have := List.length_filter_le (fun i => gs (i + 1)) (List.range n)
  simpa using this
theorem wantN_mem {gs : Nat → Bool} {n : Nat} {x : Int} : x ∈ wantN gs n ↔ ∃ i, i < n ∧ gs (i + 1) = true ∧ x = ((i + 1 : Nat) : Int) := by
  unfold wantN
  simp only [List.mem_map, List.mem_filter, List.mem_range]
  constructor
  · rintro ⟨i, ⟨h1, h2⟩, h3⟩
    exact ⟨i, h1, h2, h3.symm⟩
  · rintro ⟨i, h1, h2, h3⟩
    exact ⟨i, ⟨h1, h2⟩, h3.symm⟩
theorem wantN_lt (gs : Nat → Bool) : ∀ n, (wantN gs n).Pairwise (· < ·)
  | 0 => by simp [wantN]
  | n + 1 => by
    rw [wantN_succ]
    split
    · refine List.pairwise_append.2 ⟨wantN_lt gs n, by simp, fun a ha b hb => ?_⟩
      obtain ⟨i, h1, _, rfl⟩ := wantN_mem.1 ha
      rw [List.mem_singleton.1 hb]
      omega
    · exact wantN_lt gs n
theorem eqE_same (a : Bool) (x y : Int) (w : World) : (binOp .eql 67 (.agg #[.bool a, .int .u64 x, .int .i64 y]) (.agg #[.bool a, .int .u64 x, .int .i64 y])).run Tryd.prog w = .ok (.bool true) w := by
  have hS : Tryd.prog.underlying 67 = some (.struct (Tryd.prog.fieldsOf 67)) := by kernel_rfl
  have hp : Tryd.prog.stoodInHeld 67 = false := by kernel_rfl
  rw [run_eql_struct, show (10000 : Nat) = 9999 + 1 from rfl, run_equalIn_agg w 9999 67 _ _ hS hp]
  simp only [Program.fieldsOf, Tryd.underlying67]
  have u1 := Tryd.underlying4
  have u2 := Tryd.underlying56
  have u3 := Tryd.underlying49
  go_simp
section
variable {w0 w : World} {b gr gj : Nat} {R : List (Sl × List Int)} {J : List Int} {B : Bk} {F : Nat → Prop}
set_option maxRecDepth 100000 in
set_option maxHeartbeats 8000000 in
theorem lawEnded_any (h : JF w0 w b gr gj R J B F) (hr : Rel B R J) {i : Nat} {x : Th} (hx : B.t[i]? = some x) (hg : goB B ((i : Int) + 1) = 0) (kd oT oN wd er : Int) :
    Calls Tryd.prog 21 #[.pointer (some ⟨b, 0, none⟩), .int .i64 ((i : Int) + 1), .agg #[.int .i64 kd, .int .i64 oT, .int .i64 oN, .int .u64 wd, .int .i64 er], .slice (some ⟨gr, 0, none⟩) 3 3, .slice (some ⟨gj, 0, none⟩) 9 9] w fun e w' => OkR w0 b gr gj e w' := by
  have hEJ0 : EJ w0 w ((w.alloc (.cells #[.int .i64 kd, .int .i64 oT, .int .i64 oN, .int .u64 wd, .int .i64 er] 58)).alloc (.cells #[.bool false, .bool false, .bool false, .bool false, .bool false, .bool false, .bool false, .bool false, .bool false] 4)) b gr gj (w.heap.size + 1) w.heap.size R J B F (fun k => decide ((k : Int) ∈ outs ((i : Int) + 1) B.l 0)) #[.int .i64 kd, .int .i64 oT, .int .i64 oN, .int .u64 wd, .int .i64 er] := by
    have b2 : Below w.heap.size w ((w.alloc (.cells #[.int .i64 kd, .int .i64 oT, .int .i64 oN, .int .u64 wd, .int .i64 er] 58)).alloc (.cells #[.bool false, .bool false, .bool false, .bool false, .bool false, .bool false, .bool false, .bool false, .bool false] 4)) := ((Below.refl _ w).alloc (Nat.le_refl _) _).alloc (by rw [World.size_alloc]; omega) _
    refine ⟨h.below b2, ⟨#[.bool false, .bool false, .bool false, .bool false, .bool false, .bool false, .bool false, .bool false, .bool false], ?_, rfl, fun k u hu => ?_⟩, ?_, Nat.le_succ _, Nat.le_refl _, fun g hg => h.bb.lt hg, h.bel.size⟩
    · have := heap_alloc_new (w.alloc (.cells #[.int .i64 kd, .int .i64 oT, .int .i64 oN, .int .u64 wd, .int .i64 er] 58)) (.cells #[.bool false, .bool false, .bool false, .bool false, .bool false, .bool false, .bool false, .bool false, .bool false] 4)
      rw [World.size_alloc] at this
      exact this
    · have hu2 : (List.replicate 9 (Value.bool false)).toArray[k]? = some u := hu
      rw [List.getElem?_toArray] at hu2
      rw [List.eq_of_mem_replicate (List.mem_of_getElem? hu2)]
      simp [outs]
    · exact (Below.heap_alloc _ _ _ (by rw [World.size_alloc]; omega)).trans (heap_alloc_new w _)
  have HE0 : Hid _ := hEJ0
  have HR : Hid (Rel B R J) := hr
  have HX : Hid (B.t[i]? = some x ∧ goB B ((i : Int) + 1) = 0) := ⟨hx, hg⟩
  have htl := hr.tl
  have hi5 : i < 5 := by rw [← htl]; exact (List.getElem?_eq_some_iff.1 hx).1
  have hmk : ∀ W : World, (Instr.makeSlice 132 (.int .i64 9) (.int .i64 9)).run Tryd.prog W = .ok (.slice (some ⟨W.heap.size, 0, none⟩) 9 9) (W.alloc (.cells #[.bool false, .bool false, .bool false, .bool false, .bool false, .bool false, .bool false, .bool false, .bool false] 4)) := fun W => by kernel_rfl
  clear hEJ0 h hr hx hg
  go_enter Tryd.func21, Tryd.ntmps21
  go_wp2
  clear hmk
  generalize ((w.alloc (.cells #[.int .i64 kd, .int .i64 oT, .int .i64 oN, .int .u64 wd, .int .i64 er] 58)).alloc (.cells #[.bool false, .bool false, .bool false, .bool false, .bool false, .bool false, .bool false, .bool false, .bool false] 4)) = W1 at HE0 ⊢
  generalize hgb : w.heap.size + 1 = gb at HE0 ⊢
  generalize hob : w.heap.size = ob at HE0 ⊢
  generalize hov : (#[.int .i64 kd, .int .i64 oT, .int .i64 oN, .int .u64 wd, .int .i64 er] : Array Value) = ov at HE0 ⊢
  have HOV : Hid (ov = #[.int .i64 kd, .int .i64 oT, .int .i64 oN, .int .u64 wd, .int .i64 er]) := hov.symm
  clear hgb hob hov
  go_loopw [13] (fun q wr => ∃ (j : Nat) (R' : List (Sl × List Int)), q = .int .i64 j ∧ j ≤ 3 ∧ Hid (R'.map (·.2) = cutR ((i : Int) + 1) B.l j ∧ EJ w0 w wr b gr gj gb ob R' J B F (fun k => decide ((k : Int) ∈ outs ((i : Int) + 1) B.l j)) ov)) (fun q _ => 3 - (intOf q).toNat)
  case atStart => exact ⟨0, R, rfl, Nat.zero_le _, by rw [HR.out.re]; simp [cutR, hoLs], HE0.out⟩
  case round =>
    obtain ⟨j, R', rfl, hj, HE⟩ := hrel
    by_cases hj3 : j < 3
    · have k1 : (j : Int) < 3 := by omega
      have k0 : (0 : Int) ≤ (j : Int) := by omega
      obtain ⟨y, hy⟩ : ∃ y, B.l[j]? = some y := ⟨_, List.getElem?_eq_getElem (by rw [HR.out.ll]; exact hj3)⟩
      obtain ⟨p, hp, hpy⟩ := cutR_at HE.out.1 hy
      have HH : Hid _ := holder_n HE.out.2.jf.bb hy
      have c1 := HE.out.2.jf.rcell hp
      have lgr := heap_lt HE.out.2.jf.rz.obj
      have HY : Hid (B.l[j]? = some y ∧ R'[j]? = some p) := ⟨hy, hp⟩
      by_cases hh : y.ho = (i : Int) + 1
      · rw [hh] at HH
        have HO : outs ((i : Int) + 1) B.l (j + 1) = outs ((i : Int) + 1) B.l j ++ y.row.take 1 := by
          rw [outs_succ hy]
          unfold hoO1
          rw [if_pos hh]
        have HT : (hoL1 ((i : Int) + 1) y).row = y.row.tail := by unfold hoL1; rw [if_pos hh]; rfl
        have hshort := HR.out.iv.short (rows_l hy)
        cases hrow : y.row with
        | nil =>
          have HE2 : Hid (R'.map (·.2) = cutR ((i : Int) + 1) B.l (j + 1) ∧ EJ w0 w wr b gr gj gb ob R' J B F (fun k => decide ((k : Int) ∈ outs ((i : Int) + 1) B.l (j + 1))) ov) := ⟨by
            rw [HE.out.1]
            exact (cutR_same hy (by rw [HT, hrow]; rfl)).symm, HE.out.2.gs (fun k => by rw [HO, hrow]; simp)⟩
          obtain ⟨⟨pra, pca⟩, pl⟩ := p
          dsimp only at hpy
          rw [hrow] at hpy
          subst hpy
          unfold rc at c1
          dsimp only at c1
          clear HE hy hp hh HO HT hrow HY
          go_wp2_with fail
          refine Calls.mono HH.out ?_
          rintro e w2 ⟨rfl, hw2⟩
          rw [hw2]
          clear hw2
          go_wp2
          go_roundw
          case rel => exact ⟨j + 1, R', by go_num, by omega, HE2⟩
          case measure => simp [intOf]; omega
        | cons z r =>
          obtain ⟨m, tm, hz, hm, -⟩ := HR.out.iv.rg _ (List.mem_of_getElem? (rows_l hy)) z (by rw [hrow]; exact List.mem_cons_self)
          have hm5 : m < 5 := by rw [← htl]; exact (List.getElem?_eq_some_iff.1 hm).1
          obtain ⟨zn, hzn⟩ : ∃ zn : Nat, zn = m + 1 := ⟨_, rfl⟩
          have hz2 : z = (zn : Int) := by omega
          subst hz2
          have hE2 := HE.out.2.gset zn
          have HE2 : Hid _ := hE2
          have hRI := hE2.jf.rz.rr.r j p hp
          obtain ⟨⟨pra, pca⟩, pl⟩ := p
          dsimp only at hpy hRI
          rw [hrow] at hpy
          subst hpy
          obtain ⟨g, off, hra, hcap, lg, cz, -, -⟩ := hRI.cons
          obtain ⟨s2, w2, hap, q1, q2, q3, q4⟩ := hRI.rest.copy (by rw [hrow] at hshort; simp only [List.length_cons] at hshort; omega)
          have hE3 := hE2.row (w1 := w2) (q := (s2, r)) hp q1 q2 q3 q4
          have HE3 : Hid ((R'.set j (s2, r)).map (·.2) = cutR ((i : Int) + 1) B.l (j + 1) ∧ EJ w0 w (w2.setCell ⟨gr, j, none⟩ (.slice s2.ra r.length s2.cap)) b gr gj gb ob (R'.set j (s2, r)) J B F (fun k => decide ((k : Int) ∈ outs ((i : Int) + 1) B.l (j + 1))) ov) := ⟨by
            rw [List.map_set, HE.out.1, cutR_succ hy, HT, hrow]
            rfl, hE3.gs (fun k => by
            rw [HO, hrow]
            by_cases e : k = zn
            · simp [e]
            · rw [if_neg e]
              have : (k : Int) ≠ (zn : Int) := by omega
              simp [this])⟩
          have hcz : wr.cell? ⟨g, off, none⟩ = some (.int .i64 (zn : Int)) := by
            have hRI0 := HE.out.2.jf.rz.rr.r j _ hp
            obtain ⟨g', off', hra', _, _, cz', _⟩ := hRI0.cons
            dsimp only at hra hra'
            rw [hra] at hra'
            cases hra'
            exact cz'
          have lgw : g < wr.heap.size := by
            have := lg
            rwa [World.size_setCell] at this
          obtain ⟨ub, hub, -⟩ := HE.out.2.g.cell (j := zn) (by omega)
          have fub := HE.out.2.g.fz zn
          have lgb := HE.out.2.g.lt
          have hob2 : w2.heap[gr]? = some (.cells (R'.map rc).toArray 62 (0, 0)) := (q2 gr (heap_lt hE2.jf.rz.obj)).trans hE2.jf.rz.obj
          have c3 : w2.cell? ⟨gr, j, none⟩ = some (rc (⟨pra, pca⟩, (zn : Int) :: r)) := heap_cell hob2 (by simp [hp])
          have f3 : w2.frozen? ⟨gr, j, none⟩ = false := by simp [World.frozen?, hob2]
          have l3 := heap_lt hob2
          have c1' : (wr.setCell ⟨gb, zn, none⟩ (.bool true)).cell? ⟨gr, j, none⟩ = some (rc (⟨pra, pca⟩, (zn : Int) :: r)) := hE2.jf.rcell hp
          have lgr' := heap_lt hE2.jf.rz.obj
          unfold rc at c1 c3 c1'
          obtain ⟨ra2, ca2⟩ := s2
          dsimp only at hra hcap
          subst hra
          dsimp only at c1 c3 c1' hap
          have hln2 : ((zn : Int) :: r).length = r.length + 1 := rfl
          rw [hln2] at c1 c3 c1'
          have z0 : (0 : Int) ≤ (zn : Int) := by omega
          have z9 : (zn : Int) < 9 := by omega
          clear hE2 hRI q1 q2 q3 q4 hE3 hob2 HO HT hy hp hh hrow hz hm HE HE2 hln2 HY lg cz hzn
          generalize hln : r.length = ln at *
          have k4 : (0 : Int) < (ln : Int) + 1 := by omega
          have k5 : (1 : Int) ≤ (ln : Int) + 1 := by omega
          by_cases hca : pca = 1
          · subst hca
            have h0 : ln = 0 := by omega
            subst h0
            unfold Sl.rest at hap
            rw [if_pos rfl] at hap
            dsimp only at hap
            go_wp2_with fail
            refine Calls.mono HH.out ?_
            rintro e w2 ⟨rfl, hw2⟩
            rw [hw2]
            clear hw2
            go_wp2_with (at_builtin; refine stop_of ?_)
            unfold Hid
            refine wpList_append_known _ rfl _ _ 62 62 rfl _ _ rfl rfl (hap _) ?_
            clear hap
            go_wp2
            go_roundw
            case rel => exact ⟨j + 1, _, by go_num, by omega, HE3⟩
            case measure => simp [intOf]; omega
          · unfold Sl.rest at hap
            rw [if_neg hca] at hap
            dsimp only [Option.map_some] at hap
            have k6 : ¬ pca - 1 = 0 := by omega
            have k7 : (ln : Int) + 1 ≤ (pca : Int) := by omega
            go_wp2_with fail
            refine Calls.mono HH.out ?_
            rintro e w2 ⟨rfl, hw2⟩
            rw [hw2]
            clear hw2
            go_wp2_with (at_builtin; refine stop_of ?_)
            unfold Hid
            refine wpList_append_known _ rfl _ _ 62 62 rfl _ _ rfl rfl (hap _) ?_
            clear hap
            go_wp2
            go_roundw
            case rel => exact ⟨j + 1, _, by go_num, by omega, HE3⟩
            case measure => simp [intOf]; omega
      · have HE2 : Hid (R'.map (·.2) = cutR ((i : Int) + 1) B.l (j + 1) ∧ EJ w0 w wr b gr gj gb ob R' J B F (fun k => decide ((k : Int) ∈ outs ((i : Int) + 1) B.l (j + 1))) ov) := ⟨by
          rw [HE.out.1]
          exact (cutR_same hy (by unfold hoL1; rw [if_neg hh])).symm, HE.out.2.gs (fun k => by
          rw [outs_succ hy]
          unfold hoO1
          rw [if_neg hh]
          simp)⟩
        generalize y.ho = ho at HH hh
        clear HE hy hp HY hpy c1
        go_wp2_with fail
        refine Calls.mono HH.out ?_
        rintro e w2 ⟨rfl, hw2⟩
        rw [hw2]
        clear hw2
        go_wp2
        go_roundw
        case rel => exact ⟨j + 1, R', by go_num, by omega, HE2⟩
        case measure => simp [intOf]; omega
    · have k1 : ¬ (j : Int) < 3 := by omega
      have hj3' : j = 3 := by omega
      subst hj3'
      obtain ⟨wA, rfl⟩ : ∃ wA, wA = wr := ⟨_, rfl⟩
      go_wp2
      go_loopw [15] (fun q wr => ∃ (k : Nat), q = .int .i64 k ∧ 1 ≤ k ∧ k ≤ 6 ∧ Hid (EJ w0 w wr b gr gj gb ob R' (zapJ ((i : Int) + 1) J k) B F (fun x => decide ((x : Int) ∈ outs ((i : Int) + 1) B.l 3) || decide (1 ≤ x ∧ x < k ∧ J[x]? = some ((i : Int) + 1))) ov)) (fun q _ => 6 - (intOf q).toNat)
      case atStart => exact ⟨1, rfl, by omega, by omega, by
        rw [zapJ_one]
        exact HE.out.2.gs (fun x => by
          have : ¬ (1 ≤ x ∧ x < 1 ∧ J[x]? = some ((i : Int) + 1)) := by omega
          rw [decide_eq_false this, Bool.or_false])⟩
      case round =>
        obtain ⟨k, rfl, hk1, hk6, HK⟩ := hrel
        by_cases hk5 : k ≤ 5
        · have k1 : (k : Int) ≤ 5 := by omega
          have k0 : (0 : Int) ≤ (k : Int) := by omega
          have k9 : (k : Int) < 9 := by omega
          obtain ⟨v, hv⟩ : ∃ v, J[k]? = some v := ⟨_, List.getElem?_eq_getElem (by rw [HR.out.jl]; omega)⟩
          have hzk : (zapJ ((i : Int) + 1) J k)[k]? = some v := by
            rw [zapJ_at, hv]
            simp
          have c1 := HK.out.jf.jcell hzk
          have lgj := heap_lt HK.out.jf.jo
          have fj := HK.out.jf.jfz k
          by_cases hvt : v = (i : Int) + 1
          · subst hvt
            have hE2 := HK.out.jset k 0
            rw [← zapJ_set hk1 hv] at hE2
            obtain ⟨ub, hub, -⟩ := hE2.g.cell (j := k) (by omega)
            have fub := hE2.g.fz k
            have lgb := hE2.g.lt
            have HE3 : Hid (EJ w0 w ((wr.setCell ⟨gj, k, none⟩ (.int .i64 0)).setCell ⟨gb, k, none⟩ (.bool true)) b gr gj gb ob R' (zapJ ((i : Int) + 1) J (k + 1)) B F (fun x => decide ((x : Int) ∈ outs ((i : Int) + 1) B.l 3) || decide (1 ≤ x ∧ x < k + 1 ∧ J[x]? = some ((i : Int) + 1))) ov) := (hE2.gset k).gs (fun x => by
              by_cases e : x = k
              · subst e
                rw [if_pos rfl, decide_eq_true (show 1 ≤ x ∧ x < x + 1 ∧ J[x]? = some ((i : Int) + 1) from ⟨hk1, by omega, hv⟩), Bool.or_true]
              · rw [if_neg e]
                have : (1 ≤ x ∧ x < k + 1 ∧ J[x]? = some ((i : Int) + 1)) ↔ (1 ≤ x ∧ x < k ∧ J[x]? = some ((i : Int) + 1)) := by
                  constructor
                  · rintro ⟨h1, h2, h3⟩; exact ⟨h1, by omega, h3⟩
                  · rintro ⟨h1, h2, h3⟩; exact ⟨h1, by omega, h3⟩
                rw [decide_eq_decide.2 this])
            clear hE2 HK hv hzk
            go_wp2
            go_roundw
            case rel => exact ⟨k + 1, by go_num, by omega, by omega, HE3⟩
            case measure => simp [intOf]; omega
          · have HE3 : Hid (EJ w0 w wr b gr gj gb ob R' (zapJ ((i : Int) + 1) J (k + 1)) B F (fun x => decide ((x : Int) ∈ outs ((i : Int) + 1) B.l 3) || decide (1 ≤ x ∧ x < k + 1 ∧ J[x]? = some ((i : Int) + 1))) ov) := by
              show EJ _ _ _ _ _ _ _ _ _ _ _ _ _ _
              rw [zapJ_skip hv hvt]
              exact HK.out.gs (fun x => by
                have : (1 ≤ x ∧ x < k + 1 ∧ J[x]? = some ((i : Int) + 1)) ↔ (1 ≤ x ∧ x < k ∧ J[x]? = some ((i : Int) + 1)) := by
                  constructor
                  · rintro ⟨h1, h2, h3⟩
                    refine ⟨h1, ?_, h3⟩
                    by_cases e : x = k
                    · subst e
                      rw [hv] at h3
                      exact absurd (Option.some.inj h3) hvt
                    · omega
                  · rintro ⟨h1, h2, h3⟩; exact ⟨h1, by omega, h3⟩
                rw [decide_eq_decide.2 this])
            clear HK hv hzk
            go_wp2
            go_roundw
            case rel => exact ⟨k + 1, by go_num, by omega, by omega, HE3⟩
            case measure => simp [intOf]; omega
        · have k1 : ¬ (k : Int) ≤ 5 := by omega
          have hk : k = 6 := by omega
          subst hk
          obtain ⟨wB, rfl⟩ : ∃ wB, wB = wr := ⟨_, rfl⟩
          generalize hgs : (fun x : Nat => decide ((x : Int) ∈ outs ((i : Int) + 1) B.l 3) || decide (1 ≤ x ∧ x < 6 ∧ J[x]? = some ((i : Int) + 1))) = gs at HK
          have HGS : Hid (∀ x : Nat, gs x = (decide ((x : Int) ∈ outs ((i : Int) + 1) B.l 3) || decide (1 ≤ x ∧ x < 6 ∧ J[x]? = some ((i : Int) + 1)))) := fun x => by rw [← hgs]
          clear hgs
          go_wp2
          go_loopw [16, 17] (fun o q wr => ∃ (k : Nat) (s : Sl), q = .int .i64 ((k : Int) + 1) ∧ o = .slice s.ra (wantN gs k).length s.cap ∧ k ≤ 5 ∧ Hid (EJ w0 w wr b gr gj gb ob R' (zapJ ((i : Int) + 1) J 6) B F gs ov ∧ RI wr s (wantN gs k) ∧ ∀ g, s.blk = some g → w.heap.size ≤ g ∧ ¬ Rf gr R' g ∧ g ≠ gj)) (fun _ q _ => 6 - (intOf q).toNat)
          case atStart => exact ⟨0, ⟨none, 0⟩, rfl, rfl, by omega, HK.out, .inl ⟨rfl, rfl⟩, fun g hg => by cases hg⟩
          case round =>
            obtain ⟨k, s, rfl, rfl, hk5', HW⟩ := hrel
            obtain ⟨ra, ca⟩ := s
            by_cases hk5 : k < 5
            · have k1 : (k : Int) + 1 ≤ 5 := by omega
              have k0 : (0 : Int) ≤ (k : Int) + 1 := by omega
              have k9 : (k : Int) + 1 < 9 := by omega
              obtain ⟨ub, hub, hubv⟩ := HW.out.1.g.cell (j := k + 1) (by omega)
              have lgb := HW.out.1.g.lt
              subst hubv
              have hsc := wantN_succ gs k
              have hln := wantN_len gs k
              cases hgk : gs (k + 1)
              · rw [hgk] at hub hsc
                simp only [Bool.false_eq_true, if_false] at hsc
                have HW2 : Hid (EJ w0 w wr b gr gj gb ob R' (zapJ ((i : Int) + 1) J 6) B F gs ov ∧ RI wr ⟨ra, ca⟩ (wantN gs (k + 1)) ∧ ∀ g, Sl.blk ⟨ra, ca⟩ = some g → w.heap.size ≤ g ∧ ¬ Rf gr R' g ∧ g ≠ gj) := by rw [hsc]; exact HW.out
                have HL : Hid ((wantN gs (k + 1)).length = (wantN gs k).length) := by show _ = _; rw [hsc]
                clear hsc HW hgk
                go_wp2
                go_roundw
                case rel => exact ⟨k + 1, ⟨ra, ca⟩, by go_num, by rw [HL.out], by omega, HW2⟩
                case measure => simp [intOf]; omega
              · rw [hgk] at hub hsc
                simp only [if_true] at hsc
                rw [show ((k + 1 : Nat) : Int) = (k : Int) + 1 by omega] at hsc
                obtain ⟨hE, hRI, hfr⟩ := HW.out
                have hz : (wr.alloc (.cells #[.int .i64 ((k : Int) + 1)] 3)).heap.size = wr.heap.size + 1 := World.size_alloc ..
                have hka : ∀ g, g < wr.heap.size → (wr.alloc (.cells #[.int .i64 ((k : Int) + 1)] 3)).heap[g]? = wr.heap[g]? := fun g hg => Below.heap_alloc _ _ _ hg
                obtain ⟨s3, w3, hap, q1, q2, q3, q4⟩ := (hRI.kept (w' := wr.alloc (.cells #[.int .i64 ((k : Int) + 1)] 3)) (fun g hg => hka g (hRI.lt hg))).snoc (by omega) ((k : Int) + 1) wr.heap.size (heap_alloc_new wr _)
                have hw1 := hE.w0
                have hw2 := hE.jf.bel.size
                have hE3 := hE.grow (w1 := w3) (s := ⟨ra, ca⟩) (fun g hg => ⟨(hfr g hg).1, (hfr g hg).2.1, (hfr g hg).2.2, hRI.bt hg⟩) (fun g hg hne => (q2 g (by omega) hne).trans (hka g hg)) (((Below.refl 0 wr).alloc (Nat.zero_le _) _).trans q3)
                have hgl := hE.g.lt
                have hdg := hE.dg
                have HW2 : Hid (EJ w0 w w3 b gr gj gb ob R' (zapJ ((i : Int) + 1) J 6) B F gs ov ∧ RI w3 s3 (wantN gs (k + 1)) ∧ ∀ g, s3.blk = some g → w.heap.size ≤ g ∧ ¬ Rf gr R' g ∧ g ≠ gj) := ⟨hE3, by rw [hsc]; exact q1, fun g hg => by
                  rcases q4 with e | e
                  · exact hfr g (by rw [← e]; exact hg)
                  · rw [e] at hg
                    have e2 := Option.some.inj hg
                    have e3 := heap_lt hE.jf.jo
                    exact ⟨by omega, fun hf => by have := hE.jf.rz.lt hf; omega, by omega⟩⟩
                have HL : Hid ((wantN gs (k + 1)).length = (wantN gs k).length + 1) := by show _ = _; rw [hsc, List.length_append]; rfl
                obtain ⟨ra3, ca3⟩ := s3
                dsimp only at hap
                clear hsc HW hgk hE hRI hfr hz hka q1 q2 q3 q4 hE3 hw1 hw2 hgl hdg
                go_wp2_with (at_builtin; refine stop_of ?_)
                unfold Hid
                refine wpList_append_known _ rfl _ _ 62 62 rfl _ _ rfl rfl (hap _) ?_
                clear hap
                go_wp2
                go_roundw
                case rel => exact ⟨k + 1, ⟨ra3, ca3⟩, by go_num, by rw [HL.out], by omega, HW2⟩
                case measure => simp [intOf]; omega
            · have k1 : ¬ (k : Int) + 1 ≤ 5 := by omega
              have hk : k = 5 := by omega
              subst hk
              obtain ⟨hE, hRI, hfr⟩ := HW.out
              have hxx := HX.out.1
              have hgg := HX.out.2
              have hiv := HR.out.iv
              have hmem : ∀ z : Int, z ∈ outs ((i : Int) + 1) B.l B.l.length ++ x.row ↔ z ∈ wantN gs 5 := fun z => by
                rw [HR.out.ll, List.mem_append, wantN_mem]
                have hrng : ∀ r ∈ rowsM B, z ∈ r → ∃ m : Nat, m < 5 ∧ z = ((m + 1 : Nat) : Int) := fun r hr hz => by
                  have := (hiv.rg r hr z hz).rng
                  rw [HR.out.tl] at this
                  exact ⟨(z - 1).toNat, by omega, by omega⟩
                constructor
                · rintro (hz | hz)
                  · obtain ⟨j, y, _, hy, _, hhd⟩ := mem_outs.1 hz
                    obtain ⟨m, h1, rfl⟩ := hrng _ (List.mem_of_getElem? (rows_l hy)) (head_mem hhd)
                    exact ⟨m, h1, by rw [HGS.out, decide_eq_true hz, Bool.true_or], rfl⟩
                  · obtain ⟨m, h1, rfl⟩ := hrng _ (List.mem_of_getElem? (rows_t hxx)) hz
                    refine ⟨m, h1, ?_, rfl⟩
                    obtain ⟨v, hv⟩ : ∃ v, J[m + 1]? = some v := ⟨_, List.getElem?_eq_getElem (by rw [HR.out.jl]; omega)⟩
                    have hj := HR.out.jn (m + 1) v (by omega) (by omega) hv
                    have hv2 := (hj.is hiv hxx).2 hz
                    subst hv2
                    rw [HGS.out, decide_eq_true (show 1 ≤ m + 1 ∧ m + 1 < 6 ∧ J[m + 1]? = some ((i : Int) + 1) from ⟨by omega, by omega, hv⟩), Bool.or_true]
                · rintro ⟨m, h1, h2, rfl⟩
                  rw [HGS.out, Bool.or_eq_true, decide_eq_true_iff, decide_eq_true_iff] at h2
                  rcases h2 with h2 | ⟨_, _, h3⟩
                  · exact .inl h2
                  · exact .inr (((HR.out.jn (m + 1) _ (by omega) (by omega) h3).is hiv hxx).1 rfl)
              have hsrt : srt (outs ((i : Int) + 1) B.l B.l.length ++ x.row) = wantN gs 5 := srt_is (goes_nd hiv _ hxx) (wantN_lt gs 5) hmem
              have hend := end_is wd er hgg hxx
              rw [hsrt] at hend
              have HEd : Hid (Calls Tryd.prog 26 #[.pointer (some ⟨b, 0, none⟩), .int .i64 ((i : Int) + 1), .int .u64 wd, .int .i64 er] wr fun e w' => ER b (endM B ((i : Int) + 1) wd er).2 F (wantN gs 5) 0 wr e w') := by
                have := end_any hE.jf.bb hiv.sh ((i : Int) + 1) wd er
                rw [show (endM B ((i : Int) + 1) wd er).1 = (wantN gs 5, 0) by rw [hend]] at this
                exact this
              have hrel' := end_rel HR.out wd er hxx hgg HE.out.1
              have HRel : Hid _ := hrel'
              have HEnd : Hid (endM B ((i : Int) + 1) wd er = ((wantN gs 5, 0), ⟨B.t.set i ⟨[], true, if er = 0 then wd else 0, er⟩, B.l.map (hoL1 ((i : Int) + 1)), B.g⟩)) := hend
              have hwl := wantN_len gs 5
              have oo := hE.o
              rw [HOV.out] at oo
              have o3 : wr.cell? ⟨ob, 3, none⟩ = some (.int .u64 wd) := heap_cell oo rfl
              have o4 : wr.cell? ⟨ob, 4, none⟩ = some (.int .i64 er) := heap_cell oo rfl
              have lob := heap_lt oo
              have HW' : Hid (EJ w0 w wr b gr gj gb ob R' (zapJ ((i : Int) + 1) J 6) B F gs ov ∧ RI wr ⟨ra, ca⟩ (wantN gs 5) ∧ ∀ g, Sl.blk ⟨ra, ca⟩ = some g → w.heap.size ≤ g ∧ ¬ Rf gr R' g ∧ g ≠ gj) := HW.out
              clear hE hRI hfr hxx hgg hiv hmem hsrt hend hrel' oo HW
              go_wp2_with fail
              refine Calls.mono HEd.out ?_
              rintro e w5 ⟨s5, F5, rfl, hr5, hf5, hB5, hC5⟩
              have hJ5 := HW'.out.1.jf.book hB5 hC5
              have HJ5 : Hid (JF w0 w5 b gr gj R' (zapJ ((i : Int) + 1) J 6) (endM B ((i : Int) + 1) wd er).2 F5) := hJ5
              have hRI5 : RI w5 ⟨ra, ca⟩ (wantN gs 5) := HW'.out.2.1.kept (fun g hg => hC5.1 g (HW'.out.2.1.lt hg) (fun hf => by have := HW'.out.1.fl g hf; have := (HW'.out.2.2 g hg).1; omega))
              have hob5 : w5.heap[ob]? = some (.cells #[.int .i64 kd, .int .i64 oT, .int .i64 oN, .int .u64 wd, .int .i64 er] 58 (0, 0)) := by
                rw [hC5.1 ob lob (fun hf => by have := HW'.out.1.fl ob hf; have := HW'.out.1.d2; omega), HW'.out.1.o, HOV.out]
              have HOb5 : Hid _ := hob5
              have HSm : Hid (Calls Tryd.prog 28 #[.slice s5.ra (wantN gs 5).length s5.cap, .slice ra (wantN gs 5).length ca] w5 fun e w' => e = .returned (.bool true) ∧ Below w5.heap.size w5 w') := by
                have := sameI_any (wantN gs 5) (wantN gs 5) s5.ra ra s5.cap ca w5 (by unfold maxLen; omega) (by unfold maxLen; omega) hr5.rx hRI5.rx
                rw [show decide (wantN gs 5 = wantN gs 5) = true from decide_eq_true rfl] at this
                exact this
              obtain ⟨ra5, ca5⟩ := s5
              dsimp only at HSm ⊢
              generalize (wantN gs 5).length = ln5 at HSm ⊢
              clear hJ5 hRI5 hob5 hr5 hf5 hB5 hC5 HEd o3 o4 lob HW' hwl
              go_wp2_with fail
              refine Calls.mono HSm.out ?_
              rintro e w6 ⟨rfl, hb6⟩
              have hJ6 := HJ5.out.below hb6
              have HJ6 : Hid _ := hJ6
              have HOb6 : Hid (w6.heap[ob]? = some (.cells #[.int .i64 kd, .int .i64 oT, .int .i64 oN, .int .u64 wd, .int .i64 er] 58 (0, 0))) := (hb6.block ob (heap_lt HOb5.out)).trans HOb5.out
              have hlt5 : i < B.t.length := (List.getElem?_eq_some_iff.1 HX.out.1).1
              have hen5 : enB (endM B ((i : Int) + 1) wd er).2 ((i : Int) + 1) = ((true, if er = 0 then wd else 0, er), 0) := by
                rw [HEnd.out]
                unfold enB
                dsimp only
                rw [show isB (B.t.set i ⟨[], true, if er = 0 then wd else 0, er⟩).length ((i : Int) + 1) = true by unfold isB; rw [List.length_set]; simp; omega, if_pos rfl, show ((i : Int) + 1 - 1).toNat = i by omega, List.getElem?_set_self hlt5]
              have hEn := ended_B hJ6.bb ((i : Int) + 1)
              rw [hen5] at hEn
              dsimp only at hEn
              have HNo : Hid (∀ j, j < 3 → ∃ y, (endM B ((i : Int) + 1) wd er).2.l[j]? = some y ∧ y.ho ≠ (i : Int) + 1) := fun j hj => by
                obtain ⟨y, hy⟩ : ∃ y, B.l[j]? = some y := ⟨_, List.getElem?_eq_getElem (by rw [HR.out.ll]; exact hj)⟩
                refine ⟨hoL1 ((i : Int) + 1) y, ?_, ?_⟩
                · rw [HEnd.out]
                  show (B.l.map (hoL1 ((i : Int) + 1)))[j]? = _
                  rw [List.getElem?_map, hy]
                  rfl
                · unfold hoL1
                  split
                  · intro e
                    have h0 : (hnd y).ho ≠ 0 := by rw [e]; omega
                    have hm := (hnd_ho HR.out.iv (List.mem_of_getElem? hy)).2 h0
                    rw [e] at hm
                    exact (HR.out.iv.goes HX.out.2).2 _ (List.mem_of_getElem? (rows_l hy)) hm
                  · rename_i hne
                    exact hne
              clear hJ6 hb6 HJ5 HOb5 HSm hen5
              by_cases her : er = 0
              · subst her
                rw [if_pos rfl] at hEn
                have HEn : Hid _ := hEn
                clear hEn
                go_wp2_with fail
                refine Calls.mono HEn.out ?_
                rintro e w7 ⟨rfl, hb7⟩
                have hJ7 := HJ6.out.below hb7
                have hb8 : Below w7.heap.size w7 (w7.alloc (.cells #[.bool true, .int .u64 wd, .int .i64 0] 67)) := (Below.refl _ _).alloc (Nat.le_refl _) _
                have hJ8 := hJ7.below hb8
                have HJ8 : Hid _ := hJ8
                have hxb : (w7.alloc (.cells #[.bool true, .int .u64 wd, .int .i64 0] 67)).heap[w7.heap.size]? = some (.cells #[.bool true, .int .u64 wd, .int .i64 0] 67 (0, 0)) := heap_alloc_new w7 _
                have hob8 : (w7.alloc (.cells #[.bool true, .int .u64 wd, .int .i64 0] 67)).heap[ob]? = some (.cells #[.int .i64 kd, .int .i64 oT, .int .i64 oN, .int .u64 wd, .int .i64 0] 58 (0, 0)) := (hb8.block ob (by have := heap_lt HOb6.out; have := hb7.size; omega)).trans ((hb7.block ob (heap_lt HOb6.out)).trans HOb6.out)
                have x0 : (w7.alloc (.cells #[.bool true, .int .u64 wd, .int .i64 0] 67)).cell? ⟨w7.heap.size, 0, none⟩ = some (.bool true) := heap_cell hxb rfl
                have x1 : (w7.alloc (.cells #[.bool true, .int .u64 wd, .int .i64 0] 67)).cell? ⟨w7.heap.size, 1, none⟩ = some (.int .u64 wd) := heap_cell hxb rfl
                have x2 : (w7.alloc (.cells #[.bool true, .int .u64 wd, .int .i64 0] 67)).cell? ⟨w7.heap.size, 2, none⟩ = some (.int .i64 0) := heap_cell hxb rfl
                have o3 : (w7.alloc (.cells #[.bool true, .int .u64 wd, .int .i64 0] 67)).cell? ⟨ob, 3, none⟩ = some (.int .u64 wd) := heap_cell hob8 rfl
                have o4 : (w7.alloc (.cells #[.bool true, .int .u64 wd, .int .i64 0] 67)).cell? ⟨ob, 4, none⟩ = some (.int .i64 0) := heap_cell hob8 rfl
                have lob8 := heap_lt hob8
                have lx8 := heap_lt hxb
                clear hJ7 hJ8 hb7 hb8 hxb hob8 HEn HJ6 HOb6
                go_wp2
                generalize w7.alloc (.cells #[.bool true, .int .u64 wd, .int .i64 0] 67) = W8 at HJ8 x0 x1 x2 o3 o4 lob8 lx8 ⊢
                generalize w7.heap.size = xb at x0 x1 x2 lx8 ⊢
                go_loopw [24] (fun q wr => ∃ (j : Nat), q = .int .i64 j ∧ j ≤ 3 ∧ wr = W8) (fun q _ => 3 - (intOf q).toNat)
                case atStart => exact ⟨0, rfl, by omega, rfl⟩
                case round =>
                  obtain ⟨j, rfl, hj, rfl⟩ := hrel
                  by_cases hj3 : j < 3
                  · have k1 : (j : Int) < 3 := by omega
                    obtain ⟨y, hy, hyt⟩ := HNo.out j hj3
                    have HH : Hid _ := holder_n HJ8.out.bb hy
                    generalize y.ho = ho at HH hyt
                    clear hy
                    go_wp2_with fail
                    refine Calls.mono HH.out ?_
                    rintro e w2 ⟨rfl, hw2⟩
                    rw [hw2]
                    clear hw2
                    go_wp2
                    go_roundw
                    case rel => exact ⟨j + 1, by go_num, by omega, trivial⟩
                    case measure => simp [intOf]; omega
                  · have k1 : ¬ (j : Int) < 3 := by omega
                    have heq := fun W => eqE_same true wd 0 W
                    go_wp2_with fail
                    go_quiet (fail)
                    go_wp2
                    refine bodyPost_ret (results_tmp2 rfl _ _ _) rfl ?_
                    exact ⟨rfl, R', _, _, F5, HJ8.out.below (below_drewM (Below.refl _ _) _), HRel.out⟩
              · rw [if_neg her] at hEn
                have HEn : Hid _ := hEn
                clear hEn
                go_wp2_with fail
                refine Calls.mono HEn.out ?_
                rintro e w7 ⟨rfl, hb7⟩
                have hJ7 := HJ6.out.below hb7
                have hb8 : Below w7.heap.size w7 (w7.alloc (.cells #[.bool true, .int .u64 0, .int .i64 er] 67)) := (Below.refl _ _).alloc (Nat.le_refl _) _
                have hJ8 := hJ7.below hb8
                have HJ8 : Hid _ := hJ8
                have hxb : (w7.alloc (.cells #[.bool true, .int .u64 0, .int .i64 er] 67)).heap[w7.heap.size]? = some (.cells #[.bool true, .int .u64 0, .int .i64 er] 67 (0, 0)) := heap_alloc_new w7 _
                have hob8 : (w7.alloc (.cells #[.bool true, .int .u64 0, .int .i64 er] 67)).heap[ob]? = some (.cells #[.int .i64 kd, .int .i64 oT, .int .i64 oN, .int .u64 wd, .int .i64 er] 58 (0, 0)) := (hb8.block ob (by have := heap_lt HOb6.out; have := hb7.size; omega)).trans ((hb7.block ob (heap_lt HOb6.out)).trans HOb6.out)
                have x0 : (w7.alloc (.cells #[.bool true, .int .u64 0, .int .i64 er] 67)).cell? ⟨w7.heap.size, 0, none⟩ = some (.bool true) := heap_cell hxb rfl
                have x1 : (w7.alloc (.cells #[.bool true, .int .u64 0, .int .i64 er] 67)).cell? ⟨w7.heap.size, 1, none⟩ = some (.int .u64 0) := heap_cell hxb rfl
                have x2 : (w7.alloc (.cells #[.bool true, .int .u64 0, .int .i64 er] 67)).cell? ⟨w7.heap.size, 2, none⟩ = some (.int .i64 er) := heap_cell hxb rfl
                have o3 : (w7.alloc (.cells #[.bool true, .int .u64 0, .int .i64 er] 67)).cell? ⟨ob, 3, none⟩ = some (.int .u64 wd) := heap_cell hob8 rfl
                have o4 : (w7.alloc (.cells #[.bool true, .int .u64 0, .int .i64 er] 67)).cell? ⟨ob, 4, none⟩ = some (.int .i64 er) := heap_cell hob8 rfl
                have lob8 := heap_lt hob8
                have lx8 := heap_lt hxb
                clear hJ7 hJ8 hb7 hb8 hxb hob8 HEn HJ6 HOb6
                go_wp2
                generalize w7.alloc (.cells #[.bool true, .int .u64 0, .int .i64 er] 67) = W8 at HJ8 x0 x1 x2 o3 o4 lob8 lx8 ⊢
                generalize w7.heap.size = xb at x0 x1 x2 lx8 ⊢
                try rw [show (er != 0) = true by simpa using her]
                clear her
                go_loopw [24] (fun q wr => ∃ (j : Nat), q = .int .i64 j ∧ j ≤ 3 ∧ wr = W8) (fun q _ => 3 - (intOf q).toNat)
                case atStart => exact ⟨0, rfl, by omega, rfl⟩
                case round =>
                  obtain ⟨j, rfl, hj, rfl⟩ := hrel
                  by_cases hj3 : j < 3
                  · have k1 : (j : Int) < 3 := by omega
                    obtain ⟨y, hy, hyt⟩ := HNo.out j hj3
                    have HH : Hid _ := holder_n HJ8.out.bb hy
                    generalize y.ho = ho at HH hyt
                    clear hy
                    go_wp2_with fail
                    refine Calls.mono HH.out ?_
                    rintro e w2 ⟨rfl, hw2⟩
                    rw [hw2]
                    clear hw2
                    go_wp2
                    go_roundw
                    case rel => exact ⟨j + 1, by go_num, by omega, trivial⟩
                    case measure => simp [intOf]; omega
                  · have k1 : ¬ (j : Int) < 3 := by omega
                    have heq := fun W => eqE_same true 0 er W
                    go_wp2_with fail
                    go_quiet (fail)
                    go_wp2
                    refine bodyPost_ret (results_tmp2 rfl _ _ _) rfl ?_
                    exact ⟨rfl, R', _, _, F5, HJ8.out.below (below_drewM (Below.refl _ _) _), HRel.out⟩
end
end Go.Proofs.YtdlnkdcgipaoeaaDoor
