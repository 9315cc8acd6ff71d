/- A thread ends: its locks are handed on. -/
import Derived.Test.YtdlnkdcgipaoeaaDoorHLDo2
namespace Go.Proofs.YtdlnkdcgipaoeaaDoor
open Go.RowKit

def hoL1 (t : Int) (x : Lk) : Lk := if x.ho = t then hnd x else x
def hoO1 (t : Int) (x : Lk) : List Int := if x.ho = t then x.row.take 1 else []
def outs (t : Int) (l : List Lk) (j : Nat) : List Int := (l.take j).flatMap (hoO1 t)
def hoLs (t : Int) (l : List Lk) (j : Nat) : List Lk := (l.take j).map (hoL1 t) ++ l.drop j
theorem outs_succ {t : Int} {l : List Lk} {j : Nat} {x : Lk} (h : l[j]? = some x) : outs t l (j + 1) = outs t l j ++ hoO1 t x := by
  simp [outs, List.take_add_one, h]
theorem outs_len (t : Int) (l : List Lk) (j : Nat) : (outs t l j).length ≤ j := by
  induction j with
  | zero => simp [outs]
  | succ j ih =>
    cases h : l[j]? with
    | none =>
      have := List.getElem?_eq_none_iff.1 h
      rw [outs, List.take_of_length_le (by omega)]
      rw [outs, List.take_of_length_le (by omega)] at ih
      omega
    | some x =>
      rw [outs_succ h, List.length_append]
      have : (hoO1 t x).length ≤ 1 := by
        unfold hoO1
        split
        · rw [List.length_take]; omega
        · simp
      omega
theorem hoLs_at {t : Int} {l : List Lk} {j : Nat} : (hoLs t l j)[j]? = l[j]? := by
  unfold hoLs
  by_cases h : j ≤ l.length
  · rw [List.getElem?_append_right (by simp; omega)]
    simp [Nat.min_eq_left h]
  · rw [List.getElem?_eq_none (by simp; omega), List.getElem?_eq_none (by omega)]
theorem hoLs_succ {t : Int} {l : List Lk} {j : Nat} {x : Lk} (h : l[j]? = some x) : hoLs t l (j + 1) = (hoLs t l j).set j (hoL1 t x) := by
  have hlt := (List.getElem?_eq_some_iff.1 h).1
  unfold hoLs
  rw [List.set_append_right _ _ (by simp [Nat.min_eq_left (Nat.le_of_lt hlt)])]
  have e : j - ((l.take j).map (hoL1 t)).length = 0 := by simp; omega
  rw [e, List.drop_eq_getElem_cons hlt, List.set_cons_zero, List.take_add_one, h]
  have hx : l[j] = x := (List.getElem?_eq_some_iff.1 h).2
  simp
theorem hoLs_len (t : Int) (l : List Lk) (j : Nat) : (hoLs t l j).length = l.length := by
  simp [hoLs]; omega
section
variable {w wr : World} {b : Nat} {pt pl pg : Sl} {T : List (Sl × Th)} {L L' : List (Sl × Lk)} {G : List Int}
structure HV (w wr : World) (b : Nat) (pt pl pg : Sl) (T : List (Sl × Th)) (L L' : List (Sl × Lk)) (G : List Int) (s : Sl) (o : List Int) : Prop where
  x : BX wr b pt pl pg T L' G
  c : Chg (Ft b pt pl pg T L) (Ft b pt pl pg T L') w wr
  r : RI wr s o
  f : ∀ g, s.blk = some g → w.heap.size ≤ g ∧ ¬ Ft b pt pl pg T L' g
  sh : ShT T L'
theorem shT_hnd {j : Nat} {y : Sl × Lk} (h : ShT T L) (hj : L[j]? = some y) (s' : Sl) : ShT T (L.set j (s', hnd y.2)) := fun p hp => by
  rw [rws_setL] at hp
  rcases List.mem_or_eq_of_mem_set hp with hp | rfl
  · exact h p hp
  · have := h _ (List.mem_of_getElem? (rws_l T hj))
    show (y.2.row.tail).length ≤ 1000
    rw [List.length_tail]
    dsimp only at this
    omega
theorem HV.hand {s : Sl} {o : List Int} (h : HV w wr b pt pl pg T L L' G s o) {j : Nat} {y : Sl × Lk} {s' : Sl} {w2 : World} (hj : L'[j]? = some y) (hX : BX w2 b pt pl pg T (L'.set j (s', hnd y.2)) G) (hC : Chg (Ft b pt pl pg T L') (Ft b pt pl pg T (L'.set j (s', hnd y.2))) wr w2) : HV w w2 b pt pl pg T L (L'.set j (s', hnd y.2)) G s o :=
  ⟨hX, h.c.trans hC, h.r.kept (fun g hg => hC.1 g (h.r.lt hg) (h.f g hg).2), fun g hg => ⟨(h.f g hg).1, fun hf => by
    rcases hC.2.2 g hf with h' | h'
    · exact (h.f g hg).2 h'
    · have := h.r.lt hg
      omega⟩, shT_hnd h.sh hj s'⟩
theorem HV.app {s s' : Sl} {o o' : List Int} (h : HV w wr b pt pl pg T L L' G s o) {ob : Obj} {w1 : World} (hR : RI w1 s' o') (hk : ∀ g, g < (wr.alloc ob).heap.size → s.blk ≠ some g → w1.heap[g]? = (wr.alloc ob).heap[g]?) (hb : Below 0 (wr.alloc ob) w1) (hq : s'.blk = s.blk ∨ s'.blk = some (wr.alloc ob).heap.size) : HV w w1 b pt pl pg T L L' G s' o' := by
  have hz : (wr.alloc ob).heap.size = wr.heap.size + 1 := World.size_alloc ..
  have hk2 : ∀ g, g < wr.heap.size → s.blk ≠ some g → w1.heap[g]? = wr.heap[g]? := fun g hg hn => (hk g (by omega) hn).trans (Below.heap_alloc _ _ _ hg)
  have hks : ∀ g, Ft b pt pl pg T L' g → w1.heap[g]? = wr.heap[g]? := fun g hg => hk2 g (h.x.lt hg) (fun e => (h.f g e).2 hg)
  refine ⟨h.x.kept hks, ⟨fun g hg hn => ?_, h.c.2.1.trans (((Below.refl 0 wr).alloc (Nat.zero_le _) _).trans hb), h.c.2.2⟩, hR, fun g hg => ?_, h.sh⟩
  · have hs := h.c.2.1.size
    rw [hk2 g (by omega) (fun e => by have := (h.f g e).1; omega)]
    exact h.c.1 g hg hn
  · rcases hq with hq | hq
    · exact h.f g (by rw [← hq]; exact hg)
    · rw [hq] at hg
      have e := Option.some.inj hg
      have hs := h.c.2.1.size
      exact ⟨by omega, fun hf => by have := h.x.lt hf; omega⟩
def HAR (w : World) (b : Nat) (pt pl pg : Sl) (T : List (Sl × Th)) (L : List (Sl × Lk)) (G : List Int) (t : Int) (e : Ending) (w' : World) : Prop := ∃ s L', e = .returned (.slice s.ra (outs t (L.map (·.2)) L.length).length s.cap) ∧ L'.map (·.2) = hoLs t (L.map (·.2)) L.length ∧ HV w w' b pt pl pg T L L' G s (outs t (L.map (·.2)) L.length)
set_option maxRecDepth 100000 in
set_option maxHeartbeats 4000000 in
theorem handOnAll_any (h : BX w b pt pl pg T L G) (hS : ShT T L) (hN : ∀ x ∈ L, ∀ y ∈ x.2.row, y ≠ 0) (t : Int) :
    Calls Tryd.prog 71 #[.pointer (some ⟨b, 0, none⟩), .int .i64 t] w fun e w' => HAR w b pt pl pg T L G t e w' := by
  have c1 := h.c1
  have lb := heap_lt h.obj
  have ln := h.ln
  have HX : Hid (BX w b pt pl pg T L G) := h
  have HS : Hid (ShT T L) := hS
  have HN : Hid (∀ x ∈ L, ∀ y ∈ x.2.row, y ≠ 0) := hN
  clear h hS hN
  obtain ⟨lra, lca⟩ := pl
  go_enter Tryd.func71, Tryd.ntmps71
  go_wp2
  go_loopw [5, 13] (fun o i wr => ∃ (j : Nat) (s : Sl) (L' : List (Sl × Lk)), i = .int .i64 j ∧ o = .slice s.ra (outs t (L.map (·.2)) j).length s.cap ∧ j ≤ L.length ∧ Hid (L'.map (·.2) = hoLs t (L.map (·.2)) j ∧ HV w wr b pt ⟨lra, lca⟩ pg T L L' G s (outs t (L.map (·.2)) j))) (fun _ i _ => L.length - (intOf i).toNat)
  case atStart => exact ⟨0, ⟨none, 0⟩, L, rfl, rfl, Nat.zero_le _, by simp [hoLs], HX.out, Chg.quiet _ (Below.refl _ _), .inl ⟨rfl, rfl⟩, (fun g hg => by cases hg), HS.out⟩
  case round =>
    obtain ⟨j, s, L', rfl, rfl, hj, HV0⟩ := hrel
    have hlen : L'.length = L.length := by
      have := congrArg List.length HV0.out.1
      rw [hoLs_len] at this
      simpa using this
    obtain ⟨ra, ca⟩ := s
    by_cases hlt : j < L.length
    · have k1 : (j : Int) < (L.length : Int) := by omega
      have k0 : (0 : Int) ≤ (j : Int) := by omega
      obtain ⟨y, hy⟩ : ∃ y, L'[j]? = some y := ⟨_, List.getElem?_eq_getElem (by omega)⟩
      have hy2 : (L.map (·.2))[j]? = some y.2 := by
        rw [← hoLs_at (t := t), ← HV0.out.1, List.getElem?_map, hy]
        rfl
      have c1' := HV0.out.2.x.c1
      have lb' := heap_lt HV0.out.2.x.obj
      rw [hlen] at c1'
      obtain ⟨gl, hp, -, lg, cs, hcs, hc0, hc1⟩ := HV0.out.2.x.lf hy
      have d1 := heap_cell hcs hc1
      dsimp only at hp
      subst hp
      by_cases hh : y.2.ho = t
      · rw [hh] at d1
        have HH : Hid _ := handOn_bx HV0.out.2.x HV0.out.2.sh hy rfl
        have HM : Hid (∀ s' : Sl, (L'.set j (s', hnd y.2)).map (·.2) = hoLs t (L.map (·.2)) (j + 1)) := fun s' => by
          rw [hoLs_succ hy2, List.map_set, HV0.out.1]
          unfold hoL1
          rw [if_pos hh]
        have HO : outs t (L.map (·.2)) (j + 1) = outs t (L.map (·.2)) j ++ y.2.row.take 1 := by
          rw [outs_succ hy2]
          unfold hoO1
          rw [if_pos hh]
        have HY : Hid (L'[j]? = some y) := hy
        have hol := outs_len t (L.map (·.2)) j
        cases hrow : y.2.row with
        | nil =>
          rw [hrow] at HO HH
          have HO2 : Hid (outs t (L.map (·.2)) (j + 1) = outs t (L.map (·.2)) j) := by show _ = _; rw [HO]; simp
          dsimp only [List.headD_nil] at HH
          clear hcs hc0 hc1 hy hh hy2 HO hrow
          go_wp2_with fail
          refine Calls.mono HH.out ?_
          rintro e w2 ⟨rfl, s', hX2⟩
          have HV2 : Hid ((L'.set j (s', hnd y.2)).map (·.2) = hoLs t (L.map (·.2)) (j + 1) ∧ HV w w2 b pt ⟨some ⟨gl, 0, none⟩, lca⟩ pg T L (L'.set j (s', hnd y.2)) G ⟨ra, ca⟩ (outs t (L.map (·.2)) (j + 1))) := ⟨HM.out s', by rw [HO2.out]; exact HV0.out.2.hand HY.out hX2.1 hX2.2⟩
          clear HV0 hX2 c1' d1 lb' lg HH HM
          go_wp2
          go_roundw
          case rel => exact ⟨j + 1, ⟨ra, ca⟩, L'.set j (s', hnd y.2), by go_num, by rw [HO2.out], by omega, HV2⟩
          case measure => simp [intOf]; omega
        | cons z r =>
          have hz0 : z ≠ 0 := by
            obtain ⟨xx, hxx, hxe⟩ := List.mem_map.1 (List.mem_of_getElem? hy2)
            exact HN.out xx hxx z (by rw [hxe, hrow]; exact List.mem_cons_self)
          rw [hrow] at HO HH
          have HO2 : Hid (outs t (L.map (·.2)) (j + 1) = outs t (L.map (·.2)) j ++ [z]) := by show _ = _; rw [HO]; simp
          dsimp only [List.headD_cons] at HH
          clear hcs hc0 hc1 hy hh hy2 HO hrow
          go_wp2_with fail
          refine Calls.mono HH.out ?_
          rintro e w2 ⟨rfl, s', hX2⟩
          have hV1 := HV0.out.2.hand HY.out hX2.1 hX2.2
          obtain ⟨s3, w3, hap, h1, h2, h3, h4⟩ := (hV1.r.kept (w' := w2.alloc (.cells #[.int .i64 z] 3)) (fun g hg => Below.heap_alloc _ _ _ (hV1.r.lt hg))).snoc (by omega) z w2.heap.size (heap_alloc_new w2 _)
          have HV2 : Hid ((L'.set j (s', hnd y.2)).map (·.2) = hoLs t (L.map (·.2)) (j + 1) ∧ HV w w3 b pt ⟨some ⟨gl, 0, none⟩, lca⟩ pg T L (L'.set j (s', hnd y.2)) G s3 (outs t (L.map (·.2)) (j + 1))) := ⟨HM.out s', by rw [HO2.out]; exact hV1.app h1 h2 h3 h4⟩
          obtain ⟨ra3, ca3⟩ := s3
          dsimp only at hap
          clear HV0 hX2 c1' d1 lb' lg HH HM hV1 h1 h2 h3 h4
          go_wp2_with (at_builtin; refine stop_of ?_)
          unfold Hid
          refine wpList_append_known _ rfl _ _ 62 62 rfl _ _ rfl rfl (hap _) ?_
          clear hap
          go_wp2
          go_roundw
          case rel => exact ⟨j + 1, ⟨ra3, ca3⟩, L'.set j (s', hnd y.2), by go_num, by rw [HO2.out]; simp, by omega, HV2⟩
          case measure => simp [intOf]; omega
      · have HO2 : Hid (outs t (L.map (·.2)) (j + 1) = outs t (L.map (·.2)) j) := by
          show _ = _
          rw [outs_succ hy2]
          unfold hoO1
          rw [if_neg hh]
          simp
        have HV2 : Hid (L'.map (·.2) = hoLs t (L.map (·.2)) (j + 1) ∧ HV w wr b pt ⟨some ⟨gl, 0, none⟩, lca⟩ pg T L L' G ⟨ra, ca⟩ (outs t (L.map (·.2)) (j + 1))) := ⟨by
          rw [hoLs_succ hy2]
          unfold hoL1
          rw [if_neg hh, ← HV0.out.1]
          have e : (L'.map (·.2))[j]? = some y.2 := by rw [List.getElem?_map, hy]; rfl
          have hl2 := (List.getElem?_eq_some_iff.1 e).1
          have hx2 := (List.getElem?_eq_some_iff.1 e).2
          rw [← hx2]
          exact (List.set_getElem_self hl2).symm, by rw [HO2.out]; exact HV0.out.2⟩
        clear hcs hc0 hc1 hy hy2 HV0
        go_wp2
        go_roundw
        case rel => exact ⟨j + 1, ⟨ra, ca⟩, L', by go_num, by rw [HO2.out], by omega, HV2⟩
        case measure => simp [intOf]; omega
    · have k1 : ¬ (j : Int) < (L.length : Int) := by omega
      have hjl : j = L.length := by omega
      subst hjl
      go_wp2
      go_ret
      exact ⟨⟨ra, ca⟩, L', rfl, HV0.out⟩
end
end Go.Proofs.YtdlnkdcgipaoeaaDoor
