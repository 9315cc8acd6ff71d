/- A thread ends. -/
import Derived.Test.YtdlnkdcgipaoeaaDoorGB
namespace Go.Proofs.YtdlnkdcgipaoeaaDoor
open Go.RowKit

def lenV : Value → Nat
  | .slice _ n _ => n
  | _ => 0
structure EV (w wr : World) (b : Nat) (pt pl pg : Sl) (T : List (Sl × Th)) (L : List (Sl × Lk)) (T' : List (Sl × Th)) (L' : List (Sl × Lk)) (G : List Int) (s : Sl) (o : List Int) : Prop where
  x : BX wr b pt pl pg T' L' G
  c : Chg (Ft b pt pl pg T L) (Ft b pt pl pg T' L') w wr
  r : RO wr s o
  f : ∀ g, s.blk = some g → w.heap.size ≤ g ∧ ¬ Ft b pt pl pg T' L' g
  sh : ShT T' L'
section
variable {w wr : World} {b : Nat} {pt pl pg : Sl} {T T' : List (Sl × Th)} {L L' : List (Sl × Lk)} {G : List Int}
theorem EV.take {s : Sl} {o : List Int} (h : EV w wr b pt pl pg T L T' L' G s o) {j : Nat} {y : Sl × Th} {s' : Sl} {w2 : World} (hj : T'[j]? = some y) (hX : BX w2 b pt pl pg (T'.set j (s', { y.2 with row := y.2.row.tail })) L' G ∧ Chg (Ft b pt pl pg T' L') (Ft b pt pl pg (T'.set j (s', { y.2 with row := y.2.row.tail })) L') wr w2) : EV w w2 b pt pl pg T L (T'.set j (s', { y.2 with row := y.2.row.tail })) L' G s o :=
  ⟨hX.1, h.c.trans hX.2, h.r.kept (fun g hg => hX.2.1 g (h.r.lt hg) (h.f g hg).2), fun g hg => ⟨(h.f g hg).1, fun hf => by
    rcases hX.2.2.2 g hf with h' | h'
    · exact (h.f g hg).2 h'
    · have := h.r.lt hg
      omega⟩, fun p hp => by
    rw [rws_setT _ (List.getElem?_eq_some_iff.1 hj).1] at hp
    rcases List.mem_or_eq_of_mem_set hp with hp | rfl
    · exact h.sh p hp
    · have := h.sh _ (List.mem_of_getElem? (rws_t L' hj))
      show (y.2.row.tail).length ≤ 1000
      rw [List.length_tail]
      dsimp only at this
      omega⟩
theorem EV.app {s s' : Sl} {o o' : List Int} (h : EV w wr b pt pl pg T L T' L' G s o) {ob : Obj} {w1 : World} (hR : RO w1 s' o') (hk : ∀ g, g < (wr.alloc ob).heap.size → s.blk ≠ some g → w1.heap[g]? = (wr.alloc ob).heap[g]?) (hb : Below 0 (wr.alloc ob) w1) (hq : s'.blk = s.blk ∨ s'.blk = some (wr.alloc ob).heap.size) : EV w w1 b pt pl pg T L T' L' G s' o' := by
  have hz : (wr.alloc ob).heap.size = wr.heap.size + 1 := World.size_alloc ..
  have hk2 : ∀ g, g < wr.heap.size → s.blk ≠ some g → w1.heap[g]? = wr.heap[g]? := fun g hg hn => (hk g (by omega) hn).trans (Below.heap_alloc _ _ _ hg)
  have hks : ∀ g, Ft b pt pl pg T' L' g → w1.heap[g]? = wr.heap[g]? := fun g hg => hk2 g (h.x.lt hg) (fun e => (h.f g e).2 hg)
  refine ⟨h.x.kept hks, ⟨fun g hg hn => ?_, h.c.2.1.trans (((Below.refl 0 wr).alloc (Nat.zero_le _) _).trans hb), h.c.2.2⟩, hR, fun g hg => ?_, h.sh⟩
  · have hs := h.c.2.1.size
    rw [hk2 g (by omega) (fun e => by have := (h.f g e).1; omega)]
    exact h.c.1 g hg hn
  · rcases hq with hq | hq
    · exact h.f g (by rw [← hq]; exact hg)
    · rw [hq] at hg
      have e := Option.some.inj hg
      have hs := h.c.2.1.size
      exact ⟨by omega, fun hf => by have := h.x.lt hf; omega⟩
theorem EV.srt {s : Sl} {o o' : List Int} (h : EV w wr b pt pl pg T L T' L' G s o) {w1 : World} (hR : RO w1 s o') (hk : ∀ g, g < wr.heap.size → s.blk ≠ some g → w1.heap[g]? = wr.heap[g]?) (hb : Below 0 wr w1) : EV w w1 b pt pl pg T L T' L' G s o' := by
  refine ⟨h.x.kept (fun g hg => hk g (h.x.lt hg) (fun e => (h.f g e).2 hg)), ⟨fun g hg hn => ?_, h.c.2.1.trans hb, h.c.2.2⟩, hR, h.f, h.sh⟩
  have hs := h.c.2.1.size
  rw [hk g (by omega) (fun e => by have := (h.f g e).1; omega)]
  exact h.c.1 g hg hn
end
/-- What End leaves. -/
def ER (b : Nat) (B' : Bk) (F : Nat → Prop) (l : List Int) (er : Int) (w : World) (e : Ending) (w' : World) : Prop := ∃ s F', e = .returned (.tuple #[.slice s.ra l.length s.cap, .int .i64 er]) ∧ RO w' s l ∧ (∀ g, s.blk = some g → w.heap.size ≤ g ∧ ¬ F' g) ∧ BB w' b B' F' ∧ Chg F F' w w'
def endT (T : List Th) (i : Nat) (wd er : Int) : List Th := T.set i ⟨[], true, wd, er⟩
set_option maxRecDepth 100000 in
set_option maxHeartbeats 4000000 in
theorem end_ok {w : World} {b : Nat} {pt pl pg : Sl} {T : List (Sl × Th)} {L : List (Sl × Lk)} {G : List Int} (hX : BX w b pt pl pg T L G) (hS : ShT T L) (hN : ∀ x ∈ L, ∀ y ∈ x.2.row, y ≠ 0) {i : Nat} {x : Sl × Th} (hi : T[i]? = some x) (hN2 : ∀ y ∈ x.2.row, y ≠ 0) (hl : x.2.row.length ≤ 100) (wd : Int) (hg : goX T L ((i : Int) + 1) = 0) :
    Calls Tryd.prog 26 #[.pointer (some ⟨b, 0, none⟩), .int .i64 ((i : Int) + 1), .int .u64 wd, .int .i64 0] w fun e w' => ER b ⟨endT (T.map (·.2)) i wd 0, hoLs ((i : Int) + 1) (L.map (·.2)) L.length, G⟩ (Ft b pt pl pg T L) (srt (outs ((i : Int) + 1) (L.map (·.2)) L.length ++ x.2.row)) 0 w e w' := by
  have HG : Hid _ := going_any hX hS ((i : Int) + 1)
  rw [hg] at HG
  have hlt := (List.getElem?_eq_some_iff.1 hi).1
  obtain ⟨gt, hp, -, lg, cs, hcs, hc0, hc1, hc2, hc3⟩ := hX.tf hi
  have HT : Hid _ := thread_any hX hlt hp lg
  have d1 := heap_cell hcs hc1
  have d2 := heap_cell hcs hc2
  have d3 := heap_cell hcs hc3
  have f1 : ∀ k, w.frozen? ⟨gt, k, none⟩ = false := fun k => by simp [World.frozen?, hcs]
  have hE := hX.enT wd 0 hi hp
  have hS2 : ShT (T.set i (x.1, ⟨x.2.row, true, wd, 0⟩)) L := fun p hp' => by
    rw [rws_setT _ hlt] at hp'
    rcases List.mem_or_eq_of_mem_set hp' with hp' | rfl
    · exact hS p hp'
    · have := hS _ (List.mem_of_getElem? (rws_t L hi))
      exact this
  have HA : Hid (Calls Tryd.prog 71 #[.pointer (some ⟨b, 0, none⟩), .int .i64 ((i : Int) + 1)] ((((w).setCell ⟨gt, i * 4 + 1, none⟩ (.bool true)).setCell ⟨gt, i * 4 + 2, none⟩ (.int .u64 wd)).setCell ⟨gt, i * 4 + 3, none⟩ (.int .i64 0)) fun e w' => HAR ((((w).setCell ⟨gt, i * 4 + 1, none⟩ (.bool true)).setCell ⟨gt, i * 4 + 2, none⟩ (.int .u64 wd)).setCell ⟨gt, i * 4 + 3, none⟩ (.int .i64 0)) b pt pl pg (T.set i (x.1, ⟨x.2.row, true, wd, 0⟩)) L G ((i : Int) + 1) e w') := handOnAll_any hE.1 hS2 hN ((i : Int) + 1)
  have HE : Hid (BX ((((w).setCell ⟨gt, i * 4 + 1, none⟩ (.bool true)).setCell ⟨gt, i * 4 + 2, none⟩ (.int .u64 wd)).setCell ⟨gt, i * 4 + 3, none⟩ (.int .i64 0)) b pt pl pg (T.set i (x.1, ⟨x.2.row, true, wd, 0⟩)) L G ∧ Chg (Ft b pt pl pg T L) (Ft b pt pl pg (T.set i (x.1, ⟨x.2.row, true, wd, 0⟩)) L) w ((((w).setCell ⟨gt, i * 4 + 1, none⟩ (.bool true)).setCell ⟨gt, i * 4 + 2, none⟩ (.int .u64 wd)).setCell ⟨gt, i * 4 + 3, none⟩ (.int .i64 0))) := hE
  have HP : Hid (pt.ra = some ⟨gt, 0, none⟩ ∧ T[i]? = some x ∧ (∀ y ∈ x.2.row, y ≠ 0) ∧ (T.set i (x.1, (⟨x.2.row, true, wd, 0⟩ : Th)))[i]? = some (x.1, ⟨x.2.row, true, wd, 0⟩)) := ⟨hp, hi, hN2, List.getElem?_set_self hlt⟩
  have hol := outs_len ((i : Int) + 1) (L.map (·.2)) L.length
  have hln := hX.ln
  clear hcs hc0 hc1 hc2 hc3 hX hS hp hE hS2 hN hN2
  go_enter Tryd.func26, Tryd.ntmps26
  go_wp2_with fail
  refine Calls.mono HG.out ?_
  rintro e w2 ⟨rfl, hw2⟩
  rw [hw2]
  clear hw2
  go_wp2_with fail
  refine Calls.mono HT.out ?_
  rintro e w2 ⟨rfl, hw2⟩
  rw [hw2]
  clear hw2
  go_wp2_with fail
  refine Calls.mono HA.out ?_
  rintro e w3 ⟨s, L', rfl, hL', hV⟩
  have hV0 : EV w w3 b pt pl pg T L (T.set i (x.1, ⟨x.2.row, true, wd, 0⟩)) L' G s (outs ((i : Int) + 1) (L.map (·.2)) L.length) := ⟨hV.x, HE.out.2.trans hV.c, hV.r, fun g hg => ⟨Nat.le_trans HE.out.2.2.1.size (hV.f g hg).1, (hV.f g hg).2⟩, hV.sh⟩
  have HV0 : Hid _ := hV0
  have HL' : Hid (L'.map (·.2) = hoLs ((i : Int) + 1) (L.map (·.2)) L.length) := hL'
  have HH : Hid _ := takeFirst_bx hV0.x hV0.sh HP.out.2.2.2 HP.out.1
  have lg3 : gt < w3.heap.size := hV0.x.lt (.inl (.inr (.inl (by rw [Sl.blk, HP.out.1]; rfl))))
  generalize hO : outs ((i : Int) + 1) (L.map (·.2)) L.length = O at HV0 hol ⊢
  generalize hLL : hoLs ((i : Int) + 1) (L.map (·.2)) L.length = LL at HL' ⊢
  have HOO : Hid (outs ((i : Int) + 1) (L.map (·.2)) L.length = O) := hO
  have HLL : Hid (hoLs ((i : Int) + 1) (L.map (·.2)) L.length = LL) := hLL
  clear hV hV0 hL' HA HE hO hLL d1 d2 d3 f1 lg HG HT
  obtain ⟨ra, ca⟩ := s
  dsimp only at HH ⊢
  have HHd : Hid (x.2.row.headD 0 = (x.2.row.drop 0).headD 0) := by rw [List.drop_zero]; exact rfl
  rw [HHd.out] at HH
  generalize hnx : (x.2.row.drop 0).headD 0 = nx at HH
  go_wp2_with fail
  refine Calls.mono HH.out ?_
  rintro e w4 ⟨rfl, s4, hX4⟩
  have HV4 : Hid (∃ s5 : Sl, EV w w4 b pt pl pg T L ((T.set i (x.1, (⟨x.2.row, true, wd, 0⟩ : Th))).set i (s5, ⟨x.2.row.drop 1, true, wd, 0⟩)) L' G ⟨ra, ca⟩ O) := ⟨s4, by
    have := HV0.out.take HP.out.2.2.2 hX4
    rw [← List.drop_one] at this
    exact this⟩
  have HNx : Hid (nx = (x.2.row.drop 0).headD 0) := hnx.symm
  clear HV0 HH hX4 hnx HHd lg3
  go_wp2
  go_loopw [12, 13] (fun o n wr => ∃ (m : Nat) (s : Sl) (nx : Int), n = .int .i64 nx ∧ o = .slice s.ra (O ++ x.2.row.take m).length s.cap ∧ m ≤ x.2.row.length ∧ Hid (nx = (x.2.row.drop m).headD 0 ∧ ∃ s5 : Sl, EV w wr b pt pl pg T L ((T.set i (x.1, (⟨x.2.row, true, wd, 0⟩ : Th))).set i (s5, ⟨x.2.row.drop (m + 1), true, wd, 0⟩)) L' G s (O ++ x.2.row.take m))) (fun o _ _ => (O.length + x.2.row.length) - lenV o)
  case atStart => exact ⟨0, ⟨ra, ca⟩, nx, rfl, by simp, Nat.zero_le _, HNx.out, by simpa using HV4.out⟩
  case round =>
    obtain ⟨m, s, nx2, rfl, rfl, hm, HR⟩ := hrel
    obtain ⟨ra2, ca2⟩ := s
    by_cases hlt2 : m < x.2.row.length
    · obtain ⟨z, hz⟩ : ∃ z, x.2.row[m]? = some z := ⟨_, List.getElem?_eq_getElem hlt2⟩
      have hz0 : z ≠ 0 := HP.out.2.2.1 z (List.mem_of_getElem? hz)
      have hdr : x.2.row.drop m = z :: x.2.row.drop (m + 1) := by
        have e := (List.getElem?_eq_some_iff.1 hz).2
        rw [← e]
        exact List.drop_eq_getElem_cons hlt2
      have hnx2 : nx2 = z := by
        rw [HR.out.1, hdr]
        rfl
      subst hnx2
      obtain ⟨s5, hV⟩ := HR.out.2
      obtain ⟨s3, w5, hap, h1, h2, h3, h4⟩ := (hV.r.kept (w' := wr.alloc (.cells #[.int .i64 nx2] 3)) (fun g hg => Below.heap_alloc _ _ _ (hV.r.lt hg))).snoc (by rw [List.length_append, List.length_take]; omega) nx2 wr.heap.size (heap_alloc_new wr _)
      have htk : O ++ x.2.row.take (m + 1) = O ++ x.2.row.take m ++ [nx2] := by
        rw [List.take_add_one, hz, List.append_assoc]
        rfl
      have hV5 := hV.app (s' := s3) (o' := O ++ x.2.row.take (m + 1)) (by rw [htk]; exact h1) h2 h3 h4
      have hlt0 : i < (T.set i (x.1, (⟨x.2.row, true, wd, 0⟩ : Th))).length := by rw [List.length_set]; exact hlt
      have hTi : ((T.set i (x.1, (⟨x.2.row, true, wd, 0⟩ : Th))).set i (s5, (⟨x.2.row.drop (m + 1), true, wd, 0⟩ : Th)))[i]? = some (s5, ⟨x.2.row.drop (m + 1), true, wd, 0⟩) := List.getElem?_set_self hlt0
      have HH : Hid _ := takeFirst_bx hV5.x hV5.sh hTi HP.out.1
      have HV5 : Hid _ := hV5
      have HTi : Hid _ := hTi
      have lg5 : gt < w5.heap.size := hV5.x.lt (.inl (.inr (.inl (by rw [Sl.blk, HP.out.1]; rfl))))
      have HLn : Hid ((O ++ x.2.row.take (m + 1)).length = (O ++ x.2.row.take m).length + 1) := by show _ = _; rw [htk, List.length_append]; rfl
      have hln2 : (O ++ x.2.row.take m).length = O.length + m := by rw [List.length_append, List.length_take]; omega
      obtain ⟨ra3, ca3⟩ := s3
      dsimp only at hap HH
      generalize hnx3 : (x.2.row.drop (m + 1)).headD 0 = nx3 at HH
      have HN3 : Hid (nx3 = (x.2.row.drop (m + 1)).headD 0) := hnx3.symm
      clear hV hV5 h1 h2 h3 h4 HR hTi hdr htk hz hnx3
      go_wp2_with (at_builtin; refine stop_of ?_)
      unfold Hid
      refine wpList_append_known _ rfl _ _ 62 62 rfl _ _ rfl rfl (hap _) ?_
      clear hap
      go_wp2_with fail
      refine Calls.mono HH.out ?_
      rintro e w6 ⟨rfl, s6, hX6⟩
      have HV6 : Hid (nx3 = (x.2.row.drop (m + 1)).headD 0 ∧ ∃ s5 : Sl, EV w w6 b pt pl pg T L ((T.set i (x.1, (⟨x.2.row, true, wd, 0⟩ : Th))).set i (s5, ⟨x.2.row.drop (m + 1 + 1), true, wd, 0⟩)) L' G ⟨ra3, ca3⟩ (O ++ x.2.row.take (m + 1))) := ⟨HN3.out, s6, by
        have := HV5.out.take HTi.out hX6
        dsimp only at this
        rw [List.set_set, List.tail_drop] at this
        exact this⟩
      clear HH hX6 HV5 HTi HN3 lg5
      go_wp2
      go_roundw
      case rel => exact ⟨m + 1, ⟨ra3, ca3⟩, nx3, rfl, by rw [HLn.out, hln2], by omega, HV6⟩
      case measure => simp only [lenV]; omega
    · have hm2 : m = x.2.row.length := by omega
      subst hm2
      have hnx2 : nx2 = 0 := by
        rw [HR.out.1, List.drop_length]
        rfl
      subst hnx2
      have htk : O ++ x.2.row.take x.2.row.length = O ++ x.2.row := by rw [List.take_length]
      obtain ⟨s5, hV⟩ := HR.out.2
      rw [htk] at hV
      have hlen : (O ++ x.2.row).length ≤ 1000 := by rw [List.length_append]; omega
      have HSo : Hid _ := sort_ro hV.r hlen
      have HV5 : Hid _ := hV
      have HLn : (O ++ x.2.row.take x.2.row.length).length = (O ++ x.2.row).length := by rw [htk]
      rw [HLn]
      dsimp only at HSo
      generalize hLN : (O ++ x.2.row).length = LN at HSo ⊢
      have HLN : Hid (LN = (O ++ x.2.row).length) := hLN.symm
      clear HR hV htk HLn hLN hlen
      go_wp2_with fail
      refine Calls.mono HSo.out ?_
      rintro e w6 ⟨rfl, hr6, hk6, hb6⟩
      have hF := HV5.out.srt hr6 hk6 hb6
      have HF : Hid (ER b ⟨endT (T.map (·.2)) i wd 0, hoLs ((i : Int) + 1) (L.map (·.2)) L.length, G⟩ (Ft b pt pl pg T L) (srt (outs ((i : Int) + 1) (L.map (·.2)) L.length ++ x.2.row)) 0 w (.returned (.tuple #[.slice ra2 LN ca2, .int .i64 0])) w6) := by
        rw [HOO.out, HLL.out]
        exact ⟨⟨ra2, ca2⟩, _, by rw [srt_len, HLN.out], hF.r, hF.f, ⟨pt, pl, pg, _, _, hF.x, by
          rw [List.set_set, List.map_set, List.drop_of_length_le (by omega)]
          rfl, HL'.out, rfl⟩, hF.c⟩
      clear HSo hr6 hk6 hb6 hF HV5
      go_wp2
      refine bodyPost_ret (results_tmp2 rfl _ _ _) rfl ?_
      exact HF.out
set_option maxRecDepth 100000 in
set_option maxHeartbeats 4000000 in
theorem end_er {w : World} {b : Nat} {pt pl pg : Sl} {T : List (Sl × Th)} {L : List (Sl × Lk)} {G : List Int} (hX : BX w b pt pl pg T L G) (hS : ShT T L) (hN : ∀ x ∈ L, ∀ y ∈ x.2.row, y ≠ 0) {i : Nat} {x : Sl × Th} (hi : T[i]? = some x) (hN2 : ∀ y ∈ x.2.row, y ≠ 0) (hl : x.2.row.length ≤ 100) (wd : Int) (hg : goX T L ((i : Int) + 1) = 0) {er : Int} (hne : er ≠ 0) :
    Calls Tryd.prog 26 #[.pointer (some ⟨b, 0, none⟩), .int .i64 ((i : Int) + 1), .int .u64 wd, .int .i64 er] w fun e w' => ER b ⟨endT (T.map (·.2)) i 0 er, hoLs ((i : Int) + 1) (L.map (·.2)) L.length, G⟩ (Ft b pt pl pg T L) (srt (outs ((i : Int) + 1) (L.map (·.2)) L.length ++ x.2.row)) 0 w e w' := by
  have HG : Hid _ := going_any hX hS ((i : Int) + 1)
  rw [hg] at HG
  have hlt := (List.getElem?_eq_some_iff.1 hi).1
  obtain ⟨gt, hp, -, lg, cs, hcs, hc0, hc1, hc2, hc3⟩ := hX.tf hi
  have HT : Hid _ := thread_any hX hlt hp lg
  have d1 := heap_cell hcs hc1
  have d2 := heap_cell hcs hc2
  have d3 := heap_cell hcs hc3
  have f1 : ∀ k, w.frozen? ⟨gt, k, none⟩ = false := fun k => by simp [World.frozen?, hcs]
  have hE0 := hX.enT wd 0 hi hp
  have hE1 := hE0.1.enT (x := (x.1, ⟨x.2.row, true, wd, 0⟩)) 0 er (List.getElem?_set_self hlt) hp
  rw [List.set_set] at hE1
  have hE := And.intro hE1.1 (hE0.2.trans hE1.2)
  clear hE0 hE1
  have hS2 : ShT (T.set i (x.1, ⟨x.2.row, true, 0, er⟩)) L := fun p hp' => by
    rw [rws_setT _ hlt] at hp'
    rcases List.mem_or_eq_of_mem_set hp' with hp' | rfl
    · exact hS p hp'
    · have := hS _ (List.mem_of_getElem? (rws_t L hi))
      exact this
  have HA : Hid (Calls Tryd.prog 71 #[.pointer (some ⟨b, 0, none⟩), .int .i64 ((i : Int) + 1)] ((((((((w).setCell ⟨gt, i * 4 + 1, none⟩ (.bool true)).setCell ⟨gt, i * 4 + 2, none⟩ (.int .u64 wd)).setCell ⟨gt, i * 4 + 3, none⟩ (.int .i64 0))).setCell ⟨gt, i * 4 + 1, none⟩ (.bool true)).setCell ⟨gt, i * 4 + 2, none⟩ (.int .u64 0)).setCell ⟨gt, i * 4 + 3, none⟩ (.int .i64 er)) fun e w' => HAR ((((((((w).setCell ⟨gt, i * 4 + 1, none⟩ (.bool true)).setCell ⟨gt, i * 4 + 2, none⟩ (.int .u64 wd)).setCell ⟨gt, i * 4 + 3, none⟩ (.int .i64 0))).setCell ⟨gt, i * 4 + 1, none⟩ (.bool true)).setCell ⟨gt, i * 4 + 2, none⟩ (.int .u64 0)).setCell ⟨gt, i * 4 + 3, none⟩ (.int .i64 er)) b pt pl pg (T.set i (x.1, ⟨x.2.row, true, 0, er⟩)) L G ((i : Int) + 1) e w') := handOnAll_any hE.1 hS2 hN ((i : Int) + 1)
  have HE : Hid (BX ((((((((w).setCell ⟨gt, i * 4 + 1, none⟩ (.bool true)).setCell ⟨gt, i * 4 + 2, none⟩ (.int .u64 wd)).setCell ⟨gt, i * 4 + 3, none⟩ (.int .i64 0))).setCell ⟨gt, i * 4 + 1, none⟩ (.bool true)).setCell ⟨gt, i * 4 + 2, none⟩ (.int .u64 0)).setCell ⟨gt, i * 4 + 3, none⟩ (.int .i64 er)) b pt pl pg (T.set i (x.1, ⟨x.2.row, true, 0, er⟩)) L G ∧ Chg (Ft b pt pl pg T L) (Ft b pt pl pg (T.set i (x.1, ⟨x.2.row, true, 0, er⟩)) L) w ((((((((w).setCell ⟨gt, i * 4 + 1, none⟩ (.bool true)).setCell ⟨gt, i * 4 + 2, none⟩ (.int .u64 wd)).setCell ⟨gt, i * 4 + 3, none⟩ (.int .i64 0))).setCell ⟨gt, i * 4 + 1, none⟩ (.bool true)).setCell ⟨gt, i * 4 + 2, none⟩ (.int .u64 0)).setCell ⟨gt, i * 4 + 3, none⟩ (.int .i64 er))) := hE
  have HP : Hid (pt.ra = some ⟨gt, 0, none⟩ ∧ T[i]? = some x ∧ (∀ y ∈ x.2.row, y ≠ 0) ∧ (T.set i (x.1, (⟨x.2.row, true, 0, er⟩ : Th)))[i]? = some (x.1, ⟨x.2.row, true, 0, er⟩)) := ⟨hp, hi, hN2, List.getElem?_set_self hlt⟩
  have hol := outs_len ((i : Int) + 1) (L.map (·.2)) L.length
  have hln := hX.ln
  clear hcs hc0 hc1 hc2 hc3 hX hS hp hE hS2 hN hN2
  go_enter Tryd.func26, Tryd.ntmps26
  go_wp2_with fail
  refine Calls.mono HG.out ?_
  rintro e w2 ⟨rfl, hw2⟩
  rw [hw2]
  clear hw2
  go_wp2_with fail
  refine Calls.mono HT.out ?_
  rintro e w2 ⟨rfl, hw2⟩
  rw [hw2]
  clear hw2
  go_wp2_with fail
  refine Calls.mono HA.out ?_
  rintro e w3 ⟨s, L', rfl, hL', hV⟩
  have hV0 : EV w w3 b pt pl pg T L (T.set i (x.1, ⟨x.2.row, true, 0, er⟩)) L' G s (outs ((i : Int) + 1) (L.map (·.2)) L.length) := ⟨hV.x, HE.out.2.trans hV.c, hV.r, fun g hg => ⟨Nat.le_trans HE.out.2.2.1.size (hV.f g hg).1, (hV.f g hg).2⟩, hV.sh⟩
  have HV0 : Hid _ := hV0
  have HL' : Hid (L'.map (·.2) = hoLs ((i : Int) + 1) (L.map (·.2)) L.length) := hL'
  have HH : Hid _ := takeFirst_bx hV0.x hV0.sh HP.out.2.2.2 HP.out.1
  have lg3 : gt < w3.heap.size := hV0.x.lt (.inl (.inr (.inl (by rw [Sl.blk, HP.out.1]; rfl))))
  generalize hO : outs ((i : Int) + 1) (L.map (·.2)) L.length = O at HV0 hol ⊢
  generalize hLL : hoLs ((i : Int) + 1) (L.map (·.2)) L.length = LL at HL' ⊢
  have HOO : Hid (outs ((i : Int) + 1) (L.map (·.2)) L.length = O) := hO
  have HLL : Hid (hoLs ((i : Int) + 1) (L.map (·.2)) L.length = LL) := hLL
  clear hV hV0 hL' HA HE hO hLL d1 d2 d3 f1 lg HG HT
  obtain ⟨ra, ca⟩ := s
  dsimp only at HH ⊢
  have HHd : Hid (x.2.row.headD 0 = (x.2.row.drop 0).headD 0) := by rw [List.drop_zero]; exact rfl
  rw [HHd.out] at HH
  generalize hnx : (x.2.row.drop 0).headD 0 = nx at HH
  go_wp2_with fail
  refine Calls.mono HH.out ?_
  rintro e w4 ⟨rfl, s4, hX4⟩
  have HV4 : Hid (∃ s5 : Sl, EV w w4 b pt pl pg T L ((T.set i (x.1, (⟨x.2.row, true, 0, er⟩ : Th))).set i (s5, ⟨x.2.row.drop 1, true, 0, er⟩)) L' G ⟨ra, ca⟩ O) := ⟨s4, by
    have := HV0.out.take HP.out.2.2.2 hX4
    rw [← List.drop_one] at this
    exact this⟩
  have HNx : Hid (nx = (x.2.row.drop 0).headD 0) := hnx.symm
  clear HV0 HH hX4 hnx HHd lg3
  go_wp2
  go_loopw [12, 13] (fun o n wr => ∃ (m : Nat) (s : Sl) (nx : Int), n = .int .i64 nx ∧ o = .slice s.ra (O ++ x.2.row.take m).length s.cap ∧ m ≤ x.2.row.length ∧ Hid (nx = (x.2.row.drop m).headD 0 ∧ ∃ s5 : Sl, EV w wr b pt pl pg T L ((T.set i (x.1, (⟨x.2.row, true, 0, er⟩ : Th))).set i (s5, ⟨x.2.row.drop (m + 1), true, 0, er⟩)) L' G s (O ++ x.2.row.take m))) (fun o _ _ => (O.length + x.2.row.length) - lenV o)
  case atStart => exact ⟨0, ⟨ra, ca⟩, nx, rfl, by simp, Nat.zero_le _, HNx.out, by simpa using HV4.out⟩
  case round =>
    obtain ⟨m, s, nx2, rfl, rfl, hm, HR⟩ := hrel
    obtain ⟨ra2, ca2⟩ := s
    by_cases hlt2 : m < x.2.row.length
    · obtain ⟨z, hz⟩ : ∃ z, x.2.row[m]? = some z := ⟨_, List.getElem?_eq_getElem hlt2⟩
      have hz0 : z ≠ 0 := HP.out.2.2.1 z (List.mem_of_getElem? hz)
      have hdr : x.2.row.drop m = z :: x.2.row.drop (m + 1) := by
        have e := (List.getElem?_eq_some_iff.1 hz).2
        rw [← e]
        exact List.drop_eq_getElem_cons hlt2
      have hnx2 : nx2 = z := by
        rw [HR.out.1, hdr]
        rfl
      subst hnx2
      obtain ⟨s5, hV⟩ := HR.out.2
      obtain ⟨s3, w5, hap, h1, h2, h3, h4⟩ := (hV.r.kept (w' := wr.alloc (.cells #[.int .i64 nx2] 3)) (fun g hg => Below.heap_alloc _ _ _ (hV.r.lt hg))).snoc (by rw [List.length_append, List.length_take]; omega) nx2 wr.heap.size (heap_alloc_new wr _)
      have htk : O ++ x.2.row.take (m + 1) = O ++ x.2.row.take m ++ [nx2] := by
        rw [List.take_add_one, hz, List.append_assoc]
        rfl
      have hV5 := hV.app (s' := s3) (o' := O ++ x.2.row.take (m + 1)) (by rw [htk]; exact h1) h2 h3 h4
      have hlt0 : i < (T.set i (x.1, (⟨x.2.row, true, 0, er⟩ : Th))).length := by rw [List.length_set]; exact hlt
      have hTi : ((T.set i (x.1, (⟨x.2.row, true, 0, er⟩ : Th))).set i (s5, (⟨x.2.row.drop (m + 1), true, 0, er⟩ : Th)))[i]? = some (s5, ⟨x.2.row.drop (m + 1), true, 0, er⟩) := List.getElem?_set_self hlt0
      have HH : Hid _ := takeFirst_bx hV5.x hV5.sh hTi HP.out.1
      have HV5 : Hid _ := hV5
      have HTi : Hid _ := hTi
      have lg5 : gt < w5.heap.size := hV5.x.lt (.inl (.inr (.inl (by rw [Sl.blk, HP.out.1]; rfl))))
      have HLn : Hid ((O ++ x.2.row.take (m + 1)).length = (O ++ x.2.row.take m).length + 1) := by show _ = _; rw [htk, List.length_append]; rfl
      have hln2 : (O ++ x.2.row.take m).length = O.length + m := by rw [List.length_append, List.length_take]; omega
      obtain ⟨ra3, ca3⟩ := s3
      dsimp only at hap HH
      generalize hnx3 : (x.2.row.drop (m + 1)).headD 0 = nx3 at HH
      have HN3 : Hid (nx3 = (x.2.row.drop (m + 1)).headD 0) := hnx3.symm
      clear hV hV5 h1 h2 h3 h4 HR hTi hdr htk hz hnx3
      go_wp2_with (at_builtin; refine stop_of ?_)
      unfold Hid
      refine wpList_append_known _ rfl _ _ 62 62 rfl _ _ rfl rfl (hap _) ?_
      clear hap
      go_wp2_with fail
      refine Calls.mono HH.out ?_
      rintro e w6 ⟨rfl, s6, hX6⟩
      have HV6 : Hid (nx3 = (x.2.row.drop (m + 1)).headD 0 ∧ ∃ s5 : Sl, EV w w6 b pt pl pg T L ((T.set i (x.1, (⟨x.2.row, true, 0, er⟩ : Th))).set i (s5, ⟨x.2.row.drop (m + 1 + 1), true, 0, er⟩)) L' G ⟨ra3, ca3⟩ (O ++ x.2.row.take (m + 1))) := ⟨HN3.out, s6, by
        have := HV5.out.take HTi.out hX6
        dsimp only at this
        rw [List.set_set, List.tail_drop] at this
        exact this⟩
      clear HH hX6 HV5 HTi HN3 lg5
      go_wp2
      go_roundw
      case rel => exact ⟨m + 1, ⟨ra3, ca3⟩, nx3, rfl, by rw [HLn.out, hln2], by omega, HV6⟩
      case measure => simp only [lenV]; omega
    · have hm2 : m = x.2.row.length := by omega
      subst hm2
      have hnx2 : nx2 = 0 := by
        rw [HR.out.1, List.drop_length]
        rfl
      subst hnx2
      have htk : O ++ x.2.row.take x.2.row.length = O ++ x.2.row := by rw [List.take_length]
      obtain ⟨s5, hV⟩ := HR.out.2
      rw [htk] at hV
      have hlen : (O ++ x.2.row).length ≤ 1000 := by rw [List.length_append]; omega
      have HSo : Hid _ := sort_ro hV.r hlen
      have HV5 : Hid _ := hV
      have HLn : (O ++ x.2.row.take x.2.row.length).length = (O ++ x.2.row).length := by rw [htk]
      rw [HLn]
      dsimp only at HSo
      generalize hLN : (O ++ x.2.row).length = LN at HSo ⊢
      have HLN : Hid (LN = (O ++ x.2.row).length) := hLN.symm
      clear HR hV htk HLn hLN hlen
      go_wp2_with fail
      refine Calls.mono HSo.out ?_
      rintro e w6 ⟨rfl, hr6, hk6, hb6⟩
      have hF := HV5.out.srt hr6 hk6 hb6
      have HF : Hid (ER b ⟨endT (T.map (·.2)) i 0 er, hoLs ((i : Int) + 1) (L.map (·.2)) L.length, G⟩ (Ft b pt pl pg T L) (srt (outs ((i : Int) + 1) (L.map (·.2)) L.length ++ x.2.row)) 0 w (.returned (.tuple #[.slice ra2 LN ca2, .int .i64 0])) w6) := by
        rw [HOO.out, HLL.out]
        exact ⟨⟨ra2, ca2⟩, _, by rw [srt_len, HLN.out], hF.r, hF.f, ⟨pt, pl, pg, _, _, hF.x, by
          rw [List.set_set, List.map_set, List.drop_of_length_le (by omega)]
          rfl, HL'.out, rfl⟩, hF.c⟩
      clear HSo hr6 hk6 hb6 hF HV5
      go_wp2
      refine bodyPost_ret (results_tmp2 rfl _ _ _) rfl ?_
      exact HF.out
end Go.Proofs.YtdlnkdcgipaoeaaDoor
