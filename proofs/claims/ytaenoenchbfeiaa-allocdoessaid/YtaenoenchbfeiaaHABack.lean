/- Back. -/
import Derived.Test.YtaenoenchbfeiaaHAAsk
import Derived.Test.YtaenoenchbfeiaaHShelf
namespace Go.Proofs.Ytaenoenchbfeiaa
open Go.RowKit

def backM (A : Al) (c : Int) : (Int × Int) × Al :=
  if A.who[c.toNat]? = some (-1) ∧ 0 ≤ c then (match A.row with
    | [] => ((0, 0), ⟨A.who.set c.toNat 0, []⟩)
    | p :: r => ((p.1, 0), ⟨A.who.set c.toNat p.1, r⟩)) else ((0, 120), A)
theorem drewN_heap (w : World) (k : Nat) : (w.drewN k).heap = w.heap := by
  induction k with
  | zero => rfl
  | succ k ih => exact ih
theorem below_drewM {n : Nat} {w0 w : World} (h : Below n w0 w) (k : Nat) : Below n w0 (w.drewN k) := by
  induction k generalizing w with
  | zero => exact h
  | succ k ih => exact (ih h).drew
set_option maxRecDepth 100000 in
set_option maxHeartbeats 8000000 in
theorem layFree_any (a ga gm gf cf n : Nat) (vr : Value) (A : Al) (c : Nat) (w : World) (hA : AL w a ga gm gf cf vr n A) (hI : Inv A) (hc : A.who[c]? = some (-1)) :
    Calls Try.prog 52 #[.pointer (some ⟨a, 0, none⟩), .int .i64 c] w fun e w' => e = .returned (.tuple #[]) ∧ AR a ga gm gf cf vr n ⟨A.who.set c 0, A.row⟩ w w' := by
  have hcl : c < A.who.length := (List.getElem?_eq_some_iff.1 hc).1
  have hlen := hI.len
  obtain ⟨⟨p1, p2, p3, p4, p5, p6⟩, p7⟩ := hA.apart
  have hfb := frs_back A.who 0 c hc
  rw [Nat.zero_add] at hfb
  have hll := frs_len 0 (A.who.set c 0)
  rw [hfb, List.length_set] at hll
  obtain ⟨zs, hzs⟩ : ∃ zs, zs = frs 0 A.who := ⟨_, rfl⟩
  rw [← hzs] at hfb hll
  obtain ⟨i, hi⟩ : ∃ i, i = zs.countP (· < (c : Int)) := ⟨_, rfl⟩
  rw [← hi] at hfb hll
  have hil : i ≤ zs.length := by rw [hi]; exact List.countP_le_length
  have hzl : zs.length + 1 ≤ A.who.length := by simp at hll; omega
  have hroom := hA.room
  have hsort := frs_sorted A.who 0
  rw [← hzs] at hsort
  obtain ⟨u, hu, _⟩ := hA.pl.cell hcl
  have hfz := hA.pl.fz c
  have c0 := heap_cell (j := 0) hA.obj rfl
  have i1 : (c : Int) < (A.who.length : Int) := by omega
  have la := heap_lt hA.obj
  have lg := hA.pl.lt
  obtain ⟨W0, hW0⟩ : ∃ W0, W0 = w.setCell ⟨ga, c, none⟩ (.int .u8 0) := ⟨_, rfl⟩
  have ks : ∀ g, g ≠ ga → W0.heap[g]? = w.heap[g]? := fun g hg => by rw [hW0]; exact Below.heap_setCell _ _ _ _ hg
  have s0 : W0.heap.size = w.heap.size := by rw [hW0]; exact World.size_setCell ..
  have b0 : Below 0 w W0 := by rw [hW0]; exact (Below.refl 0 w).setCell (p := ⟨ga, c, none⟩) (Nat.zero_le _) _
  have ho0 := (ks a p1).trans hA.obj
  have hfr := hA.fr
  rw [← hzs] at hfr ho0
  have hfr0 := own_same (w' := W0) hfr (fun g hg => by cases hg; exact ks gf (fun e => p5 e.symm))
  have hpl0 : DR W0 109 ga (A.who.set c 0).length (fun k u => ∀ y, (A.who.set c 0)[k]? = some y → u = .int .u8 (plc y)) := by
    rw [hW0]
    exact pl_set (x := 0) hA.pl hcl
  have c1 := heap_cell (j := 1) ho0 rfl
  have HS : Hid _ := Try.slices_BinarySearch_int gf 0 zs.length cf zs (c : Int) W0 (Nat.le_refl _) (by omega) (fun j hj => by
    rw [Nat.zero_add]
    refine own_cell hfr0 ?_
    rw [List.getElem?_map, List.getElem?_eq_getElem hj]
    simp [List.getD_eq_getElem?_getD, hj]) (by rw [List.take_length]; exact hsort.imp (fun h => Int.le_of_lt h))
  rw [List.take_length, ← hi] at HS
  have HA : Hid (AL w a ga gm gf cf vr n A) := hA
  have HPl : Hid _ := hpl0
  have HFr : Hid (W0.ownsRow 0 3 1 (.slice (some ⟨gf, 0, none⟩) zs.length cf) zs.length (zs.map (Value.int .i64))) := hfr0
  have HOb : Hid (W0.heap[a]? = some (obV (.slice (some ⟨ga, 0, none⟩) A.who.length A.who.length) (.slice (some ⟨gf, 0, none⟩) zs.length cf) vr (.map (some gm)))) := ho0
  have HK : Hid (∀ g, g ≠ ga → W0.heap[g]? = w.heap[g]?) := ks
  have HB0 : Hid (Below 0 w W0) := b0
  have HFb : Hid (frs 0 (A.who.set c 0) = zs.take i ++ (c : Int) :: zs.drop i) := hfb
  have HC : Hid (A.who[c]? = some (-1)) := hc
  have la0 : a < W0.heap.size := by omega
  clear hA hI hc hfb hll hsort hfr hpl0 hfr0 ks b0 hi ho0 hzs
  go_enter Try.func52, Try.ntmps52
  go_upto_region 1 with fail
  rw [← hW0]
  clear hW0 hu c0 hfz
  go_wp2_with fail
  refine Calls.mono HS.out ?_
  rintro e w1 ⟨rfl, q, rfl⟩
  have hh1 := drewN_heap W0 q
  have d1 : (W0.drewN q).cell? ⟨a, 1, none⟩ = some (.slice (some ⟨gf, 0, none⟩) zs.length cf) := by
    have := HOb.out
    rw [← hh1] at this
    exact heap_cell this rfl
  have s1 : (W0.drewN q).heap.size = W0.heap.size := by rw [hh1]
  have HH1 : Hid ((W0.drewN q).heap = W0.heap) := hh1
  have HB1 : Hid (Below 0 w (W0.drewN q)) := below_drewM HB0.out q
  have la1 : a < (W0.drewN q).heap.size := by omega
  clear HS hh1 c1
  generalize W0.drewN q = w1 at *
  obtain ⟨W2, hW2⟩ : ∃ W2, W2 = w1.alloc (.cells #[.int .i64 (c : Int)] 3) := ⟨_, rfl⟩
  have hk2 : ∀ g, g < w.heap.size → W2.heap[g]? = W0.heap[g]? := fun g hg => by rw [hW2, Below.heap_alloc _ _ _ (by omega), HH1.out]
  have hs2 : W2.heap.size = w.heap.size + 1 := by rw [hW2, World.size_alloc]; omega
  have sw1 : w1.heap.size = w.heap.size := by omega
  have hv2 : W2.heap[w.heap.size]? = some (.cells #[.int .i64 (c : Int)] 3 (0, 0)) := by rw [hW2, ← sw1]; exact heap_alloc_new _ _
  have hb2 : Below 0 w W2 := by rw [hW2]; exact HB1.out.alloc (Nat.zero_le _) _
  have lgf : gf < w.heap.size := HA.out.lt gf (.inl (.inr (.inr (.inr rfl))))
  have hfr2 := own_same (w' := W2) HFr.out (fun g hg => by cases hg; exact hk2 gf lgf)
  have hob2 := (hk2 a la).trans HOb.out
  have HIn : Hid (Calls Try.prog 60 #[.slice (some ⟨gf, 0, none⟩) zs.length cf, .int .i64 i, .slice (some ⟨w.heap.size, 0, none⟩) 1 1] W2 fun e w' => e = .returned (.slice (some ⟨gf, 0, none⟩) (zs.length + 1) cf) ∧ InsR gf zs.length cf i c (zs.map (Value.int .i64)) W2 w') := by
    by_cases he : i = zs.length
    · rw [he]
      exact insI_end _ gf zs.length cf _ c W2 hfr2 (by omega) hv2
    · exact insI_in _ gf zs.length cf _ i c W2 hfr2 (by omega) (by omega) (by omega) hv2 (fun u hu => by obtain ⟨x, _, rfl⟩ := List.mem_map.1 hu; rfl)
  have HOb2 : Hid (W2.heap[a]? = some (obV (.slice (some ⟨ga, 0, none⟩) A.who.length A.who.length) (.slice (some ⟨gf, 0, none⟩) zs.length cf) vr (.map (some gm)))) := hob2
  have HK2 : Hid (∀ g, g < w.heap.size → W2.heap[g]? = W0.heap[g]?) := hk2
  have HB2 : Hid (Below 0 w W2) := hb2
  clear hk2 hv2 hb2 hfr2 hob2 HFr HOb HH1 HB1 HB0
  go_wp2_with fail
  rw [← hW2]
  refine Calls.mono HIn.out ?_
  rintro e w3 ⟨rfl, hown, hk3, hb3, hs3⟩
  have ho3 := (hk3 a p3).trans HOb2.out
  have d3 := heap_cell (j := 1) ho3 rfl
  have f3 : w3.frozen? ⟨a, 1, none⟩ = false := by simp [World.frozen?, ho3]
  have la3 := heap_lt ho3
  have HF : Hid (AR a ga gm gf cf vr n ⟨A.who.set c 0, A.row⟩ w (w3.setCell ⟨a, 1, none⟩ (.slice (some ⟨gf, 0, none⟩) (zs.length + 1) cf))) := by
    have ks : ∀ g, g ≠ a → (w3.setCell ⟨a, 1, none⟩ (.slice (some ⟨gf, 0, none⟩) (zs.length + 1) cf)).heap[g]? = w3.heap[g]? := fun g hg => Below.heap_setCell _ _ _ _ hg
    have kA : ∀ g, g < w.heap.size → g ≠ a → g ≠ gf → g ≠ ga → (w3.setCell ⟨a, 1, none⟩ (.slice (some ⟨gf, 0, none⟩) (zs.length + 1) cf)).heap[g]? = w.heap[g]? := fun g h1 h2 h3 h4 => by rw [ks g h2, hk3 g h3, HK2.out g h1, HK.out g h4]
    have e1 : (frs 0 (A.who.set c 0)).length = zs.length + 1 := by rw [HFb.out]; simp; omega
    have lt := HA.out.lt
    refine ⟨vr, ⟨?_, ?_, ?_, ?_, ?_, ?_⟩, fun g hg hn => ?_, ?_, fun g hg => .inl hg⟩
    · dsimp only
      rw [e1, List.length_set, set_atC ho3]
      rfl
    · exact DR.kept HPl.out (by rw [ks ga (fun e => p1 e.symm), hk3 ga p5, HK2.out ga lg])
    · dsimp only
      rw [e1, HFb.out, List.map_append, List.map_cons, List.map_take, List.map_drop]
      exact own_same hown (fun g hg => by cases hg; exact ks gf (fun e => p3 e.symm))
    · rw [List.length_set]; exact hroom
    · exact own_same HA.out.rw (fun g hg => by
        obtain ⟨q1, q2, q3, q4⟩ := p7 g hg
        exact kA g (lt g (.inr hg)) q1 q4 q2)
    · refine (HA.out.gm.kept (kA gm (lt gm (.inl (.inr (.inr (.inl rfl))))) (fun e => p2 e.symm) p6 (fun e => p4 e.symm))).congr (fun k h1 h8 => ?_)
      dsimp only
      rw [fnd_set_other (by omega) (by omega) HC.out]
    · exact kA g hg (fun e => hn (.inl (.inl e))) (fun e => hn (.inl (.inr (.inr (.inr e))))) (fun e => hn (.inl (.inr (.inl e))))
    · exact (HB2.out.trans hb3).setCell (p := ⟨a, 1, none⟩) (Nat.zero_le _) _
  clear hown hk3 hb3 hs3 ho3 HIn HOb2 HK2 HB2 HA HPl HK HFb HC
  go_wp2
  refine bodyPost_end (results_none rfl _ _ _) rfl ⟨rfl, ?_⟩
  exact HF.out
theorem place_of {x : Int} : plc x = 1 ↔ x = -1 := by
  unfold plc
  constructor
  · intro h
    split at h
    · omega
    · split at h
      · assumption
      · omega
  · intro h
    rw [h]; rfl
abbrev backE (r : Int × Int) : Ending := .returned (.tuple #[.int .i64 r.1, .int .i64 r.2])
set_option maxRecDepth 100000 in
set_option maxHeartbeats 8000000 in
theorem back_any (a ga gm gf cf n : Nat) (vr : Value) (A : Al) (c : Int) (w : World) (hA : AL w a ga gm gf cf vr n A) (hI : Inv A) (hn : n ≤ 1000000) :
    Calls Try.prog 20 #[.pointer (some ⟨a, 0, none⟩), .int .i64 c] w fun e w' => e = backE (backM A c).1 ∧ ∃ n', n' ≤ n + 1 ∧ AR a ga gm gf cf vr n' (backM A c).2 w w' := by
  have c0 := heap_cell (j := 0) hA.obj rfl
  have la := heap_lt hA.obj
  have hlen := hI.len
  have HA : Hid (AL w a ga gm gf cf vr n A) := hA
  have HSame : Hid (∃ n', n' ≤ n + 1 ∧ AR a ga gm gf cf vr n' A w w) := ⟨n, by omega, hA.same (Below.refl _ _)⟩
  by_cases h0 : c < 0
  · have e : backM A c = ((0, 120), A) := by unfold backM; rw [if_neg (by omega)]
    rw [e]
    unfold backE
    dsimp only
    clear hA hI HA
    go_enter Try.func20, Try.ntmps20
    go_wp2
    all_goals
      go_ret2
      exact ⟨rfl, HSame.out⟩
  · obtain ⟨d, rfl⟩ : ∃ d : Nat, c = (d : Int) := ⟨c.toNat, by omega⟩
    by_cases hd : d < A.who.length
    · obtain ⟨x, hx⟩ : ∃ x, A.who[d]? = some x := ⟨_, List.getElem?_eq_getElem hd⟩
      obtain ⟨u, hu, hu2⟩ := hA.pl.cell hd
      have hu3 := hu2 x hx
      subst hu3
      have lg := hA.pl.lt
      have i1 : (d : Int) < (A.who.length : Int) := by omega
      have i2 : ¬ (d : Int) ≥ (A.who.length : Int) := by omega
      by_cases hxx : x = -1
      · subst hxx
        have e1 : plc (-1) = 1 := rfl
        rw [e1] at hu
        have c2 := heap_cell (j := 2) hA.obj rfl
        obtain ⟨⟨p1, p2, p3, p4, p5, p6⟩, p7⟩ := hA.apart
        cases hr : A.row with
        | nil =>
          have HE : Hid (backM A d = ((0, 0), ⟨A.who.set d 0, []⟩)) := by show _ = _; unfold backM; rw [if_pos ⟨by simpa using hx, by omega⟩, hr]; rfl
          have HL : Hid _ := layFree_any a ga gm gf cf n vr A d w hA hI hx
          have hrw := hA.rw
          obtain ⟨ra, ca, hvr⟩ := own_sl hrw
          rw [hr, List.length_nil] at hvr
          have HR : Hid (A.row = []) := hr
          rw [hr] at HL
          rw [HE.out]
          subst hvr
          unfold backE
          dsimp only
          clear hA hI HA HSame hrw hx hu2 HE hr
          go_enter Try.func20, Try.ntmps20
          go_wp2_with fail
          refine Calls.mono HL.out ?_
          rintro e w1 ⟨rfl, har⟩
          have HF : Hid (∃ n', n' ≤ n + 1 ∧ AR a ga gm gf cf (.slice ra 0 ca) n' ⟨A.who.set d 0, []⟩ w w1) := ⟨n, by omega, har⟩
          clear har HL
          go_wp2
          go_ret2
          exact ⟨rfl, HF.out⟩
        | cons p r =>
          have HE : Hid (backM A d = ((p.1, 0), ⟨A.who.set d p.1, r⟩)) := by show _ = _; unfold backM; rw [if_pos ⟨by simpa using hx, by omega⟩, hr]; rfl
          have hrw := hA.rw
          obtain ⟨g, ca, hvr, lgr, e0, e1'⟩ := row_at (j := 0) hrw (by rw [hr]; rfl)
          rw [hr, List.length_cons] at hvr
          subst hvr
          simp only [Nat.zero_mul] at e0
          have hp1 := hI.thr p (by rw [hr]; exact List.mem_cons_self)
          have hap := hI.apart p (by rw [hr]; exact List.mem_cons_self)
          rw [hr, List.length_cons] at hrw
          have HD : Hid _ := delW (rowCells (p :: r)) g r.length ca w hrw (rowCells_one _)
          have HR : Hid (A.row = p :: r) := hr
          have HX : Hid (A.who[d]? = some (-1) ∧ fnd p.1 A.who = none) := ⟨hx, hap⟩
          obtain ⟨q1, q2, q3, q4⟩ := p7 g rfl
          rw [HE.out]
          unfold backE
          dsimp only
          have k1 : ¬ (r.length : Int) + 1 = 0 := by omega
          have k2 : (0 : Int) < (r.length : Int) + 1 := by omega
          obtain ⟨t1, t8⟩ := hp1
          clear hA hI HSame hrw hx hu2 HE hr hap e1' p7
          generalize p.1 = t at *
          go_enter Try.func20, Try.ntmps20
          go_wp2_with fail
          refine Calls.mono HD.out ?_
          rintro e w1 ⟨rfl, hown, hk1, hb1, hs1⟩
          have ho1 := (hk1 a (fun e => q1 e.symm)).trans HA.out.obj
          have d1 := heap_cell (j := 2) ho1 rfl
          have f1 : w1.frozen? ⟨a, 2, none⟩ = false := by simp [World.frozen?, ho1]
          have la1 := heap_lt ho1
          obtain ⟨W2, hW2⟩ : ∃ W2, W2 = w1.setCell ⟨a, 2, none⟩ (.slice (some ⟨g, 0, none⟩) r.length ca) := ⟨_, rfl⟩
          have ks2 : ∀ k, k ≠ a → W2.heap[k]? = w1.heap[k]? := fun k hk => by rw [hW2]; exact Below.heap_setCell _ _ _ _ hk
          have ho2 : W2.heap[a]? = some (obV (.slice (some ⟨ga, 0, none⟩) A.who.length A.who.length) (.slice (some ⟨gf, 0, none⟩) (frs 0 A.who).length cf) (.slice (some ⟨g, 0, none⟩) r.length ca) (.map (some gm))) := by rw [hW2, set_atC ho1]; rfl
          have hgm2 : GM W2 gm n (fun t => fnd t A.who) := HA.out.gm.kept ((ks2 gm (fun e => p2 e.symm)).trans (hk1 gm (fun e => q3 e.symm)))
          have hb2 : Below 0 w W2 := by rw [hW2]; exact hb1.setCell (p := ⟨a, 2, none⟩) (Nat.zero_le _) _
          have hs2 : W2.heap.size = w.heap.size := by rw [hW2, World.size_setCell]; exact hs1
          obtain ⟨W3, hput, hgm3, hgr3, hs3⟩ := hgm2.put t1 t8 (by unfold maxLen; omega) d
          have ks3 : ∀ k, k < W2.heap.size → k ≠ gm → W3.heap[k]? = W2.heap[k]? := fun k h1 h2 => hgr3.block k h1 (fun e => h2 (Option.some.inj e))
          have d2 := heap_cell (j := 3) ho2 rfl
          have la2 := heap_lt ho2
          have ho3 := (ks3 a la2 p2).trans ho2
          have d3 := heap_cell (j := 0) ho3 rfl
          have la3 := heap_lt ho3
          have lga2 : ga < W2.heap.size := by omega
          have hpl3 := HA.out.pl.kept ((ks3 ga lga2 p4).trans ((ks2 ga (fun e => p1 e.symm)).trans (hk1 ga (fun e => q2 e.symm))))
          obtain ⟨u3, hu3, _⟩ := hpl3.cell hd
          have fz3 := hpl3.fz d
          have lpl3 := hpl3.lt
          have lt := HA.out.lt
          have HF : Hid (∃ n', n' ≤ n + 1 ∧ AR a ga gm gf cf (.slice (some ⟨g, 0, none⟩) (r.length + 1) ca) n' ⟨A.who.set d t, r⟩ w (W3.setCell ⟨ga, d, none⟩ (.int .u8 2))) := by
            have ks : ∀ k, k ≠ ga → (W3.setCell ⟨ga, d, none⟩ (.int .u8 2)).heap[k]? = W3.heap[k]? := fun k hk => Below.heap_setCell _ _ _ _ hk
            have kA : ∀ k, k < w.heap.size → k ≠ a → k ≠ gm → k ≠ ga → k ≠ g → (W3.setCell ⟨ga, d, none⟩ (.int .u8 2)).heap[k]? = w.heap[k]? := fun k h0 h1 h2 h3 h4 => by rw [ks k h3, ks3 k (by omega) h2, ks2 k h1, hk1 k h4]
            have hpt : plc t = 2 := by unfold plc; rw [if_neg (by omega), if_neg (by omega)]
            have ht0 : t ≠ 0 := by omega
            refine ⟨n + 1, Nat.le_refl _, .slice (some ⟨g, 0, none⟩) r.length ca, ⟨?_, ?_, ?_, ?_, ?_, ?_⟩, fun k hk hn => ?_, ?_, fun k hk => .inl hk⟩
            · rw [ks a p1, ho3, List.length_set, frs_set (by omega) ht0 HX.out.1]
            · have := pl_set (x := t) hpl3 hd
              rw [hpt] at this
              exact this
            · rw [frs_set (by omega) ht0 HX.out.1]
              exact own_same HA.out.fr (fun k hk => by cases hk; exact kA gf (lt gf (.inl (.inr (.inr (.inr rfl))))) (fun e => p3 e.symm) (fun e => p6 e.symm) (fun e => p5 e.symm) (fun e => q4 e.symm))
            · rw [List.length_set]; exact HA.out.room
            · refine own_same (show w1.ownsRow 0 103 2 _ _ (rowCells r) from hown) (fun k hk => ?_)
              cases hk
              rw [ks g q2, ks3 g (by omega) q3, ks2 g q1]
            · refine (hgm3.kept (ks gm (fun e => p4 e.symm))).congr (fun k h1 h8 => ?_)
              dsimp only
              by_cases hk : k = t
              · subst hk
                rw [if_pos rfl, fnd_at (List.getElem?_set_self hd)]
                intro j hj hjj
                rw [List.getElem?_set_ne (by omega)] at hjj
                exact fnd_none.1 HX.out.2 (List.mem_of_getElem? hjj)
              · rw [if_neg hk, fnd_set_other (by omega) hk HX.out.1]
            · exact kA k hk (fun e => hn (.inl (.inl e))) (fun e => hn (.inl (.inr (.inr (.inl e))))) (fun e => hn (.inl (.inr (.inl e)))) (fun e => hn (.inr (by rw [e]; rfl)))
            · exact (hb2.trans (grown_low hgr3 (fun _ _ => Nat.zero_le _) (Nat.zero_le _))).setCell (p := ⟨ga, d, none⟩) (Nat.zero_le _) _
          have HW2 : Hid (W2 = w1.setCell ⟨a, 2, none⟩ (.slice (some ⟨g, 0, none⟩) r.length ca)) := hW2
          clear hown hk1 hb1 hs1 ho1 ks2 ho2 hgm2 hb2 hgm3 hgr3 ks3 ho3 hpl3 HD HA HR HX hW2
          go_upto_region 8 with fail
          rw [← HW2.out]
          clear HW2 d1 f1
          go_wp2
          go_ret2
          exact ⟨rfl, HF.out⟩
      · have HE : Hid (backM A d = ((0, 120), A)) := by show _ = _; unfold backM; rw [if_neg (fun h => hxx (by simpa [hx] using h.1))]
        have hne : plc x ≠ 1 := fun e => hxx (place_of.1 e)
        rw [HE.out]
        unfold backE
        dsimp only
        clear hA hI HA hx hu2 HE hxx
        generalize plc x = y at *
        go_enter Try.func20, Try.ntmps20
        go_wp2
        all_goals
          go_ret2
          exact ⟨rfl, HSame.out⟩
    · have HE : Hid (backM A d = ((0, 120), A)) := by show _ = _; unfold backM; rw [if_neg (fun h => hd (by have := (List.getElem?_eq_some_iff.1 h.1).1; simpa using this))]
      have i2 : (d : Int) ≥ (A.who.length : Int) := by omega
      rw [HE.out]
      unfold backE
      dsimp only
      clear hA hI HA HE hd
      go_enter Try.func20, Try.ntmps20
      go_wp2
      all_goals
        go_ret2
        exact ⟨rfl, HSame.out⟩
end Go.Proofs.Ytaenoenchbfeiaa
