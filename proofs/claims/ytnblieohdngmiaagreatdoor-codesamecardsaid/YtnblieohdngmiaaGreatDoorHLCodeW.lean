/- LentCode's walk. -/
import Derived.Test.YtnblieohdngmiaaGreatDoorHLCode
namespace Go.Proofs.YtnblieohdngmiaaGreatDoor
open Go.RowKit

theorem keepLC {W W' : World} {g b k : Nat} {v0 v1 v2 : Value} (hb : Below W.heap.size W W')
    (h : W.cell? ⟨g, 1, none⟩ = some v0 ∧ W.cell? ⟨b, k, none⟩ = some v1 ∧ W.cell? ⟨b, k + 1, none⟩ = some v2 ∧ g < W.heap.size ∧ b < W.heap.size) :
    W'.cell? ⟨g, 1, none⟩ = some v0 ∧ W'.cell? ⟨b, k, none⟩ = some v1 ∧ W'.cell? ⟨b, k + 1, none⟩ = some v2 ∧ g < W'.heap.size ∧ b < W'.heap.size := by
  obtain ⟨a0, a1, a2, l0, l1⟩ := h
  exact ⟨(hb.cell (p := ⟨g, 1, none⟩) l0).trans a0, (hb.cell (p := ⟨b, k, none⟩) l1).trans a1, (hb.cell (p := ⟨b, k + 1, none⟩) l1).trans a2, Nat.lt_of_lt_of_le l0 hb.size, Nat.lt_of_lt_of_le l1 hb.size⟩
theorem cells3z {w0 : World} {b : Nat} (h : w0.heap[b]? = some ZC) : w0.cell? ⟨b, 0, none⟩ = some (.slice none 0 0) ∧ w0.cell? ⟨b, 1, none⟩ = some (.slice none 0 0) ∧ w0.cell? ⟨b, 2, none⟩ = some (.slice none 0 0) ∧ ∀ k, w0.frozen? ⟨b, k, none⟩ = false :=
  ⟨heap_cell h rfl, heap_cell h rfl, heap_cell h rfl, fun k => by simp [World.frozen?, h]⟩
theorem set3_cells {w : World} {b : Nat} (h : w.heap[b]? = some ZC) (u0 u1 u2 : Value) (k : Nat) : (((w.setCell ⟨b, 0, none⟩ u0).setCell ⟨b, 1, none⟩ u1).setCell ⟨b, 2, none⟩ u2).cell? ⟨b, k, none⟩ = [u0, u1, u2][k]? := by
  have h3 := set_atC (j := 2) (set_atC (j := 1) (set_atC (j := 0) h u0) u1) u2
  simp only [World.cell?, h3]
  simp
theorem lent_end {c : Cd} {vs : List Value} {w0 wz : World} {ga gb b1 b3 : Nat} (hR : wz.heap[w0.heap.size + 1]? = some ZC)
    (o1 : wz.ownsRow b1 76 1 (.slice (some ⟨ga, 0, none⟩) (c.consts.length + 2) (c.consts.length + 2)) (c.consts.length + 2) (wordCells c.consts ++ [.int .u64 77777771, .int .u64 77777772]))
    (o2 : wz.ownsRow (w0.heap.size + 2) 70 2 (.slice (some ⟨w0.heap.size + 2, 0, none⟩) (c.procs.length + 1) (c.procs.length + 1)) (c.procs.length + 1) (prcCells c.procs vs ++ [.int .i64 (-77), .slice none 0 0]))
    (o3 : wz.ownsRow b3 9 1 (.slice (some ⟨gb, 0, none⟩) (c.globals.length + 2) (c.globals.length + 2)) (c.globals.length + 2) (c.globals.map S ++ [S ownT, S ownT]))
    (hp : LP wz (w0.heap.size + 3) c.procs vs) (hE : Below w0.heap.size w0 wz) (l1 : w0.heap.size + 2 ≤ b1) (l3 : w0.heap.size + 2 ≤ b3) :
    (((wz.setCell ⟨w0.heap.size + 1, 0, none⟩ (.slice (some ⟨ga, 0, none⟩) c.consts.length (c.consts.length + 2))).setCell ⟨w0.heap.size + 1, 1, none⟩ (.slice (some ⟨w0.heap.size + 2, 0, none⟩) c.procs.length (c.procs.length + 1))).setCell ⟨w0.heap.size + 1, 2, none⟩ (.slice (some ⟨gb, 0, none⟩) c.globals.length (c.globals.length + 2))).cell? ⟨w0.heap.size + 1, 0, none⟩ = some (.slice (some ⟨ga, 0, none⟩) c.consts.length (c.consts.length + 2))
    ∧ (((wz.setCell ⟨w0.heap.size + 1, 0, none⟩ (.slice (some ⟨ga, 0, none⟩) c.consts.length (c.consts.length + 2))).setCell ⟨w0.heap.size + 1, 1, none⟩ (.slice (some ⟨w0.heap.size + 2, 0, none⟩) c.procs.length (c.procs.length + 1))).setCell ⟨w0.heap.size + 1, 2, none⟩ (.slice (some ⟨gb, 0, none⟩) c.globals.length (c.globals.length + 2))).cell? ⟨w0.heap.size + 1, 1, none⟩ = some (.slice (some ⟨w0.heap.size + 2, 0, none⟩) c.procs.length (c.procs.length + 1))
    ∧ (((wz.setCell ⟨w0.heap.size + 1, 0, none⟩ (.slice (some ⟨ga, 0, none⟩) c.consts.length (c.consts.length + 2))).setCell ⟨w0.heap.size + 1, 1, none⟩ (.slice (some ⟨w0.heap.size + 2, 0, none⟩) c.procs.length (c.procs.length + 1))).setCell ⟨w0.heap.size + 1, 2, none⟩ (.slice (some ⟨gb, 0, none⟩) c.globals.length (c.globals.length + 2))).cell? ⟨w0.heap.size + 1, 2, none⟩ = some (.slice (some ⟨gb, 0, none⟩) c.globals.length (c.globals.length + 2))
    ∧ LCd (((wz.setCell ⟨w0.heap.size + 1, 0, none⟩ (.slice (some ⟨ga, 0, none⟩) c.consts.length (c.consts.length + 2))).setCell ⟨w0.heap.size + 1, 1, none⟩ (.slice (some ⟨w0.heap.size + 2, 0, none⟩) c.procs.length (c.procs.length + 1))).setCell ⟨w0.heap.size + 1, 2, none⟩ (.slice (some ⟨gb, 0, none⟩) c.globals.length (c.globals.length + 2))) w0.heap.size (.agg #[.slice (some ⟨ga, 0, none⟩) c.consts.length (c.consts.length + 2), .slice (some ⟨w0.heap.size + 2, 0, none⟩) c.procs.length (c.procs.length + 1), .slice (some ⟨gb, 0, none⟩) c.globals.length (c.globals.length + 2)]) c
    ∧ Below w0.heap.size w0 (((wz.setCell ⟨w0.heap.size + 1, 0, none⟩ (.slice (some ⟨ga, 0, none⟩) c.consts.length (c.consts.length + 2))).setCell ⟨w0.heap.size + 1, 1, none⟩ (.slice (some ⟨w0.heap.size + 2, 0, none⟩) c.procs.length (c.procs.length + 1))).setCell ⟨w0.heap.size + 1, 2, none⟩ (.slice (some ⟨gb, 0, none⟩) c.globals.length (c.globals.length + 2))) := by
  have hs := fun (u0 u1 u2 : Value) (g : Nat) (hg : w0.heap.size + 2 ≤ g) => same3 wz (w0.heap.size + 1) u0 u1 u2 (g := g) (by omega)
  refine ⟨set3_cells hR _ _ _ 0, set3_cells hR _ _ _ 1, set3_cells hR _ _ _ 2, ⟨ga, w0.heap.size + 2, gb, vs, rfl, ?_, ?_, ?_, ?_⟩, below3 hE (by omega) _ _ _⟩
  · exact own_mono (own_same o1 (fun g hg => hs _ _ _ g (by have := (o1.lt g hg).1; omega))) (by omega)
  · exact own_mono (own_same o2 (fun g hg => hs _ _ _ g (by have := (o2.lt g hg).1; omega))) (by omega)
  · exact own_mono (own_same o3 (fun g hg => hs _ _ _ g (by have := (o3.lt g hg).1; omega))) (by omega)
  · exact (hp.kept (fun g h1 _ => hs _ _ _ g (by omega))).mono (by omega)
theorem keepLG {W W' : World} {g b k row : Nat} {v0 v1 v2 : Value} (hb : W.grownBy W' (some row)) (hg : g ≠ row) (hr : b ≠ row)
    (h : W.cell? ⟨g, 1, none⟩ = some v0 ∧ W.cell? ⟨b, k, none⟩ = some v1 ∧ W.cell? ⟨b, k + 1, none⟩ = some v2 ∧ g < W.heap.size ∧ b < W.heap.size) :
    W'.cell? ⟨g, 1, none⟩ = some v0 ∧ W'.cell? ⟨b, k, none⟩ = some v1 ∧ W'.cell? ⟨b, k + 1, none⟩ = some v2 ∧ g < W'.heap.size ∧ b < W'.heap.size := by
  obtain ⟨a0, a1, a2, l0, l1⟩ := h
  have e : ∀ x o, x < W.heap.size → x ≠ row → W'.cell? ⟨x, o, none⟩ = W.cell? ⟨x, o, none⟩ := fun x o hx hn => by
    simp only [World.cell?, hb.block x hx (fun e => hn (Option.some.inj e))]
  exact ⟨(e _ _ l0 hg).trans a0, (e _ _ l1 hr).trans a1, (e _ _ l1 hr).trans a2, Nat.lt_of_lt_of_le l0 hb.size, Nat.lt_of_lt_of_le l1 hb.size⟩
set_option maxRecDepth 100000 in
set_option maxHeartbeats 8000000 in
theorem lentCode_any (c : Cd) (v : Value) (w : World) (hv : CV w v c) (hz : c.consts.length ≤ 1000000000 ∧ c.procs.length ≤ 1000000000 ∧ c.globals.length ≤ 1000000000) (hk : ∀ p ∈ c.procs, p.code.length ≤ 1000000000) :
    Calls Tryz.prog 13 #[v] w fun e w' => ∃ v', e = .returned v' ∧ LCd w' w.heap.size v' c ∧ Below w.heap.size w w' := by
  obtain ⟨⟨r1, c1, r2, c2, r3, c3, rfl, hw1, hp1, hx1, _⟩, hl1⟩ := hv
  obtain ⟨z1, z2, z3⟩ := hz
  obtain ⟨i0, hi0, hz0, hz1, hz2⟩ := info_parts infoPr
  have HB2 : Hid (Below w.heap.size w ((w.alloc (CO (.slice r1 c.consts.length c1) (.slice r2 c.procs.length c2) (.slice r3 c.globals.length c3))).alloc ZC)) := ((Below.refl _ w).alloc (Nat.le_refl _) _).alloc (by simp) _
  have HQ0 : Hid (((w.alloc (CO (.slice r1 c.consts.length c1) (.slice r2 c.procs.length c2) (.slice r3 c.globals.length c3))).alloc ZC).heap[w.heap.size]? = some (CO (.slice r1 c.consts.length c1) (.slice r2 c.procs.length c2) (.slice r3 c.globals.length c3))) := (Below.heap_alloc _ _ _ (by simp)).trans (heap_alloc_new _ _)
  have HQ1 : Hid (((w.alloc (CO (.slice r1 c.consts.length c1) (.slice r2 c.procs.length c2) (.slice r3 c.globals.length c3))).alloc ZC).heap[w.heap.size + 1]? = some ZC) := by
    have := heap_alloc_new (w.alloc (CO (.slice r1 c.consts.length c1) (.slice r2 c.procs.length c2) (.slice r3 c.globals.length c3))) ZC
    rwa [World.size_alloc] at this
  have HS : Hid (((w.alloc (CO (.slice r1 c.consts.length c1) (.slice r2 c.procs.length c2) (.slice r3 c.globals.length c3))).alloc ZC).heap.size = w.heap.size + 2) := by show _ = _; rw [World.size_alloc, World.size_alloc]
  have HLw : Hid (∀ w5 : World, Below w.heap.size w w5 → Calls Tryz.prog 35 #[.slice r1 c.consts.length c1] w5 fun e w' => LentR 76 1 c.consts.length (wordCells c.consts ++ [.int .u64 77777771, .int .u64 77777772]) w5.heap.size e w' ∧ Below w5.heap.size w5 w') := fun w5 h5 => lentW_any _ _ _ w5 (hw1.below h5) z1
  have HLx : Hid (∀ w5 : World, Below w.heap.size w w5 → Calls Tryz.prog 36 #[.slice r3 c.globals.length c3] w5 fun e w' => LentR 9 1 c.globals.length (c.globals.map S ++ [S ownT, S ownT]) w5.heap.size e w' ∧ Below w5.heap.size w5 w') := fun w5 h5 => lentX_any _ _ _ w5 (hx1.below h5) z3
  obtain ⟨b, o, h1, h2⟩ := PR.at hp1
  have H1 : Hid (c.procs.length ≠ 0 → r2 = some ⟨b, o, none⟩) := h1
  have H2 : Hid (∀ (j : Nat) (x : Prc), c.procs[j]? = some x → b < w.heap.size ∧ w.cell? ⟨b, o + j * 2, none⟩ = some (.int .i64 x.params) ∧ (∃ rc cc, w.cell? ⟨b, o + j * 2 + 1, none⟩ = some (.slice rc x.code.length cc) ∧ NR w rc x.code) ∧ x.code.length ≤ maxLen) := h2
  have HK : Hid (∀ p ∈ c.procs, p.code.length ≤ 1000000000) := hk
  clear h1 h2 hw1 hp1 hx1 hl1 hk
  go_enter Tryz.func13, Tryz.ntmps13
  go_wp2_with (at_make; refine stop_of ?_)
  unfold Hid
  generalize ((w.alloc (CO (.slice r1 c.consts.length c1) (.slice r2 c.procs.length c2) (.slice r3 c.globals.length c3))).alloc ZC) = W2 at *
  have hws : W2.heap.size = w.heap.size + 2 := HS.out
  refine wpList_make_own _ rfl _ _ 26 rfl (w.heap.size + 2) 70 i0 (.agg #[.int .i64 0, .slice none 0 0]) 2 Tryz.underlying26 hi0 hz0 hz1 .i64 .i64 _ (c.procs.length + 1) rfl rfl (by first | rfl | omega) (by rw [hz2]; omega) (by unfold maxLen; omega) (by omega) ?_
  intro w0 hown0 hgrow0
  rw [hws] at hown0 ⊢
  have HB0 : Hid (Below (w.heap.size + 2) W2 w0) := (Below.refl _ W2).grown hgrow0 (by omega) (fun k hk => by cases hk)
  have HO0 : Hid (w0.ownsRow (w.heap.size + 2) 70 2 (.slice (some ⟨w.heap.size + 2, 0, none⟩) 0 (c.procs.length + 1)) 0 []) := hown0
  clear hown0 hgrow0 hws
  go_wp2
  go_loopw [3, 4] (fun x i wr => ∃ (j : Nat) (vs : List Value), x = .slice (some ⟨w.heap.size + 2, 0, none⟩) j (c.procs.length + 1) ∧ i = .int .i64 j ∧ j ≤ c.procs.length ∧ Hid (wr.ownsRow (w.heap.size + 2) 70 2 (.slice (some ⟨w.heap.size + 2, 0, none⟩) j (c.procs.length + 1)) j (prcCells (c.procs.take j) vs)) ∧ Hid (LP wr (w.heap.size + 3) (c.procs.take j) vs) ∧ Hid (Below (w.heap.size + 2) W2 wr)) (fun _ i _ => c.procs.length - (intOf i).toNat)
  case atStart => exact ⟨0, [], rfl, rfl, Nat.zero_le _, HO0, ⟨rfl, fun j p v h _ => by simp at h⟩, HB0⟩
  case round =>
    obtain ⟨j, vs, rfl, rfl, hj, HO, HP, HB⟩ := hrel
    have hs2 : w.heap.size + 2 ≤ wr.heap.size := by have := HB.out.size; have := HS.out; omega
    have hq0 : wr.heap[w.heap.size]? = some (CO (.slice r1 c.consts.length c1) (.slice r2 c.procs.length c2) (.slice r3 c.globals.length c3)) := (HB.out.block _ (by omega)).trans HQ0.out
    have y1 : wr.cell? ⟨w.heap.size, 1, none⟩ = some (.slice r2 c.procs.length c2) := heap_cell hq0 rfl
    have HBw : Hid (Below w.heap.size w wr) := HB2.out.trans (HB.out.mono (by omega))
    have y2 : w.heap.size < wr.heap.size := by omega
    have lt0 := (HO.out.lt (w.heap.size + 2) rfl).2
    by_cases hlt : j < c.procs.length
    · have i1 : (j : Int) < (c.procs.length : Int) := by omega
      have hra := H1.out (by omega)
      subst hra
      obtain ⟨x, hx⟩ : ∃ x, c.procs[j]? = some x := ⟨_, List.getElem?_eq_getElem hlt⟩
      obtain ⟨hb0, hc0, ⟨rc, cc, hc1, hnr⟩, _⟩ := H2.out j x hx
      have f0 := (HBw.out.cell (p := ⟨b, o + j * 2, none⟩) hb0).trans hc0
      have f1 := (HBw.out.cell (p := ⟨b, o + j * 2 + 1, none⟩) hb0).trans hc1
      have f2 : b < wr.heap.size := Nat.lt_of_lt_of_le hb0 HBw.out.size
      have hxl := HK.out x (List.mem_of_getElem? hx)
      have HLn : Hid (∀ w5 : World, Below w.heap.size w w5 → Calls Tryz.prog 34 #[.slice rc x.code.length cc] w5 fun e w' => LentR 83 2 x.code.length (insCells x.code ++ insM) w5.heap.size e w' ∧ Below w5.heap.size w5 w') := fun w5 h5 => lentN_any _ _ _ w5 (hnr.below h5) hxl
      have HX : Hid (c.procs[j]? = some x) := hx
      have hbn : b < w.heap.size := hb0
      clear hx hb0 hc0 hc1 hnr hq0
      have hmx : Tryz.prog.follows .mixedOrders = true := by kernel_rfl
      go_wp2_with fail
      go_region_held3 (fun wx => wx.cell? ⟨w.heap.size, 1, none⟩ = some (.slice (some ⟨b, o, none⟩) c.procs.length c2) ∧ wx.cell? ⟨b, o + j * 2, none⟩ = some (.int .i64 x.params) ∧ wx.cell? ⟨b, o + j * 2 + 1, none⟩ = some (.slice rc x.code.length cc)) (first | go_keep | exact ⟨hS1.1, hS1.2.1, hS1.2.2.1⟩ | exact ⟨hS2.1, hS2.2.1, hS2.2.2.1⟩)
        (first | (go_at_call 34; refine (HLn.out _ HBw.out.drew).mono ?_; rintro e w1 ⟨⟨g, rfl, ho⟩, hb1⟩; have hb1' : Below wr.heap.size wr w1 := (Below.refl _ wr).drew.trans hb1; have hS1 := keepLC hb1' ⟨y1, f0, f1, y2, f2⟩) | (refine step_append_fits _ rfl _ _ 26 rfl (w.heap.size + 2) 70 i0 2 Tryz.underlying26 hi0 hz1 (w.heap.size + 2) j (c.procs.length + 1) (prcCells (c.procs.take j) vs) rfl ((own_same HO.out (fun g hg => hb1'.block g (HO.out.lt g hg).2)).alloc _) ⟨w1.heap.size, 0, none⟩ 1 1 [.int .i64 x.params, .slice (some ⟨g, 0, none⟩) x.code.length (x.code.length + 2)] rfl rfl (fun j u hu => by rw [ad_add, Nat.zero_add]; exact new_cell _ #[.int .i64 x.params, .slice (some ⟨g, 0, none⟩) x.code.length (x.code.length + 2)] _ j u hu) (fun u hu => by simp at hu; rcases hu with rfl | rfl <;> rfl) (by omega) ?_; intro w2 hown2 hgr2; have hS2 := keepLG hgr2 (by omega) (by omega) (keepLC ((Below.refl _ w1).alloc (Nat.le_refl _) _) hS1)))
      all_goals
        have hk12 : ∀ g', w.heap.size + 3 ≤ g' → g' < w1.heap.size → w2.heap[g']? = w1.heap[g']? := fun g' h1 h2 => (hgr2.block g' (by rw [World.size_alloc]; omega) (fun e => by have := Option.some.inj e; omega)).trans (Below.heap_alloc _ _ _ h2)
        have e1 : c.procs.take (j + 1) = c.procs.take j ++ [x] := by rw [List.take_add_one, HX.out]; rfl
        have ho' : w1.ownsRow (w.heap.size + 3) 83 2 (.slice (some ⟨g, 0, none⟩) (x.code.length + 2) (x.code.length + 2)) (x.code.length + 2) (insCells x.code ++ insM) := own_mono ho lt0
        have hP1 : LP w1 (w.heap.size + 3) (c.procs.take j) vs := HP.out.kept (fun g' _ h2 => hb1'.block g' h2)
        have HP2 : Hid (LP w2 (w.heap.size + 3) (c.procs.take (j + 1)) (vs ++ [.slice (some ⟨g, 0, none⟩) x.code.length (x.code.length + 2)])) := by
          show LP _ _ _ _
          rw [e1]
          exact (hP1.snoc ho').kept hk12
        have HO2 : Hid (w2.ownsRow (w.heap.size + 2) 70 2 (.slice (some ⟨w.heap.size + 2, 0, none⟩) (j + 1) (c.procs.length + 1)) (j + 1) (prcCells (c.procs.take (j + 1)) (vs ++ [.slice (some ⟨g, 0, none⟩) x.code.length (x.code.length + 2)]))) := by
          show World.ownsRow ..
          rw [e1, prcCells_snoc _ _ _ _ HP.out.len]
          exact hown2
        have HBf : Hid (Below (w.heap.size + 2) W2 w2) := HB.out.trans ((hb1'.mono hs2).trans (((Below.refl _ w1).alloc (by have := hb1'.size; omega) _).trans (grown_below hgr2 (Nat.le_refl _) (by rw [World.size_alloc]; have := hb1'.size; omega))))
        clear hS1 hS2 hown2 hgr2 ho ho' hP1 hk12 e1 hb1 hb1'
        go_wp2_with fail
        go_roundw
        case rel => exact ⟨j + 1, _, rfl, by go_num, by omega, HO2, HP2, HBf⟩
        case measure => simp [intOf]; omega
    · have i1 : ¬ (j : Int) < (c.procs.length : Int) := by omega
      have hje : j = c.procs.length := by omega
      subst hje
      have HO' : Hid (wr.ownsRow (w.heap.size + 2) 70 2 (.slice (some ⟨w.heap.size + 2, 0, none⟩) c.procs.length (c.procs.length + 1)) c.procs.length (prcCells c.procs vs)) := by
        have := HO.out; rwa [List.take_length] at this
      have HP' : Hid (LP wr (w.heap.size + 3) c.procs vs) := by
        have := HP.out; rwa [List.take_length] at this
      clear HO HP hlt hj
      go_wp2_with (at_builtin; refine stop_of ?_)
      unfold Hid
      refine wpList_append_fits _ rfl _ _ 26 rfl (w.heap.size + 2) 70 i0 2 Tryz.underlying26 hi0 hz1 (w.heap.size + 2) c.procs.length (c.procs.length + 1) (prcCells c.procs vs) rfl (HO'.out.alloc _) ⟨wr.heap.size, 0, none⟩ 1 1 [.int .i64 (-77), .slice none 0 0] rfl rfl (fun j u hu => by rw [ad_add, Nat.zero_add]; exact new_cell _ #[.int .i64 (-77), .slice none 0 0] _ j u hu) (fun u hu => by simp at hu; rcases hu with rfl | rfl <;> rfl) (Nat.le_refl _) ?_
      intro w2 hown2 hgr2
      have HO2 : Hid (w2.ownsRow (w.heap.size + 2) 70 2 (.slice (some ⟨w.heap.size + 2, 0, none⟩) (c.procs.length + 1) (c.procs.length + 1)) (c.procs.length + 1) (prcCells c.procs vs ++ [.int .i64 (-77), .slice none 0 0])) := hown2
      have HP2 : Hid (LP w2 (w.heap.size + 3) c.procs vs) := HP'.out.kept (fun g' h1 h2 => (hgr2.block g' (by rw [World.size_alloc]; omega) (fun e => by have := Option.some.inj e; omega)).trans (Below.heap_alloc _ _ _ h2))
      have HB3 : Hid (Below (w.heap.size + 2) W2 w2) := HB.out.trans (((Below.refl _ wr).alloc (by omega) _).trans (grown_below hgr2 (Nat.le_refl _) (by rw [World.size_alloc]; omega)))
      have HB4 : Hid (Below w.heap.size w w2) := HB2.out.trans (HB3.out.mono (by omega))
      have hs3 : w.heap.size + 2 ≤ w2.heap.size := by have := HB3.out.size; have := HS.out; omega
      have HR0 : Hid (w2.heap[w.heap.size]? = some (CO (.slice r1 c.consts.length c1) (.slice r2 c.procs.length c2) (.slice r3 c.globals.length c3))) := (HB3.out.block _ (by omega)).trans HQ0.out
      have HR1 : Hid (w2.heap[w.heap.size + 1]? = some ZC) := (HB3.out.block _ (by omega)).trans HQ1.out
      have x0 : w2.cell? ⟨w.heap.size, 0, none⟩ = some (.slice r1 c.consts.length c1) := heap_cell HR0.out rfl
      have x1 : w2.cell? ⟨w.heap.size, 1, none⟩ = some (.slice r2 c.procs.length c2) := heap_cell HR0.out rfl
      have x2 : w2.cell? ⟨w.heap.size, 2, none⟩ = some (.slice r3 c.globals.length c3) := heap_cell HR0.out rfl
      have HW2 : Hid (∀ w5 : World, Below w2.heap.size w2 w5 → (w5.cell? ⟨w.heap.size, 0, none⟩ = some (.slice r1 c.consts.length c1) ∧ w5.cell? ⟨w.heap.size, 1, none⟩ = some (.slice r2 c.procs.length c2) ∧ w5.cell? ⟨w.heap.size, 2, none⟩ = some (.slice r3 c.globals.length c3)) ∧ w5.heap[w.heap.size + 1]? = some ZC ∧ Below w.heap.size w w5) := fun w5 h5 => by
        have hr := (h5.block _ (by omega)).trans HR0.out
        exact ⟨⟨heap_cell hr rfl, heap_cell hr rfl, heap_cell hr rfl⟩, (h5.block _ (by omega)).trans HR1.out, HB4.out.trans (h5.mono HB4.out.size)⟩
      have hmx : Tryz.prog.follows .mixedOrders = true := by kernel_rfl
      have i9 : (c.procs.length : Int) ≤ (c.procs.length : Int) + 1 := by omega
      clear hown2 hgr2 HO' HP' HB hs2 lt0 y1 y2 HBw i1
      go_wp2_with fail
      go_region_held3 (fun wx => wx.cell? ⟨w.heap.size, 0, none⟩ = some (.slice r1 c.consts.length c1) ∧ wx.cell? ⟨w.heap.size, 1, none⟩ = some (.slice r2 c.procs.length c2) ∧ wx.cell? ⟨w.heap.size, 2, none⟩ = some (.slice r3 c.globals.length c3)) (first | go_keep | exact hSb | exact hSa)
        (first | (go_at_call 35; (first | (refine (HLw.out _ (HB4.out.trans (hbb'.mono HB4.out.size))).mono ?_; rintro e wa ⟨⟨ga, rfl, hoa⟩, hba⟩; have hba' : Below w2.heap.size w2 wa := hbb'.trans (hba.mono hbb'.size)) | (refine (HLw.out _ HB4.out.drew).mono ?_; rintro e wa ⟨⟨ga, rfl, hoa⟩, hba⟩; have hba' : Below w2.heap.size w2 wa := (Below.refl _ w2).drew.trans hba)); obtain ⟨hSa, hRa, hEa⟩ := HW2.out wa hba'; obtain ⟨z0, z1, z2, zf⟩ := cells3z hRa; have zf0 := zf 0; have zf1 := zf 1; have zf2 := zf 2)
               | (go_at_call 36; (first | (refine (HLx.out _ (HB4.out.trans (hba'.mono HB4.out.size))).mono ?_; rintro e wb ⟨⟨gb, rfl, hob⟩, hbb⟩; have hbb' : Below w2.heap.size w2 wb := hba'.trans (hbb.mono hba'.size)) | (refine (HLx.out _ HB4.out.drew).mono ?_; rintro e wb ⟨⟨gb, rfl, hob⟩, hbb⟩; have hbb' : Below w2.heap.size w2 wb := (Below.refl _ w2).drew.trans hbb)); obtain ⟨hSb, hRb, hEb⟩ := HW2.out wb hbb'; obtain ⟨z0, z1, z2, zf⟩ := cells3z hRb; have zf0 := zf 0; have zf1 := zf 1; have zf2 := zf 2))
      all_goals first
        | (have fin := lent_end (c := c) (vs := vs) (w0 := w) (wz := wb) (ga := ga) (gb := gb) (b1 := _) (b3 := _) hRb (own_same hoa (fun g hg => hbb.block g (hoa.lt g hg).2)) (own_same HO2.out (fun g hg => hbb'.block g (HO2.out.lt g hg).2)) hob (HP2.out.kept (fun g' _ h2 => hbb'.block g' h2)) hEb (by first | exact hs3 | exact Nat.le_trans hs3 hba'.size | exact Nat.le_trans hs3 hbb'.size) (by first | exact hs3 | exact Nat.le_trans hs3 hba'.size | exact Nat.le_trans hs3 hbb'.size)
           obtain ⟨q0, q1, q2, hL, hB⟩ := fin
           have HL : Hid _ := hL
           have HBe : Hid _ := hB
           clear hL hB hSa hSb hoa hob hba hbb hba' hbb' hRa hRb hEa hEb zf zf0 zf1 zf2 z0 z1 z2
           generalize (((wb.setCell ⟨w.heap.size + 1, 0, none⟩ (.slice (some ⟨ga, 0, none⟩) c.consts.length (c.consts.length + 2))).setCell ⟨w.heap.size + 1, 1, none⟩ (.slice (some ⟨w.heap.size + 2, 0, none⟩) c.procs.length (c.procs.length + 1))).setCell ⟨w.heap.size + 1, 2, none⟩ (.slice (some ⟨gb, 0, none⟩) c.globals.length (c.globals.length + 2))) = wE at *
           go_wp2
           exact bodyPost_ret (v := .agg #[.slice (some ⟨ga, 0, none⟩) c.consts.length (c.consts.length + 2), .slice (some ⟨w.heap.size + 2, 0, none⟩) c.procs.length (c.procs.length + 1), .slice (some ⟨gb, 0, none⟩) c.globals.length (c.globals.length + 2)]) (by simp [results, Tryz.results13, go_sem, q0, q1, q2]) rfl ⟨_, rfl, HL.out, HBe.out⟩)
        | (have fin := lent_end (c := c) (vs := vs) (w0 := w) (wz := wa) (ga := ga) (gb := gb) (b1 := _) (b3 := _) hRa hoa (own_same HO2.out (fun g hg => hba'.block g (HO2.out.lt g hg).2)) (own_same hob (fun g hg => hba.block g (hob.lt g hg).2)) (HP2.out.kept (fun g' _ h2 => hba'.block g' h2)) hEa (by first | exact hs3 | exact Nat.le_trans hs3 hba'.size | exact Nat.le_trans hs3 hbb'.size) (by first | exact hs3 | exact Nat.le_trans hs3 hba'.size | exact Nat.le_trans hs3 hbb'.size)
           obtain ⟨q0, q1, q2, hL, hB⟩ := fin
           have HL : Hid _ := hL
           have HBe : Hid _ := hB
           clear hL hB hSa hSb hoa hob hba hbb hba' hbb' hRa hRb hEa hEb zf zf0 zf1 zf2 z0 z1 z2
           generalize (((wa.setCell ⟨w.heap.size + 1, 0, none⟩ (.slice (some ⟨ga, 0, none⟩) c.consts.length (c.consts.length + 2))).setCell ⟨w.heap.size + 1, 1, none⟩ (.slice (some ⟨w.heap.size + 2, 0, none⟩) c.procs.length (c.procs.length + 1))).setCell ⟨w.heap.size + 1, 2, none⟩ (.slice (some ⟨gb, 0, none⟩) c.globals.length (c.globals.length + 2))) = wE at *
           go_wp2
           exact bodyPost_ret (v := .agg #[.slice (some ⟨ga, 0, none⟩) c.consts.length (c.consts.length + 2), .slice (some ⟨w.heap.size + 2, 0, none⟩) c.procs.length (c.procs.length + 1), .slice (some ⟨gb, 0, none⟩) c.globals.length (c.globals.length + 2)]) (by simp [results, Tryz.results13, go_sem, q0, q1, q2]) rfl ⟨_, rfl, HL.out, HBe.out⟩)
end Go.Proofs.YtnblieohdngmiaaGreatDoor
