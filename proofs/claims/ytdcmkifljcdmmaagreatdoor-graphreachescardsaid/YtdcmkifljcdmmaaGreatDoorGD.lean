/- The document's renamed.; The document's Form. -/
import Derived.Test.YtdcmkifljcdmmaaGreatDoorHHReach
/- The document's renamed. -/
namespace Go.Proofs.YtdcmkifljcdmmaaGreatDoor
open Go.RowKit

set_option maxRecDepth 100000 in
set_option maxHeartbeats 4000000 in
theorem renamed_any (row : List Nat) (x : Int) (n g : Nat) (w : World) (hx : Rng x) (hf : fitsW n x = true) (hD : DR w 3 g n (fun k u => u = .int .i64 (plcM row k : Nat))) :
    Calls Tryz.prog 68 #[.int .u64 x, .slice (some ⟨g, 0, none⟩) n n] w fun e w' => e = .returned (.int .u64 (movedM row x)) ∧ w' = w := by
  have HCl : Hid (Calls Tryz.prog 69 #[.int .u64 x] w fun e w' => e = .returned (.tuple #[.int .i64 (cellV x), .bool (refB x)]) ∧ w' = w) := by
    have := refCell_any x w hx
    rw [cellN_is, isRef_is] at this
    exact this
  cases hrf : refB x
  · rw [hrf] at HCl
    have HM : Hid (movedM row x = x) := by show _ = _; unfold movedM; rw [refs_none hrf]
    clear hrf hf hD
    go_enter Tryz.func68, Tryz.ntmps68
    go_wp2_with fail
    refine Calls.mono HCl.out ?_
    rintro e w5 ⟨rfl, rfl⟩
    clear HCl
    go_wp2
    go_ret
    exact ⟨by rw [HM.out]; rfl, rfl⟩
  · rw [hrf] at HCl
    obtain ⟨c, hc1, hc2, hc3⟩ := refs_some hf hrf
    rw [hc3] at HCl
    have k2 : (c : Int) < (n : Int) := by omega
    obtain ⟨u, hu, hu2⟩ := hD.cell hc2
    rw [hu2] at hu
    have lg := hD.lt
    have HM : Hid (movedM row x = mkW 8 (plcM row c)) := by show _ = _; unfold movedM; rw [hc1]
    have HRf : Hid _ := refRef_any (plcM row c : Nat) w
    generalize plcM row c = pc at *
    clear hrf hf hD hc1 hc3 hu2
    go_enter Tryz.func68, Tryz.ntmps68
    go_wp2_with fail
    refine Calls.mono HCl.out ?_
    rintro e w5 ⟨rfl, rfl⟩
    clear HCl
    go_wp2_with fail
    refine Calls.mono HRf.out ?_
    rintro e w6 ⟨rfl, rfl⟩
    go_wp2
    go_ret
    exact ⟨by rw [HM.out]; rfl, rfl⟩
end Go.Proofs.YtdcmkifljcdmmaaGreatDoor

/- The document's Form. -/
namespace Go.Proofs.YtdcmkifljcdmmaaGreatDoor
open Go.RowKit

theorem clCells_snoc : ∀ (l : List Cl) (x : Cl), clCells (l ++ [x]) = clCells l ++ [.int .u8 x.k, .int .u8 x.c, .int .u64 x.a, .int .u64 x.b]
  | [], _ => rfl
  | y :: l, x => by
    show clCells (y :: (l ++ [x])) = _
    simp only [clCells, clCells_snoc l x, List.cons_append]
/-- How Form stands. -/
structure FS (w0 W : World) (gm : Nat) (r : Option Addr) (c : Nat) (l : List Nat) (n : Nat) (vo : Value) (O : List Cl) (vw : Value) (D : List Int) : Prop where
  plc : DR W 3 gm n (fun k u => u = .int .i64 (plcM l k : Nat))
  row : W.ownsRow w0.heap.size 3 1 (.slice r l.length c) l.length (l.map (fun (k : Nat) => Value.int .i64 (k : Int)))
  out : W.ownsRow w0.heap.size 55 4 vo O.length (clCells O)
  wds : W.ownsRow w0.heap.size 53 1 vw D.length (D.map (Value.int .u64))
  bel : Below w0.heap.size w0 W
theorem FS.below {w0 W W' : World} {gm : Nat} {r : Option Addr} {c : Nat} {l : List Nat} {n : Nat} {vo : Value} {O : List Cl} {vw : Value} {D : List Int} (h : FS w0 W gm r c l n vo O vw D) (hb : Below W.heap.size W W') : FS w0 W' gm r c l n vo O vw D :=
  ⟨h.plc.kept (hb.block _ h.plc.lt), own_same h.row (fun g hg => hb.block g (h.row.lt g hg).2), own_same h.out (fun g hg => hb.block g (h.out.lt g hg).2), own_same h.wds (fun g hg => hb.block g (h.wds.lt g hg).2), h.bel.trans (hb.mono h.bel.size)⟩
theorem FS.cell {w0 W W1 : World} {gm : Nat} {r : Option Addr} {c : Nat} {l : List Nat} {n : Nat} {vo vo' : Value} {O : List Cl} {vw : Value} {D : List Int} (h : FS w0 W gm r c l n vo O vw D) (x : Cl)
    (hgr : W.grownBy W1 vo.ownBlock) (hown : W1.ownsRow w0.heap.size 55 4 vo' (O.length + 1) (clCells O ++ [.int .u8 x.k, .int .u8 x.c, .int .u64 x.a, .int .u64 x.b])) : FS w0 W1 gm r c l n vo' (O ++ [x]) vw D := by
  have hk : ∀ k, k < W.heap.size → vo.ownBlock ≠ some k → W1.heap[k]? = W.heap[k]? := fun k hk h2 => hgr.block k hk (fun e => h2 e.symm)
  refine ⟨h.plc.kept (hk gm h.plc.lt (dr_ne h.plc h.out (by decide))), own_same h.row (fun k hk' => hk k (h.row.lt k hk').2 (own_ne h.row h.out (by decide) k hk')), ?_, own_same h.wds (fun k hk' => hk k (h.wds.lt k hk').2 (own_ne h.wds h.out (by decide) k hk')), ?_⟩
  · rw [List.length_append, clCells_snoc]; exact hown
  · exact h.bel.trans ((Below.refl _ _).grown hgr h.bel.size (fun k hk' => (h.out.lt k hk').1))
theorem FS.word {w0 W W1 : World} {gm : Nat} {r : Option Addr} {c : Nat} {l : List Nat} {n : Nat} {vo : Value} {O : List Cl} {vw vw' : Value} {D : List Int} (h : FS w0 W gm r c l n vo O vw D) (x : Int)
    (hgr : W.grownBy W1 vw.ownBlock) (hown : W1.ownsRow w0.heap.size 53 1 vw' (D.length + 1) (D.map (Value.int .u64) ++ [.int .u64 x])) : FS w0 W1 gm r c l n vo O vw' (D ++ [x]) := by
  have hk : ∀ k, k < W.heap.size → vw.ownBlock ≠ some k → W1.heap[k]? = W.heap[k]? := fun k hk h2 => hgr.block k hk (fun e => h2 e.symm)
  refine ⟨h.plc.kept (hk gm h.plc.lt (dr_ne h.plc h.wds (by decide))), own_same h.row (fun k hk' => hk k (h.row.lt k hk').2 (own_ne h.row h.wds (by decide) k hk')), own_same h.out (fun k hk' => hk k (h.out.lt k hk').2 (own_ne h.out h.wds (by decide) k hk')), ?_, ?_⟩
  · rw [List.length_append, List.map_append]; exact hown
  · exact h.bel.trans ((Below.refl _ _).grown hgr h.bel.size (fun k hk' => (h.wds.lt k hk').1))
/-- What the document's Form tells. -/
def dFormH (h : List Cl) (l : List Nat) : List Cl := l.map (fun c => formedM l (h.getD c ⟨0, 0, 0, 0⟩))
def DFormR (h : List Cl) (l : List Nat) (roots : List Int) (e : Ending) (w' : World) : Prop := ∃ r1 c1 r2 c2, e = .returned (.tuple #[.slice r1 l.length c1, .slice r2 roots.length c2]) ∧ HX w' r1 (dFormH h l) ∧ RX (Value.int .u64) w' r2 (roots.map (movedM l))
theorem own_hx {w : World} {base n : Nat} {ra : Option Addr} {c : Nat} {l : List Cl} (h : w.ownsRow base 55 4 (.slice ra n c) n (clCells l)) (hn : l.length = n) : HX w ra l := by
  rcases h.2 with ⟨_, h0⟩ | ⟨g, cap, cur, hv, _⟩
  · exact ⟨0, 0, .inl (by omega), fun j x hx => by have := (List.getElem?_eq_some_iff.1 hx).1; omega⟩
  · cases hv
    obtain ⟨cs, hc⟩ := own_blk h rfl
    refine ⟨g, 0, .inr rfl, fun j x hx => ⟨heap_lt hc, ?_⟩⟩
    obtain ⟨q0, q1, q2, q3⟩ := clCells_at l j x hx
    simp only [Nat.zero_add]
    exact ⟨own_cell h q0, own_cell h q1, own_cell h q2, own_cell h q3⟩
theorem own_wx {w : World} {base n : Nat} {ra : Option Addr} {c : Nat} {l : List Int} (h : w.ownsRow base 53 1 (.slice ra n c) n (l.map (Value.int .u64))) (hn : l.length = n) : RX (Value.int .u64) w ra l := by
  rcases h.2 with ⟨_, h0⟩ | ⟨g, cap, cur, hv, _⟩
  · exact ⟨0, 0, .inl (by omega), fun j x hx => by have := (List.getElem?_eq_some_iff.1 hx).1; omega⟩
  · cases hv
    obtain ⟨cs, hc⟩ := own_blk h rfl
    exact ⟨g, 0, .inr rfl, fun j x hx => ⟨heap_lt hc, by rw [Nat.zero_add]; exact own_cell h (by rw [List.getElem?_map, hx]; rfl)⟩⟩
theorem dform_more {h : List Cl} {l : List Nat} {k c : Nat} {x : Cl} (hc : l[k]? = some c) (hx : h[c]? = some x) : (dFormH h l).take (k + 1) = (dFormH h l).take k ++ [formedM l x] := by
  rw [List.take_add_one]
  unfold dFormH
  rw [List.getElem?_map, hc, Option.map_some, List.getD_eq_getElem?_getD, hx]
  rfl
theorem moved_more {l : List Nat} {roots : List Int} {k : Nat} {x : Int} (hx : roots[k]? = some x) : (roots.map (movedM l)).take (k + 1) = (roots.map (movedM l)).take k ++ [movedM l x] := by
  rw [List.take_add_one, List.getElem?_map, hx]
  rfl
set_option maxRecDepth 100000 in
set_option maxHeartbeats 16000000 in
theorem dForm_any (h : List Cl) (roots : List Int) (ra rb : Option Addr) (ca cb : Nat) (w : World) (hn : h.length ≤ 1000000) (hr : roots.length ≤ 1000000) (hH : HR w ra h) (hR : WR w rb roots) (hk : OkH h) (hf : ∀ x ∈ roots, fitsW h.length x = true ∧ Rng x) :
    Calls Tryz.prog 30 #[.slice ra h.length ca, .slice rb roots.length cb] w fun e w' => DFormR h (orderM h roots) roots e w' ∧ Below w.heap.size w w' := by
  have HH : Hid (HR w ra h) := hH
  have HR' : Hid (WR w rb roots) := hR
  have HK : Hid (OkH h) := hk
  have HF : Hid (∀ x ∈ roots, fitsW h.length x = true ∧ Rng x) := hf
  have HLt : Hid (∀ c ∈ orderM h roots, c < h.length) := ordM_lt _ 0 [] roots (fun c hc => by cases hc)
  have hlen : (orderM h roots).length ≤ h.length := order_len hk hf
  obtain ⟨i0, hi0, hz0, hz1, hz2⟩ := info_parts infoI
  obtain ⟨i1, hi1, hy0, hy1, hy2⟩ := info_parts infoCl
  obtain ⟨i2, hi2, hx0, hx1, hx2⟩ := info_parts infoWd
  have HC : Hid _ := dOrder_any h roots ra rb ca cb w hn hr hH hR hk hf
  clear hH hR hk hf
  go_enter Tryz.func30, Tryz.ntmps30
  go_wp2_with fail
  refine Calls.mono HC.out ?_
  rintro e w3 ⟨⟨r, c, rfl, hown3⟩, hb3⟩
  generalize horder : orderM h roots = l at *
  have HB3 : Hid (Below w.heap.size w w3) := hb3
  have HO3 : Hid (w3.ownsRow w.heap.size 3 1 (.slice r l.length c) l.length (l.map (fun (k : Nat) => Value.int .i64 (k : Int)))) := hown3
  have HLo : Hid (orderM h roots = l) := horder
  clear HC hown3 hb3 horder
  go_wp2_with (at_make; refine stop_of ?_)
  unfold Hid
  refine wpList_make_full _ rfl _ _ 59 rfl w3.heap.size 3 i0 (.int .i64 0) 1 Tryz.underlying59 hi0 hz0 hz1 .i64 .i64 _ _ h.length rfl rfl rfl rfl (by rw [hz2]; omega) (by unfold maxLen; omega) (Nat.le_refl _) ?_
  intro w2 hown hgr
  have hb2 : Below w3.heap.size w3 w2 := grown_low hgr (fun g hg => by cases hg) (Nat.le_refl _)
  have HX : Hid (DR w2 3 w3.heap.size h.length (fun k u => u = .int .i64 (plcM (l.take 0) k : Nat)) ∧ w2.ownsRow w.heap.size 3 1 (.slice r l.length c) l.length (l.map (fun (k : Nat) => Value.int .i64 (k : Int))) ∧ Below w.heap.size w w2) := ⟨(row_made hown (made_zero _)).mono (fun k u _ hu => by rw [hu]; rfl), own_same HO3.out (fun g hg => hb2.block g (HO3.out.lt g hg).2), HB3.out.trans (hb2.mono HB3.out.size)⟩
  have HG : Hid (∀ g, (Value.slice r l.length c).ownBlock = some g → g ≠ w3.heap.size) := fun g hg e => by have := (HO3.out.lt g hg).2; omega
  have hwg : w.heap.size ≤ w3.heap.size := HB3.out.size
  clear hown hgr hb2 HO3 HB3
  generalize w3.heap.size = gm at *
  go_wp2_with fail
  go_loopw [8] (fun i wr => ∃ k : Nat, i = .int .i64 k ∧ k ≤ l.length ∧ Hid (DR wr 3 gm h.length (fun j u => u = .int .i64 (plcM (l.take k) j : Nat)) ∧ wr.ownsRow w.heap.size 3 1 (.slice r l.length c) l.length (l.map (fun (k : Nat) => Value.int .i64 (k : Int))) ∧ Below w.heap.size w wr)) (fun i _ => l.length - (intOf i).toNat)
  case atStart => exact ⟨0, rfl, Nat.zero_le _, HX⟩
  case round =>
    clear HX
    obtain ⟨k, rfl, hk, HX⟩ := hrel
    by_cases hkl : k < l.length
    · have k1 : (k : Int) < (l.length : Int) := by omega
      obtain ⟨x, hx⟩ : ∃ x, l[k]? = some x := ⟨_, List.getElem?_eq_getElem hkl⟩
      obtain ⟨gl, rfl, d1, lg⟩ := int_at HX.out.2.1 hx
      have hxl := HLt.out x (List.mem_of_getElem? hx)
      have k2 : (x : Int) < (h.length : Int) := by omega
      obtain ⟨u, hu, _⟩ := HX.out.1.cell hxl
      have fz := HX.out.1.fz x
      have lm := HX.out.1.lt
      have HX2 : Hid (DR (wr.setCell ⟨gm, x, none⟩ (.int .i64 k)) 3 gm h.length (fun j u => u = .int .i64 (plcM (l.take (k + 1)) j : Nat)) ∧ (wr.setCell ⟨gm, x, none⟩ (.int .i64 k)).ownsRow w.heap.size 3 1 (.slice (some ⟨gl, 0, none⟩) l.length c) l.length (l.map (fun (k : Nat) => Value.int .i64 (k : Int))) ∧ Below w.heap.size w (wr.setCell ⟨gm, x, none⟩ (.int .i64 k))) := by
        refine ⟨HX.out.1.set (fun j u hj hu => ?_) ?_, own_same HX.out.2.1 (fun k hk => Below.heap_setCell _ _ _ _ (HG.out k hk)), HX.out.2.2.setCell (p := ⟨gm, x, none⟩) hwg _⟩
        · rw [hu, take_more hx, plc_snoc, if_neg (fun e => hj e.symm)]
        · rw [take_more hx, plc_snoc, if_pos rfl, List.length_take, Nat.min_eq_left (by omega)]
      have HXx : Hid (l[k]? = some x) := hx
      clear hx HX
      go_wp2
      go_roundw
      case rel => exact ⟨k + 1, by go_num, by omega, HX2⟩
      case measure => simp [intOf]; omega
    · have k1 : ¬ (k : Int) < (l.length : Int) := by omega
      have HFS : Hid (FS w wr gm r c l h.length (.slice none 0 0) [] (.slice none 0 0) []) := by
        obtain ⟨h1, h2, h3⟩ := HX.out
        rw [List.take_of_length_le (by omega)] at h1
        exact ⟨h1, h2, World.ownsRow_nil _ _ _ _, World.ownsRow_nil _ _ _ _, h3⟩
      clear HX
      go_wp2_with fail
      go_loopw [9, 10, 11, 12] (fun vo i _ _ wr => ∃ (k : Nat) (O : List Cl) (ro : Option Addr) (co : Nat), i = .int .i64 k ∧ vo = .slice ro k co ∧ k ≤ l.length ∧ Hid (O = (dFormH h l).take k ∧ O.length = k) ∧ Hid (FS w wr gm r c l h.length (.slice ro k co) O (.slice none 0 0) [])) (fun _ i _ _ _ => l.length - (intOf i).toNat)
      case atStart => exact ⟨0, [], none, 0, rfl, rfl, Nat.zero_le _, ⟨rfl, rfl⟩, HFS⟩
      case round =>
        clear HFS
        obtain ⟨k, O, ro, co, rfl, rfl, hk2, HOk, HS⟩ := hrel
        by_cases hkl2 : k < l.length
        · have k3 : (k : Int) < (l.length : Int) := by omega
          obtain ⟨q, hq⟩ : ∃ q, l[k]? = some q := ⟨_, List.getElem?_eq_getElem hkl2⟩
          obtain ⟨gl, rfl, d1, lg⟩ := int_at HS.out.row hq
          have hql := HLt.out q (List.mem_of_getElem? hq)
          have k2 : (q : Int) < (h.length : Int) := by omega
          obtain ⟨x, hx⟩ : ∃ x, h[q]? = some x := ⟨_, List.getElem?_eq_getElem hql⟩
          obtain ⟨bb, o, hor, hcs⟩ := HH.out.below HS.out.bel
          have hra : ra = some ⟨bb, o, none⟩ := hor.resolve_left (by omega)
          subst hra
          obtain ⟨g1, ⟨y0, y1, y2, y3⟩, hokk⟩ := hcs q x hx
          have hO2 : (dFormH h l).take (k + 1) = O ++ [formedM l x] := by rw [dform_more hq hx, HOk.out.1]
          have HO2 : Hid ((dFormH h l).take (k + 1) = O ++ [formedM l x]) := hO2
          have HKx : Hid (x.k ≠ 0 → (fitsW h.length x.a = true ∧ Rng x.a) ∧ fitsW h.length x.b = true ∧ Rng x.b) := HK.out x (List.mem_of_getElem? hx)
          clear hcs hor hq hx hokk hO2
          go_upto_region 12 with fail
          go_upto_region 13 with fail
          have nw1 : ((wr.alloc (.cells #[.int .u8 x.k, .int .u8 x.c, .int .u64 x.a, .int .u64 x.b] 55)).alloc (.cells #[.int .u8 x.k, .int .u8 0, .int .u64 0, .int .u64 0] 55)).heap[wr.heap.size]? = some (.cells #[.int .u8 x.k, .int .u8 x.c, .int .u64 x.a, .int .u64 x.b] 55 (0, 0)) := (Below.heap_alloc _ _ _ (by rw [World.size_alloc]; omega)).trans (heap_alloc_new _ _)
          have nw2 : ((wr.alloc (.cells #[.int .u8 x.k, .int .u8 x.c, .int .u64 x.a, .int .u64 x.b] 55)).alloc (.cells #[.int .u8 x.k, .int .u8 0, .int .u64 0, .int .u64 0] 55)).heap[wr.heap.size + 1]? = some (.cells #[.int .u8 x.k, .int .u8 0, .int .u64 0, .int .u64 0] 55 (0, 0)) := by
            have := heap_alloc_new (wr.alloc (.cells #[.int .u8 x.k, .int .u8 x.c, .int .u64 x.a, .int .u64 x.b] 55)) (.cells #[.int .u8 x.k, .int .u8 0, .int .u64 0, .int .u64 0] 55)
            rwa [World.size_alloc] at this
          have HB5 : Hid (Below wr.heap.size wr ((wr.alloc (.cells #[.int .u8 x.k, .int .u8 x.c, .int .u64 x.a, .int .u64 x.b] 55)).alloc (.cells #[.int .u8 x.k, .int .u8 0, .int .u64 0, .int .u64 0] 55))) := ((Below.refl _ wr).alloc (Nat.le_refl _) _).alloc (by rw [World.size_alloc]; omega) _
          generalize ((wr.alloc (.cells #[.int .u8 x.k, .int .u8 x.c, .int .u64 x.a, .int .u64 x.b] 55)).alloc (.cells #[.int .u8 x.k, .int .u8 0, .int .u64 0, .int .u64 0] 55)) = W5 at *
          have hs5 : wr.heap.size ≤ wr.heap.size := Nat.le_refl _
          have HS5 : Hid (FS w W5 gm (some ⟨gl, 0, none⟩) c l h.length (.slice ro k co) O (.slice none 0 0) []) := HS.out.below HB5.out
          have c0 := heap_cell (j := 0) nw1 rfl
          have c2 := heap_cell (j := 2) nw1 rfl
          have c3 := heap_cell (j := 3) nw1 rfl
          have l1 := heap_lt nw1
          have l2 := heap_lt nw2
          have Hsz : Hid (∀ W : World, Below wr.heap.size wr W → Hid (FS w W gm (some ⟨gl, 0, none⟩) c l h.length (.slice ro k co) O (.slice none 0 0) [])) := fun W hb => HS.out.below hb
          have HN2 : Hid (W5.heap[wr.heap.size + 1]? = some (.cells #[.int .u8 x.k, .int .u8 0, .int .u64 0, .int .u64 0] 55 (0, 0))) := nw2
          clear y0 y1 y2 y3 d1 nw1 nw2 g1 lg
          clear hs5
          generalize wr.heap.size = z at *
          by_cases hk0 : x.k = 0
          · have e0 : (x.k != 0) = false := by simp [hk0]
            have HE : Hid (formedM l x = ⟨x.k, 0, 0, 0⟩) := by show _ = _; unfold formedM; rw [if_pos hk0, hk0]
            have f0 := heap_cell (j := 0) HN2.out rfl
            have f1 := heap_cell (j := 1) HN2.out rfl
            have f2 := heap_cell (j := 2) HN2.out rfl
            have f3 := heap_cell (j := 3) HN2.out rfl
            clear hk0
            go_wp2_with (at_builtin; refine stop_of ?_)
            unfold Hid
            rw [HE.out] at HO2
            have hown := HS5.out.out
            rw [HOk.out.2] at hown
            refine wpList_append_lies _ rfl _ _ 22 rfl w.heap.size 55 i1 (.agg #[.int .u8 0, .int .u8 0, .int .u64 0, .int .u64 0]) 4 24 Tryz.underlying22 hi1 hy0 hy1 hy2 rfl (by decide) (.slice ro k co) k (clCells O) rfl (hown.alloc _) ⟨W5.heap.size, 0, none⟩ 1 1 [.int .u8 x.k, .int .u8 0, .int .u64 0, .int .u64 0] rfl rfl (fun j u hu => ?_) (fun u hu => ?_) (by omega) (by unfold maxLen; omega) (by omega) (by rw [World.size_alloc]; have := HS5.out.bel.size; omega) _ rfl ?_
            · rw [ad_add, Nat.zero_add]
              exact new_cell _ #[.int .u8 x.k, .int .u8 0, .int .u64 0, .int .u64 0] _ j u hu
            · simp only [List.mem_cons, List.not_mem_nil, or_false] at hu
              rcases hu with rfl | rfl | rfl | rfl <;> rfl
            intro g cap w8 hown8 hgr8 _ _
            have HS8 : Hid (FS w w8 gm (some ⟨gl, 0, none⟩) c l h.length (.slice (some ⟨g, 0, none⟩) (k + 1) cap) (O ++ [⟨x.k, 0, 0, 0⟩]) (.slice none 0 0) []) := by
              refine (HS5.out.below ((Below.refl _ W5).alloc (Nat.le_refl _) _)).cell ⟨x.k, 0, 0, 0⟩ hgr8 ?_
              rw [HOk.out.2]; exact hown8
            clear hown hown8 hgr8 f0 f1 f2 f3 c0 c2 c3
            go_wp2
            go_roundw
            case rel => exact ⟨k + 1, _, _, cap, by go_num, rfl, by omega, ⟨HO2.out.symm, by rw [List.length_append, HOk.out.2]; rfl⟩, HS8⟩
            case measure => simp [intOf]; omega
          · have e0 : (x.k != 0) = true := by simp [hk0]
            have HE : Hid (formedM l x = ⟨x.k, 0, movedM l x.a, movedM l x.b⟩) := by show _ = _; unfold formedM; rw [if_neg hk0]
            have hfa := HKx.out hk0
            have HRa : Hid _ := renamed_any l x.a h.length gm W5 hfa.1.2 hfa.1.1 HS5.out.plc
            obtain ⟨ma, hma⟩ : ∃ ma, ma = movedM l x.a := ⟨_, rfl⟩
            obtain ⟨mb, hmb⟩ : ∃ mb, mb = movedM l x.b := ⟨_, rfl⟩
            rw [← hma] at HRa HE
            rw [← hmb] at HE
            have n6 := set_atC (j := 2) HN2.out (.int .u64 ma)
            have b6 : Below z W5 (W5.setCell ⟨z + 1, 2, none⟩ (.int .u64 ma)) := (Below.refl _ W5).setCell (p := ⟨z + 1, 2, none⟩) (by show z ≤ z + 1; omega) _
            have n7 := set_atC (j := 3) n6 (.int .u64 mb)
            have b7 : Below z W5 ((W5.setCell ⟨z + 1, 2, none⟩ (.int .u64 ma)).setCell ⟨z + 1, 3, none⟩ (.int .u64 mb)) := b6.setCell (p := ⟨z + 1, 3, none⟩) (by show z ≤ z + 1; omega) _
            have HS7 : Hid (FS w ((W5.setCell ⟨z + 1, 2, none⟩ (.int .u64 ma)).setCell ⟨z + 1, 3, none⟩ (.int .u64 mb)) gm (some ⟨gl, 0, none⟩) c l h.length (.slice ro k co) O (.slice none 0 0) []) := Hsz.out _ (HB5.out.trans b7)
            have HRb : Hid (Calls Tryz.prog 68 #[.int .u64 x.b, .slice (some ⟨gm, 0, none⟩) h.length h.length] (W5.setCell ⟨z + 1, 2, none⟩ (.int .u64 ma)) fun e w' => e = .returned (.int .u64 mb) ∧ w' = (W5.setCell ⟨z + 1, 2, none⟩ (.int .u64 ma))) := by
              rw [hmb]; exact renamed_any l x.b h.length gm _ hfa.2.2 hfa.2.1 (Hsz.out _ (HB5.out.trans b6)).out.plc
            have f0 := heap_cell (j := 0) HN2.out rfl
            have f1 := heap_cell (j := 1) HN2.out rfl
            have f2 := heap_cell (j := 2) HN2.out rfl
            have f3 := heap_cell (j := 3) HN2.out rfl
            have z2 : W5.frozen? ⟨z + 1, 2, none⟩ = false := by simp [World.frozen?, HN2.out]
            have z3 : W5.frozen? ⟨z + 1, 3, none⟩ = false := by simp [World.frozen?, HN2.out]
            have HN7 : Hid (((W5.setCell ⟨z + 1, 2, none⟩ (.int .u64 ma)).setCell ⟨z + 1, 3, none⟩ (.int .u64 mb)).heap[z + 1]? = some (.cells #[.int .u8 x.k, .int .u8 0, .int .u64 ma, .int .u64 mb] 55 (0, 0))) := n7
            clear hk0 hfa hma hmb n6 n7 b6 b7
            go_wp2_with fail
            refine Calls.mono HRa.out ?_
            rintro e w9 ⟨rfl, hw9⟩
            rw [hw9]
            clear hw9 HRa
            go_wp2_with fail
            refine Calls.mono HRb.out ?_
            rintro e w9 ⟨rfl, hw9⟩
            rw [hw9]
            clear hw9 HRb
            go_upto_region 16 with fail
            generalize ((W5.setCell ⟨z + 1, 2, none⟩ (.int .u64 ma)).setCell ⟨z + 1, 3, none⟩ (.int .u64 mb)) = W7 at *
            clear f0 f1 f2 f3 z2 z3
            have f0 := heap_cell (j := 0) HN7.out rfl
            have f1 := heap_cell (j := 1) HN7.out rfl
            have f2 := heap_cell (j := 2) HN7.out rfl
            have f3 := heap_cell (j := 3) HN7.out rfl
            have l7 := heap_lt HN7.out
            go_wp2_with (at_builtin; refine stop_of ?_)
            unfold Hid
            rw [HE.out] at HO2
            have hown := HS7.out.out
            rw [HOk.out.2] at hown
            refine wpList_append_lies _ rfl _ _ 22 rfl w.heap.size 55 i1 (.agg #[.int .u8 0, .int .u8 0, .int .u64 0, .int .u64 0]) 4 24 Tryz.underlying22 hi1 hy0 hy1 hy2 rfl (by decide) (.slice ro k co) k (clCells O) rfl (hown.alloc _) ⟨W7.heap.size, 0, none⟩ 1 1 [.int .u8 x.k, .int .u8 0, .int .u64 ma, .int .u64 mb] rfl rfl (fun j u hu => ?_) (fun u hu => ?_) (by omega) (by unfold maxLen; omega) (by omega) (by rw [World.size_alloc]; have := HS7.out.bel.size; omega) _ rfl ?_
            · rw [ad_add, Nat.zero_add]
              exact new_cell _ #[.int .u8 x.k, .int .u8 0, .int .u64 ma, .int .u64 mb] _ j u hu
            · simp only [List.mem_cons, List.not_mem_nil, or_false] at hu
              rcases hu with rfl | rfl | rfl | rfl <;> rfl
            intro g cap w8 hown8 hgr8 _ _
            have HS8 : Hid (FS w w8 gm (some ⟨gl, 0, none⟩) c l h.length (.slice (some ⟨g, 0, none⟩) (k + 1) cap) (O ++ [⟨x.k, 0, ma, mb⟩]) (.slice none 0 0) []) := by
              refine (HS7.out.below ((Below.refl _ W7).alloc (Nat.le_refl _) _)).cell ⟨x.k, 0, ma, mb⟩ hgr8 ?_
              rw [HOk.out.2]; exact hown8
            clear hown hown8 hgr8 f0 f1 f2 f3 c0 c2 c3
            go_wp2
            go_roundw
            case rel => exact ⟨k + 1, _, _, cap, by go_num, rfl, by omega, ⟨HO2.out.symm, by rw [List.length_append, HOk.out.2]; rfl⟩, HS8⟩
            case measure => simp [intOf]; omega
        · have k3 : ¬ (k : Int) < (l.length : Int) := by omega
          have e : k = l.length := by omega
          have HOe : Hid (O = dFormH h l) := by
            have := HOk.out.1
            rwa [List.take_of_length_le (by simp [dFormH]; omega)] at this
          clear HOk
          go_wp2_with fail
          go_loopw [13, 14] (fun vw i wr => ∃ (j : Nat) (D : List Int) (rw' : Option Addr) (cw : Nat), i = .int .i64 j ∧ vw = .slice rw' j cw ∧ j ≤ roots.length ∧ Hid (D = (roots.map (movedM l)).take j ∧ D.length = j) ∧ Hid (FS w wr gm r c l h.length (.slice ro k co) O (.slice rw' j cw) D)) (fun _ i _ => roots.length - (intOf i).toNat)
          case atStart => exact ⟨0, [], none, 0, rfl, rfl, Nat.zero_le _, ⟨rfl, rfl⟩, HS⟩
          case round =>
            clear HS
            obtain ⟨j, D, rw', cw, rfl, rfl, hj, HD, HS⟩ := hrel
            by_cases hjl : j < roots.length
            · have j1 : (j : Int) < (roots.length : Int) := by omega
              obtain ⟨x, hx⟩ : ∃ x, roots[j]? = some x := ⟨_, List.getElem?_eq_getElem hjl⟩
              obtain ⟨bb, o, hor, hcs⟩ := HR'.out.below HS.out.bel
              have hra : rb = some ⟨bb, o, none⟩ := hor.resolve_left (by omega)
              subst hra
              obtain ⟨g1, y0, hrx⟩ := hcs j x hx
              have HRx : Hid (Calls Tryz.prog 68 #[.int .u64 x, .slice (some ⟨gm, 0, none⟩) h.length h.length] wr fun e w' => e = .returned (.int .u64 (movedM l x)) ∧ w' = wr) := renamed_any l x h.length gm wr hrx (HF.out x (List.mem_of_getElem? hx)).1 HS.out.plc
              have HD2 : Hid ((roots.map (movedM l)).take (j + 1) = D ++ [movedM l x]) := by show _ = _; rw [moved_more hx, HD.out.1]
              generalize movedM l x = mx at *
              clear hcs hor hx hrx
              go_wp2_with fail
              refine Calls.mono HRx.out ?_
              rintro e9 w9 ⟨rfl, hw9⟩
              rw [hw9]
              clear hw9 HRx
              go_wp2_with (at_builtin; refine stop_of ?_)
              unfold Hid
              have hown := HS.out.wds
              rw [HD.out.2] at hown
              refine wpList_append_lies _ rfl _ _ 23 rfl w.heap.size 53 i2 (.int .u64 0) 1 8 Tryz.underlying23 hi2 hx0 hx1 hx2 rfl (by decide) (.slice rw' j cw) j (D.map (Value.int .u64)) rfl (hown.alloc _) ⟨wr.heap.size, 0, none⟩ 1 1 [.int .u64 mx] rfl rfl (fun j u hu => ?_) (fun u hu => ?_) (by omega) (by unfold maxLen; omega) (by omega) (by rw [World.size_alloc]; have := HS.out.bel.size; omega) _ rfl ?_
              · rw [ad_add, Nat.zero_add]
                exact new_cell _ #[.int .u64 mx] _ j u hu
              · simp at hu; subst hu; rfl
              intro g cap w8 hown8 hgr8 _ _
              have HS8 : Hid (FS w w8 gm r c l h.length (.slice ro k co) O (.slice (some ⟨g, 0, none⟩) (j + 1) cap) (D ++ [mx])) := by
                refine (HS.out.below ((Below.refl _ wr).alloc (Nat.le_refl _) _)).word mx hgr8 ?_
                rw [HD.out.2]; exact hown8
              clear hown hown8 hgr8
              go_wp2
              go_roundw
              case rel => exact ⟨j + 1, _, _, cap, by go_num, rfl, by omega, ⟨HD2.out.symm, by rw [List.length_append, HD.out.2]; rfl⟩, HS8⟩
              case measure => simp [intOf]; omega
            · have j1 : ¬ (j : Int) < (roots.length : Int) := by omega
              have e2 : j = roots.length := by omega
              go_wp2
              go_ret2
              subst e e2
              rw [HLo.out]
              refine ⟨⟨ro, co, rw', cw, rfl, ?_, ?_⟩, HS.out.bel⟩
              · have := HS.out.out
                rw [HOe.out] at this
                have hl : (dFormH h l).length = l.length := by simp [dFormH]
                rw [hl] at this
                exact own_hx this hl
              · have := HS.out.wds
                rw [HD.out.2, HD.out.1, List.take_of_length_le (by simp)] at this
                exact own_wx this (by simp)
end Go.Proofs.YtdcmkifljcdmmaaGreatDoor
