/- The document's Order. -/
import Derived.Test.YtdcmkifljcdmmaaGreatDoorGB
import Derived.Deep.RegionLaw
namespace Go.Proofs.YtdcmkifljcdmmaaGreatDoor
open Go.RowKit

/-- How Order stands. -/
structure OS (w0 W : World) (gm : Nat) (vo vl : Value) (h : List Cl) (out : List Nat) (l : List Int) : Prop where
  met : DR W 4 gm h.length (fun k u => u = .bool (out.contains k))
  out : W.ownsRow w0.heap.size 3 1 vo out.length (out.map (fun (k : Nat) => Value.int .i64 (k : Int)))
  l : W.ownsRow w0.heap.size 53 1 vl l.length (l.map (Value.int .u64))
  bel : Below w0.heap.size w0 W
  gm : w0.heap.size ≤ gm
theorem cell_two_new (W : World) (a0 a1 : Value) (t : TypeId) (j : Nat) (u : Value) (h : [a0, a1][j]? = some u) : (W.alloc (.cells #[a0, a1] t)).cell? ((⟨W.heap.size, 0, none⟩ : Addr).add j) = some u := by
  rw [ad_add, Nat.zero_add]
  exact new_cell W #[a0, a1] t j u (by simpa using h)
theorem own_ne {W : World} {b b' e e' c c' n n' : Nat} {v v' : Value} {xs xs' : List Value} (h : W.ownsRow b e c v n xs) (h' : W.ownsRow b' e' c' v' n' xs') (hne : e ≠ e') : ∀ g, v.ownBlock = some g → v'.ownBlock ≠ some g := fun g hg hg' => by
  obtain ⟨cs, hc⟩ := own_blk h hg
  obtain ⟨ds, hd⟩ := own_blk h' hg'
  exact ty_ne hc hd hne rfl
theorem dr_ne {W : World} {t g n b e c m : Nat} {P : Nat → Value → Prop} {v : Value} {xs : List Value} (h : DR W t g n P) (h' : W.ownsRow b e c v m xs) (hne : t ≠ e) : v.ownBlock ≠ some g := fun hg => by
  obtain ⟨cs, hc, _⟩ := h
  obtain ⟨ds, hd⟩ := own_blk h' hg
  exact ty_ne hc hd hne rfl
theorem OS.drew {w0 W : World} {gm : Nat} {vo vl : Value} {h : List Cl} {out : List Nat} {l : List Int} (o : OS w0 W gm vo vl h out l) : OS w0 W.drew gm vo vl h out l := ⟨o.met.kept rfl, own_same o.out (fun _ _ => rfl), own_same o.l (fun _ _ => rfl), o.bel.drew, o.gm⟩
/-- A cell is met. -/
theorem OS.meet {w0 W W1 : World} {gm : Nat} {vo vo' vl : Value} {h : List Cl} {out : List Nat} {l : List Int} {ob : Obj} (o : OS w0 W gm vo vl h out l) {c : Nat} (_ : c < h.length)
    (hgr : ((W.setCell ⟨gm, c, none⟩ (.bool true)).alloc ob).grownBy W1 vo.ownBlock) (hown : W1.ownsRow w0.heap.size 3 1 vo' (out.length + 1) (out.map (fun (k : Nat) => Value.int .i64 (k : Int)) ++ [.int .i64 (c : Int)])) : OS w0 W1 gm vo' vl h (out ++ [c]) l := by
  have hz : (W.setCell ⟨gm, c, none⟩ (.bool true)).heap.size = W.heap.size := World.size_setCell ..
  have lm := o.met.lt
  have hk : ∀ k, k < W.heap.size → k ≠ gm → vo.ownBlock ≠ some k → W1.heap[k]? = W.heap[k]? := fun k hk h1 h2 => ((hgr.block k (by rw [World.size_alloc, hz]; omega) (fun e => h2 e.symm)).trans (Below.heap_alloc _ _ _ (by rw [hz]; exact hk))).trans (Below.heap_setCell _ _ _ _ h1)
  have d1 : DR (W.setCell ⟨gm, c, none⟩ (.bool true)) 4 gm h.length (fun k u => u = .bool ((out ++ [c]).contains k)) := o.met.set (fun k u hk hu => by rw [hu, contains_snoc]; simp [hk]) (by rw [contains_snoc]; simp)
  refine ⟨d1.kept ((hgr.block gm (by rw [World.size_alloc, hz]; omega) (fun e => dr_ne o.met o.out (by decide) e.symm)).trans (Below.heap_alloc _ _ _ (by rw [hz]; exact lm))), ?_, own_same o.l (fun k hk' => hk k (o.l.lt k hk').2 (fun e => dr_ne o.met o.l (by decide) (by rw [← e]; exact hk')) (own_ne o.l o.out (by decide) k hk')), ?_, o.gm⟩
  · rw [List.length_append, List.map_append]; exact hown
  · have b1 : Below w0.heap.size W ((W.setCell ⟨gm, c, none⟩ (.bool true)).alloc ob) := ((Below.refl _ W).setCell (p := ⟨gm, c, none⟩) o.gm _).alloc (by rw [hz]; exact o.bel.size) _
    exact o.bel.trans (b1.trans ((Below.refl _ _).grown hgr (by rw [World.size_alloc, hz]; have := o.bel.size; omega) (fun k hk' => (o.out.lt k hk').1)))
/-- Its words are to be looked at. -/
theorem OS.more {w0 W W1 : World} {gm : Nat} {vo vl vl' : Value} {h : List Cl} {out : List Nat} {l : List Int} {ob : Obj} (o : OS w0 W gm vo vl h out l) {a b : Int}
    (hgr : (W.alloc ob).grownBy W1 vl.ownBlock) (hown : W1.ownsRow w0.heap.size 53 1 vl' (l.length + 2) (l.map (Value.int .u64) ++ [.int .u64 a, .int .u64 b])) : OS w0 W1 gm vo vl' h out (l ++ [a, b]) := by
  have hk : ∀ k, k < W.heap.size → vl.ownBlock ≠ some k → W1.heap[k]? = W.heap[k]? := fun k hk h2 => (hgr.block k (by rw [World.size_alloc]; omega) (fun e => h2 e.symm)).trans (Below.heap_alloc _ _ _ hk)
  refine ⟨o.met.kept (hk gm o.met.lt (dr_ne o.met o.l (by decide))), own_same o.out (fun k hk' => hk k (o.out.lt k hk').2 (own_ne o.out o.l (by decide) k hk')), ?_, ?_, o.gm⟩
  · rw [List.length_append, List.map_append]; exact hown
  · have b1 : Below w0.heap.size W (W.alloc ob) := (Below.refl _ W).alloc o.bel.size _
    exact o.bel.trans (b1.trans ((Below.refl _ _).grown hgr (by rw [World.size_alloc]; have := o.bel.size; omega) (fun k hk' => (o.l.lt k hk').1)))
theorem word_at {w : World} {base : Nat} {l : List Int} {rv : Option Addr} {cv a : Nat} {x : Int} (h : w.ownsRow base 53 1 (.slice rv l.length cv) l.length (l.map (Value.int .u64))) (hp : l[a]? = some x) : ∃ g, rv = some ⟨g, 0, none⟩ ∧ w.cell? ⟨g, a, none⟩ = some (.int .u64 x) ∧ g < w.heap.size := by
  have ha := (List.getElem?_eq_some_iff.1 hp).1
  rcases h.2 with ⟨h0, h1⟩ | ⟨g, cap, cur, hv, _⟩
  · omega
  · cases hv
    refine ⟨g, rfl, ?_, (h.lt g rfl).2⟩
    have := h.cells rfl a (.int .u64 x) (by rw [List.getElem?_map, hp]; rfl)
    rwa [ad_add, Nat.zero_add] at this
set_option maxRecDepth 100000 in
set_option maxHeartbeats 16000000 in
theorem dOrder_any (h : List Cl) (roots : List Int) (ra rb : Option Addr) (ca cb : Nat) (w : World) (hn : h.length ≤ 1000000) (hr : roots.length ≤ 1000000) (hH : HR w ra h) (hR : WR w rb roots) (hk : OkH h) (hf : ∀ x ∈ roots, fitsW h.length x = true ∧ Rng x) :
    Calls Tryz.prog 32 #[.slice ra h.length ca, .slice rb roots.length cb] w fun e w' => (∃ r c, e = .returned (.slice r (orderM h roots).length c) ∧ w'.ownsRow w.heap.size 3 1 (.slice r (orderM h roots).length c) (orderM h roots).length ((orderM h roots).map (fun (k : Nat) => Value.int .i64 (k : Int)))) ∧ Below w.heap.size w w' := by
  have HH : Hid (HR w ra h) := hH
  have HK : Hid (OkH h) := hk
  obtain ⟨i0, hi0, hz0, hz1, hz2⟩ := info_parts infoBool
  obtain ⟨i1, hi1, hy0, hy1, hy2⟩ := info_parts infoI
  obtain ⟨i2, hi2, hx0, hx1, hx2⟩ := info_parts infoWd
  obtain ⟨bb, oo, hor, hcs⟩ := hR
  have HN : Hid (rb = none → roots.length = 0) := fun e => by
    rcases hor with h' | h'
    · exact h'
    · rw [h'] at e; cases e
  have HW : Hid (∀ w5 : World, Below w.heap.size w w5 → ∀ ad, rb = some ad → ∀ j u, (roots.map (Value.int .u64))[j]? = some u → w5.cell? (ad.add j) = some u) := fun w5 h5 ad had j u hu => by
    rw [List.getElem?_map] at hu
    obtain ⟨x, hx, rfl⟩ := Option.map_eq_some_iff.1 hu
    obtain ⟨g1, g2, _⟩ := hcs j x hx
    have := hor.resolve_left (by have := (List.getElem?_eq_some_iff.1 hx).1; omega)
    rw [this] at had
    cases had
    rw [ad_add]
    exact (h5.cell (p := ⟨bb, oo + j, none⟩) g1).trans g2
  have HO0 : Hid (OrdOk h roots [] roots) := ⟨List.nodup_nil, fun _ hc => (by cases hc), Nat.le_add_right _ _, hf⟩
  clear hH hk hor hcs hf
  go_enter Tryz.func32, Tryz.ntmps32
  go_wp2_with (at_make; refine stop_of ?_)
  unfold Hid
  refine wpList_make_full _ rfl _ _ 70 rfl w.heap.size 4 i0 (.bool false) 1 Tryz.underlying70 hi0 hz0 hz1 .i64 .i64 _ _ h.length rfl rfl rfl rfl (by rw [hz2]; omega) (by unfold maxLen; omega) (Nat.le_refl _) ?_
  intro w2 hown hgr
  have HD2 : Hid (DR w2 4 w.heap.size h.length (fun _ u => u = .bool false)) := row_made hown (false_made _)
  have HB2 : Hid (Below w.heap.size w w2) := grown_low hgr (fun g hg => by cases hg) (Nat.le_refl _)
  clear hown hgr
  go_upto_region 4 with fail
  go_wp2_with (at_builtin; refine stop_of ?_)
  unfold Hid
  refine wpList_append_all _ rfl _ _ 23 rfl w.heap.size 53 i2 (.int .u64 0) 1 8 Tryz.underlying23 hi2 hx0 hx1 hx2 rfl (by decide) (.slice none 0 0) 0 [] rfl (World.ownsRow_nil _ _ _ _) rb roots.length cb (roots.map (Value.int .u64)) rfl (by simp) HN.out (HW.out w2 HB2.out) (fun u hu => by obtain ⟨x, _, rfl⟩ := List.mem_map.1 hu; rfl) (by unfold maxLen; omega) (by omega) HB2.out.size ?_
  intro rl cl w3 hown3 hgr3 _
  rw [Nat.zero_add, List.nil_append] at hown3
  have HOS : Hid (OS w w3 w.heap.size (.slice none 0 0) (.slice rl roots.length cl) h [] roots) := by
    have b3 : Below w2.heap.size w2 w3 := (Below.refl _ w2).grown hgr3 (Nat.le_refl _) (fun k hk => by cases hk)
    exact ⟨(HD2.out.kept (b3.block _ HD2.out.lt)).mono (fun k u _ hu => by rw [hu]; rfl), World.ownsRow_nil _ _ _ _, hown3, HB2.out.trans (b3.mono HB2.out.size), Nat.le_refl _⟩
  clear hown3 hgr3 HD2 HB2 HW HN
  rw [Nat.zero_add]
  generalize w.heap.size = gm at HOS ⊢
  go_wp2_with fail
  go_loopw [5, 7, 8, 9, 10] (fun vo vl i _ _ wr => ∃ (k : Nat) (out : List Nat) (l : List Int) (ro rl : Option Addr) (co cl : Nat), i = .int .i64 k ∧ vo = .slice ro out.length co ∧ vl = .slice rl l.length cl ∧ k ≤ l.length ∧ Hid (OS w wr gm (.slice ro out.length co) (.slice rl l.length cl) h out l) ∧ Hid (OrdOk h roots out l) ∧ Hid (orderM h roots = ordM h (roots.length + 2 * h.length - k) k out l)) (fun _ _ i _ _ _ => roots.length + 2 * h.length + 1 - (intOf i).toNat)
  case atStart => exact ⟨0, [], roots, none, rl, 0, cl, rfl, rfl, rfl, Nat.zero_le _, HOS, HO0, rfl⟩
  case round =>
    clear HOS HO0
    obtain ⟨k, out, l, ro, rl, co, cl, rfl, rfl, rfl, hk, HS, HO, HE⟩ := hrel
    have hall := HO.out.all
    have hole := HO.out.out_le
    by_cases hkl : k < l.length
    · have k1 : (k : Int) < (l.length : Int) := by omega
      obtain ⟨x, hx⟩ : ∃ x, l[k]? = some x := ⟨_, List.getElem?_eq_getElem hkl⟩
      obtain ⟨gl, rfl, d1, lg⟩ := word_at HS.out.l hx
      have hfx := HO.out.fit x (List.mem_of_getElem? hx)
      have HE1 : Hid (orderM h roots = ordM h (roots.length + 2 * h.length - (k + 1)) (k + 1) (ordS h out l x).1 (ordS h out l x).2) := by
        show _ = _
        rw [HE.out, show roots.length + 2 * h.length - k = (roots.length + 2 * h.length - (k + 1)) + 1 by omega, ordM_step hx]
      have HCl : Hid (Calls Tryz.prog 69 #[.int .u64 x] wr fun e w' => e = .returned (.tuple #[.int .i64 (cellV x), .bool (refB x)]) ∧ w' = wr) := by
        have := refCell_any x wr hfx.2
        rw [cellN_is, isRef_is] at this
        exact this
      clear hx
      cases hrf : refB x
      · rw [hrf] at HCl
        rw [ordS_none (refs_none hrf)] at HE1
        clear hrf
        go_wp2_with fail
        refine Calls.mono HCl.out ?_
        rintro e w5 ⟨rfl, rfl⟩
        clear HCl
        go_wp2
        go_roundw
        case rel => exact ⟨k + 1, out, l, ro, _, co, cl, by go_num, rfl, rfl, by omega, HS, HO, HE1⟩
        case measure => simp [intOf]; omega
      · rw [hrf] at HCl
        obtain ⟨c, hc1, hc2, hc3⟩ := refs_some hfx.1 hrf
        rw [hc3] at HCl
        have k2 : (c : Int) < (h.length : Int) := by omega
        obtain ⟨u, hu, hu2⟩ := HS.out.met.cell hc2
        rw [hu2] at hu
        have lm := HS.out.met.lt
        clear hrf hu2
        cases hct : out.contains c
        · rw [hct] at hu
          obtain ⟨y, hy⟩ : ∃ y, h[c]? = some y := ⟨_, List.getElem?_eq_getElem hc2⟩
          rw [ordS_new hc1 hct hy] at HE1
          have HO2 : Hid (OrdOk h roots (out ++ [c]) (if y.k = 0 then l else l ++ [y.a, y.b])) := HO.out.step HK.out hy hct
          have fz := HS.out.met.fz c
          have hzs : (wr.setCell ⟨gm, c, none⟩ (.bool true)).heap.size = wr.heap.size := World.size_setCell ..
          have HY : Hid (h[c]? = some y) := hy
          clear hy hct
          go_wp2_with (first | (refine Calls.mono HCl.out ?_; rintro e w5 ⟨rfl, hw5⟩; rw [hw5]; clear hw5) | (at_builtin; refine stop_of ?_))
          unfold Hid
          have row1 : (wr.setCell ⟨gm, c, none⟩ (.bool true)).ownsRow w.heap.size 3 1 (.slice ro out.length co) out.length (out.map (fun (k : Nat) => Value.int .i64 (k : Int))) := own_same HS.out.out (fun k hk => Below.heap_setCell _ _ _ _ (fun e => dr_ne HS.out.met HS.out.out (by decide) (by rw [← show k = gm from e]; exact hk)))
          have sw := HS.out.bel.size
          refine wpList_append_lies _ rfl _ _ 59 rfl w.heap.size 3 i1 _ 1 8 Tryz.underlying59 hi1 hy0 hy1 hy2 rfl (by decide) (.slice ro out.length co) out.length (out.map (fun (k : Nat) => Value.int .i64 (k : Int))) rfl (World.ownsRow.alloc row1 _) ⟨wr.heap.size, 0, none⟩ 1 1 [.int .i64 c] rfl rfl (fun k u hu => ?_) (fun u hu => ?_) (by omega) (by unfold maxLen; omega) (by omega) (by rw [World.size_alloc, hzs]; omega) _ rfl ?_
          · have hnc := new_cell (wr.setCell ⟨gm, c, none⟩ (.bool true)) #[.int .i64 c] 3 k u hu
            rw [hzs] at hnc
            rw [ad_add, Nat.zero_add]
            exact hnc
          · simp at hu; subst hu; rfl
          intro go co2 w6 hown6 hgr6 _ _
          have HS6 : Hid (OS w w6 gm (.slice (some ⟨go, 0, none⟩) (out.length + 1) co2) (.slice (some ⟨gl, 0, none⟩) l.length cl) h (out ++ [c]) l) := HS.out.meet hc2 hgr6 hown6
          clear hown6 hgr6 row1 HS hu d1 lg lm fz hzs
          obtain ⟨bh, oh, hor, hcs⟩ := HH.out.below HS6.out.bel
          have hra : ra = some ⟨bh, oh, none⟩ := hor.resolve_left (by omega)
          subst hra
          obtain ⟨g1, ⟨y0, y1, y2, y3⟩, _⟩ := hcs c y HY.out
          clear hcs hor y1
          have hlo : (out ++ [c]).length = out.length + 1 := by rw [List.length_append]; rfl
          by_cases hyk : y.k = 0
          · rw [if_pos hyk] at HE1 HO2
            have z1 : (y.k != 0) = false := by simp [hyk]
            go_wp2
            go_roundw
            case rel => exact ⟨k + 1, out ++ [c], l, _, _, co2, cl, by go_num, by rw [hlo], rfl, by omega, by rw [hlo]; exact HS6, HO2, HE1⟩
            case measure => simp [intOf]; omega
          · rw [if_neg hyk] at HE1 HO2
            have z1 : (y.k != 0) = true := by simp [hyk]
            have hmx : Tryz.prog.follows .mixedOrders = true := by kernel_rfl
            have sw6 := HS6.out.bel.size
            go_upto_region 13 with fail
            go_region_law (refine step_append_lies _ rfl _ _ 23 rfl w.heap.size 53 i2 (.int .u64 0) 1 8 Tryz.underlying23 hi2 hx0 hx1 hx2 rfl (by decide) (.slice (some ⟨gl, 0, none⟩) l.length cl) l.length (l.map (Value.int .u64)) rfl (World.ownsRow.alloc HS6.out.drew.l _) ⟨_, 0, none⟩ 2 2 [.int .u64 y.a, .int .u64 y.b] rfl rfl (cell_two_new _ _ _ _) (by intro u hu; simp at hu; rcases hu with rfl | rfl <;> rfl) (by omega) (by unfold maxLen; omega) (by omega) (by show w.heap.size ≤ (w6.alloc _).heap.size; rw [World.size_alloc]; omega) _ rfl ?_; intro gn cn w7 hown7 hgr7 _ _)
            all_goals
              have HS7 : Hid (OS w w7 gm (.slice (some ⟨go, 0, none⟩) (out.length + 1) co2) (.slice (some ⟨gn, 0, none⟩) (l.length + 2) cn) h (out ++ [c]) (l ++ [y.a, y.b])) := HS6.out.drew.more hgr7 hown7
              clear hown7 hgr7 HS6
              have hl2 : (l ++ [y.a, y.b]).length = l.length + 2 := by rw [List.length_append]; rfl
              go_wp2
              go_roundw
              case rel => exact ⟨k + 1, out ++ [c], l ++ [y.a, y.b], _, _, co2, cn, by go_num, by rw [hlo], by rw [hl2], by omega, by rw [hlo, hl2]; exact HS7, HO2, HE1⟩
              case measure => simp [intOf]; omega
        · rw [hct] at hu
          rw [ordS_met hc1 hct] at HE1
          clear hct
          go_wp2_with fail
          refine Calls.mono HCl.out ?_
          rintro e w5 ⟨rfl, rfl⟩
          clear HCl
          go_wp2
          go_roundw
          case rel => exact ⟨k + 1, out, l, ro, _, co, cl, by go_num, rfl, rfl, by omega, HS, HO, HE1⟩
          case measure => simp [intOf]; omega
    · have k1 : ¬ (k : Int) < (l.length : Int) := by omega
      have HEe : Hid (orderM h roots = out) := by show _ = _; rw [HE.out, ordM_end (by omega)]
      have HOe : Hid (wr.ownsRow w.heap.size 3 1 (.slice ro out.length co) out.length (out.map (fun (k : Nat) => Value.int .i64 (k : Int)))) := HS.out.out
      have HBe : Hid (Below w.heap.size w wr) := HS.out.bel
      clear HS HO HE
      go_wp2
      go_ret
      exact ⟨⟨ro, co, by rw [HEe.out]; rfl, by rw [HEe.out]; exact HOe.out⟩, HBe.out⟩
end Go.Proofs.YtdcmkifljcdmmaaGreatDoor
