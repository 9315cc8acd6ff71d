/- The document's guarded. -/
import Derived.Test.YtphpkedfcmghmaaDoorGE
import Derived.Test.YtphpkedfcmghmaaDoorHBRefMay
import Derived.Test.YtphpkedfcmghmaaDoorHBEnds
namespace Go.Proofs.YtphpkedfcmghmaaDoor
open Go.RowKit

def cellsG (h : List Cl) : List Int := h.flatMap (fun x => if greyB x then [x.a, x.b] else [])
def lanesG (run : Bool) (l : List Ln) : List Int := l.flatMap (fun x => if !x.sc && (run || x.en) then x.roots else [])
theorem cellsG_more {h : List Cl} {k : Nat} {x : Cl} (hx : h[k]? = some x) : cellsG (h.take (k + 1)) = cellsG (h.take k) ++ if greyB x then [x.a, x.b] else [] := by
  unfold cellsG
  rw [List.take_add_one, hx, List.flatMap_append]
  simp
theorem lanesG_more {run : Bool} {l : List Ln} {k : Nat} {x : Ln} (hx : l[k]? = some x) : lanesG run (l.take (k + 1)) = lanesG run (l.take k) ++ if !x.sc && (run || x.en) then x.roots else [] := by
  unfold lanesG
  rw [List.take_add_one, hx, List.flatMap_append]
  simp
theorem cellsG_le : ∀ h : List Cl, (cellsG h).length ≤ 2 * h.length
  | [] => by simp [cellsG]
  | x :: r => by
    have := cellsG_le r
    have e : cellsG (x :: r) = (if greyB x then [x.a, x.b] else []) ++ cellsG r := rfl
    rw [e, List.length_append, List.length_cons]
    split
    · simp; omega
    · simp; omega
theorem lanesG_le (run : Bool) : ∀ l : List Ln, (lanesG run l).length ≤ (l.map Ln.roots).flatten.length
  | [] => by simp [lanesG]
  | x :: r => by
    have := lanesG_le run r
    have e : lanesG run (x :: r) = (if !x.sc && (run || x.en) then x.roots else []) ++ lanesG run r := rfl
    rw [e, List.length_append, List.map_cons, List.flatten_cons, List.length_append]
    split
    · omega
    · rw [List.length_nil]; omega
/-- What guarded begins with. -/
def srcL (v : Vw) (run : Bool) : List Int := cellsG v.h ++ (v.gl.drop v.laid.toNat ++ lanesG run v.lanes)
theorem flat_le {l : List Ln} (k : Nat) : ((l.take k).map Ln.roots).flatten.length ≤ (l.map Ln.roots).flatten.length := rootsK_le l k
theorem EV.other {w0 W : World} {p : Vp} {v : Vw} {vh vl vr : Value} {H : List Cl} {L : List Lq} {R : List Int} {g n j : Nat} {P : Nat → Value → Prop} {u : Value} (h : EV w0 W p v vh H vl L vr R) (hd : DR W 4 g n P) (hg : w0.heap.size ≤ g) : EV w0 (W.setCell ⟨g, j, none⟩ u) p v vh H vl L vr R := by
  obtain ⟨cs, hcs, _⟩ := hd
  have hk : ∀ {e size n : Nat} {x : Value} {xs : List Value}, W.ownsRow w0.heap.size e size x n xs → 4 ≠ e → ∀ k, x.ownBlock = some k → (W.setCell ⟨g, j, none⟩ u).heap[k]? = W.heap[k]? := fun ho hn k hk => Below.heap_setCell _ _ _ _ (fun e => own_ty ho hcs hn (by rw [← show k = g from e]; exact hk))
  exact ⟨(Below.heap_setCell _ _ _ _ (fun e => ty_ne h.vb hcs (by decide) (show w0.heap.size = g from e))).trans h.vb, own_same h.hr (hk h.hr (by decide)), own_same h.lr (hk h.lr (by decide)), own_same h.rr (hk h.rr (by decide)), h.bel.setCell (p := ⟨g, j, none⟩) hg _⟩
theorem src_fit {v : Vw} {w : World} {pcr pgr plr : Option Addr} (hm : rightM v.h v.gl = true ∧ ∀ x ∈ v.lanes, rightM v.h x.roots = true) (hh : HR w pcr v.h) (hg : WR w pgr v.gl) (hl : LR w plr v.lanes) (run : Bool) : ∀ u ∈ srcL v run, fitsW v.h.length u = true ∧ Rng u := fun u hu => by
  have hw := (words_is.2 hm).2
  unfold srcL at hu
  rcases List.mem_append.1 hu with hu | hu
  · obtain ⟨x, hx, hux⟩ := List.mem_flatMap.1 hu
    cases hg : greyB x with
    | false => rw [hg] at hux; cases hux
    | true =>
      rw [hg, if_pos rfl] at hux
      have hk : x.k ≠ 0 := fun e => by simp [greyB, usedB, e] at hg
      have := okh_of hw (hr_ok hh) x hx hk
      simp only [List.mem_cons, List.not_mem_nil, or_false] at hux
      rcases hux with rfl | rfl
      · exact this.1
      · exact this.2
  · rcases List.mem_append.1 hu with hu | hu
    · have hu' := List.mem_of_mem_drop hu
      exact ⟨roots_fit hw (List.mem_append_left _ hu'), wr_rng hg u hu'⟩
    · obtain ⟨x, hx, hux⟩ := List.mem_flatMap.1 hu
      have hux' : u ∈ x.roots := by
        split at hux
        · exact hux
        · cases hux
      refine ⟨roots_fit hw (List.mem_append_right _ (List.mem_flatten.2 ⟨x.roots, List.mem_map.2 ⟨x, hx, rfl⟩, hux'⟩)), ?_⟩
      obtain ⟨_, _, _, h2⟩ := hl
      obtain ⟨j, hj⟩ := List.getElem?_of_mem hx
      obtain ⟨_, ⟨_, _, _, hwr, _⟩, _⟩ := h2 j x hj
      exact wr_rng hwr u hux'
set_option maxRecDepth 100000 in
set_option maxHeartbeats 32000000 in
theorem refGu_any (p : Vp) (v : Vw) (run : Bool) (w : World) (hV : VL w p v) (hm : mayV v = true) (hsm : v.h.length + v.gl.length + (v.lanes.map Ln.roots).flatten.length ≤ 20000) :
    Calls Tryd.prog 70 #[.agg (p.cells v), .bool run] w fun e w' => (∃ g, e = .returned (.slice (some ⟨g, 0, none⟩) v.h.length v.h.length) ∧ DR w' 4 g v.h.length (fun k u => u = .bool ((guAll v.h whiteB (srcL v run)).contains k))) ∧ Below w.heap.size w w' := by
  obtain ⟨pcr, pcc, pyr, pyc, pgr, pgc, plr, plc⟩ := p
  have HV : Hid (VL w ⟨pcr, pcc, pyr, pyc, pgr, pgc, plr, plc⟩ v) := hV
  have HM : Hid _ := may_is.1 hm
  have HSm : Hid (v.h.length + v.gl.length + (v.lanes.map Ln.roots).flatten.length ≤ 20000) := hsm
  have q1 : v.h.length ≤ 20000 := by omega
  have q3 : v.gl.length ≤ 20000 := by omega
  have q4 := hV.ll
  obtain ⟨i1, hi1, hy0, hy1, hy2⟩ := info_parts infoWd
  obtain ⟨i0, hi0, hz0, hz1, hz2⟩ := info_parts infoBool
  obtain ⟨W1, hW1⟩ : ∃ W1, w.alloc (.cells ((⟨pcr, pcc, pyr, pyc, pgr, pgc, plr, plc⟩ : Vp).cells v) 28) = W1 := ⟨_, rfl⟩
  have b1 : Below w.heap.size w W1 := by rw [← hW1]; exact (Below.refl _ w).alloc (Nat.le_refl _) _
  have v1 : VB W1 w.heap.size ⟨pcr, pcc, pyr, pyc, pgr, pgc, plr, plc⟩ v := by unfold VB; rw [← hW1]; exact World.alloc_heap_new w _
  have HE1 : Hid (EV w W1 ⟨pcr, pcc, pyr, pyc, pgr, pgc, plr, plc⟩ v (.slice none 0 0) [] (.slice none 0 0) [] (.slice none 0 0) []) := ⟨v1, World.ownsRow_nil _ _ _ _, World.ownsRow_nil _ _ _ _, World.ownsRow_nil _ _ _ _, b1⟩
  obtain ⟨d0, d1, d2, d3, d4, d5, d6⟩ := v1.at7
  have l1 : w.heap.size < W1.heap.size := (Array.getElem?_eq_some_iff.1 v1).1
  have hmx : Tryd.prog.follows .mixedOrders = true := by kernel_rfl
  unfold Vp.cells at hW1
  unfold Vp.cells
  dsimp only at hW1 d0 d3 d4 d6 ⊢
  have HW1 : Hid _ := hW1
  clear hW1 hV b1 v1 hm hsm
  go_enter Tryd.func70, Tryd.ntmps70
  go_upto_region 1 with fail
  rw [HW1.out]
  clear HW1 d0 d1 d2 d3 d4 d5 d6 l1
  go_wp2_with fail
  go_loopw [5, 6] (fun vl i wr => ∃ (k : Nat) (l : List Int) (rl : Option Addr) (cl : Nat), i = .int .i64 k ∧ vl = .slice rl l.length cl ∧ k ≤ v.h.length ∧ l.length ≤ 2 * k ∧ Hid (l = cellsG (v.h.take k)) ∧ Hid (EV w wr ⟨pcr, pcc, pyr, pyc, pgr, pgc, plr, plc⟩ v (.slice none 0 0) [] (.slice none 0 0) [] (.slice rl l.length cl) l)) (fun _ i _ => v.h.length - (intOf i).toNat)
  case atStart => exact ⟨0, [], none, 0, rfl, rfl, Nat.zero_le _, Nat.zero_le _, rfl, HE1⟩
  case round =>
    clear HE1
    obtain ⟨k, l, rl, cl, rfl, rfl, hk, hll, HL, HE⟩ := hrel
    obtain ⟨d0, d1, d2, d3, d4, d5, d6⟩ := HE.out.vb.at7
    dsimp only at d0 d4 d6
    clear d1 d2 d3
    have l1 := HE.out.lt
    by_cases hkl : k < v.h.length
    · have k1 : (k : Int) < (v.h.length : Int) := by omega
      obtain ⟨x, hx⟩ : ∃ x, v.h[k]? = some x := ⟨_, List.getElem?_eq_getElem hkl⟩
      obtain ⟨b, o, hor, hcs⟩ := HV.out.h.below HE.out.bel
      have hcr : pcr = some ⟨b, o, none⟩ := hor.resolve_left (by omega)
      subst hcr
      obtain ⟨g1, ⟨y0, y1, y2, y3⟩, _⟩ := hcs k x hx
      have HLn : Hid (cellsG (v.h.take (k + 1)) = l ++ if greyB x then [x.a, x.b] else []) := by show _ = _; rw [cellsG_more hx, HL.out]
      clear hcs hor hx HL d4 d5 d6
      have skip : greyB x = false → Hid (l = cellsG (v.h.take (k + 1))) := fun e => by
        have h' := HLn.out
        rw [e] at h'
        show _ = _
        rw [h']; simp
      have HSk : Hid _ := skip
      clear skip
      by_cases hk0 : x.k = 0
      · have z1 : (x.k != 0) = false := by simp [hk0]
        have HL2 := HSk.out (by simp [greyB, usedB, hk0])
        clear hk0
        go_wp2
        go_roundw
        case rel => exact ⟨k + 1, l, rl, cl, by go_num, rfl, by omega, by omega, HL2, HE⟩
        case measure => simp [intOf]; omega
      · have z1 : (x.k != 0) = true := by simp [hk0]
        by_cases hc1 : x.c = 1
        · have z2 : (x.c == 1) = true := by simp [hc1]
          have HL2 : Hid (l ++ [x.a, x.b] = cellsG (v.h.take (k + 1))) := by
            have hg : greyB x = true := by simp [greyB, usedB, hk0, hc1]
            show _ = _
            rw [HLn.out, hg]; rfl
          have hsw := HE.out.bel.size
          clear hk0 hc1
          go_upto_region 6 with fail
          go_region_law (refine step_append_lies _ rfl _ _ 25 rfl w.heap.size 57 i1 (.int .u64 0) 1 8 Tryd.underlying25 hi1 hy0 hy1 hy2 rfl (by decide) (.slice rl l.length cl) l.length (l.map (Value.int .u64)) rfl (World.ownsRow.alloc (HE.out.below (below_d wr)).rr _) ⟨_, 0, none⟩ 2 2 [.int .u64 x.a, .int .u64 x.b] rfl rfl (cell_two_new _ _ _ _) (by intro u hu; simp at hu; rcases hu with rfl | rfl <;> rfl) (by omega) (by unfold maxLen; omega) (by omega) (by show w.heap.size ≤ (wr.alloc _).heap.size; rw [World.size_alloc]; omega) _ rfl ?_; intro gn cn w7 hown7 hgr7 _ _)
          all_goals
            have HE7 : Hid (EV w w7 ⟨some ⟨b, o, none⟩, pcc, pyr, pyc, pgr, pgc, plr, plc⟩ v (.slice none 0 0) [] (.slice none 0 0) [] (.slice (some ⟨gn, 0, none⟩) (l.length + 2) cn) (l ++ [x.a, x.b])) := ((HE.out.below (below_d wr)).below ((Below.refl _ wr.drew).alloc (Nat.le_refl _) (.cells #[.int .u64 x.a, .int .u64 x.b] 57))).growR hgr7 (by rw [List.length_append, List.map_append]; exact hown7)
            have hl2 : (l ++ [x.a, x.b]).length = l.length + 2 := by rw [List.length_append]; rfl
            clear hown7 hgr7 HE d0 y0 y1 y2 y3 l1 g1
            go_wp2
            go_roundw
            case rel => exact ⟨k + 1, l ++ [x.a, x.b], _, cn, by go_num, by rw [hl2], by omega, by omega, HL2, by rw [hl2]; exact HE7⟩
            case measure => simp [intOf]; omega
        · have z2 : (x.c == 1) = false := by simp [hc1]
          have HL2 := HSk.out (by simp [greyB, usedB, hc1])
          clear hk0 hc1
          go_wp2
          go_roundw
          case rel => exact ⟨k + 1, l, rl, cl, by go_num, rfl, by omega, by omega, HL2, HE⟩
          case measure => simp [intOf]; omega
    · have k1 : ¬ (k : Int) < (v.h.length : Int) := by omega
      have HLc : Hid (l = cellsG v.h) := by
        have h' := HL.out
        rw [List.take_of_length_le (by omega)] at h'
        exact h'
      have HLd : Hid (v.laid = (v.laid.toNat : Int) ∧ v.laid.toNat ≤ v.gl.length) := by
        have h' := HM.out.1.2.2
        show _ ∧ _
        omega
      have HS0 : Hid (l = cellsG v.h ++ (v.gl.take v.laid.toNat).drop v.laid.toNat) := by
        show _ = _
        rw [HLc.out, List.drop_eq_nil_of_le (by rw [List.length_take]; omega), List.append_nil]
      have q5 : l.length ≤ 40000 := by omega
      clear HL HLc d4 d6
      go_wp2_with fail
      clear d0 d5 l1
      go_loopw [5, 7] (fun vl i wr => ∃ (k : Nat) (l : List Int) (rl : Option Addr) (cl : Nat), i = .int .i64 k ∧ vl = .slice rl l.length cl ∧ k ≤ v.gl.length ∧ l.length ≤ 40000 + k ∧ Hid (v.laid.toNat ≤ k ∧ l = cellsG v.h ++ (v.gl.take k).drop v.laid.toNat) ∧ Hid (EV w wr ⟨pcr, pcc, pyr, pyc, pgr, pgc, plr, plc⟩ v (.slice none 0 0) [] (.slice none 0 0) [] (.slice rl l.length cl) l)) (fun _ i _ => v.gl.length - (intOf i).toNat)
      case atStart => exact ⟨v.laid.toNat, l, rl, cl, by rw [← HLd.out.1], rfl, HLd.out.2, by omega, ⟨Nat.le_refl _, HS0.out⟩, HE⟩
      case round =>
        clear HS0 HE q5 hll
        obtain ⟨k, l, rl, cl, rfl, rfl, hk, hll, HL, HE⟩ := hrel
        obtain ⟨d0, d1, d2, d3, d4, d5, d6⟩ := HE.out.vb.at7
        dsimp only at d0 d4 d6
        clear d1 d2 d3 d5
        have l1 := HE.out.lt
        by_cases hkl : k < v.gl.length
        · have k1 : (k : Int) < (v.gl.length : Int) := by omega
          obtain ⟨x, hx⟩ : ∃ x, v.gl[k]? = some x := ⟨_, List.getElem?_eq_getElem hkl⟩
          obtain ⟨b, o, hor, hcs⟩ := HV.out.g.below HE.out.bel
          have hgr : pgr = some ⟨b, o, none⟩ := hor.resolve_left (by omega)
          subst hgr
          obtain ⟨g1, y0, _⟩ := hcs k x hx
          have HL2 : Hid (v.laid.toNat ≤ k + 1 ∧ l ++ [x] = cellsG v.h ++ (v.gl.take (k + 1)).drop v.laid.toNat) := by
            have h' := HL.out
            refine ⟨by omega, ?_⟩
            rw [takei_more hx, List.drop_append_of_le_length (by rw [List.length_take]; omega), h'.2, List.append_assoc]
          clear hcs hor hx HL d0 d6
          have HE8 : Hid _ := HE.out.below ((Below.refl _ wr).alloc (Nat.le_refl _) (.cells #[.int .u64 x] 57))
          go_upto_region 10 with fail
          go_wp2_with (at_builtin; refine stop_of ?_)
          unfold Hid
          refine wpList_append_all _ rfl _ _ 25 rfl w.heap.size 57 i1 _ 1 8 Tryd.underlying25 hi1 hy0 hy1 hy2 rfl (by decide) (.slice rl l.length cl) l.length (l.map (Value.int .u64)) rfl HE8.out.rr (some ⟨wr.heap.size, 0, none⟩) 1 1 [.int .u64 x] rfl rfl (fun e => by cases e) (fun ad had j u hu => by cases had; rw [ad_add, Nat.zero_add]; exact new_cell wr _ _ j u hu) (by intro u hu; simp at hu; subst hu; rfl) (by unfold maxLen; omega) (by omega) HE8.out.bel.size ?_
          intro rl' cl' W8 hown8 hgr8 _
          have HE9 : Hid (EV w W8 ⟨pcr, pcc, pyr, pyc, some ⟨b, o, none⟩, pgc, plr, plc⟩ v (.slice none 0 0) [] (.slice none 0 0) [] (.slice rl' (l.length + 1) cl') (l ++ [x])) := HE8.out.growR hgr8 (by rw [List.length_append, List.map_append]; exact hown8)
          have hl2 : (l ++ [x]).length = l.length + 1 := by rw [List.length_append]; rfl
          clear hown8 hgr8 HE8 HE d4 y0 l1 g1
          go_wp2
          go_roundw
          case rel => exact ⟨k + 1, l ++ [x], rl', cl', by go_num, by rw [hl2], by omega, by omega, HL2, by rw [hl2]; exact HE9⟩
          case measure => simp [intOf]; omega
        · have k2 : ¬ (k : Int) < (v.gl.length : Int) := by omega
          have HS0 : Hid (l = cellsG v.h ++ (v.gl.drop v.laid.toNat ++ lanesG run (v.lanes.take 0))) := by
            have h' := HL.out.2
            rw [List.take_of_length_le (by omega)] at h'
            show _ = _
            rw [h']
            simp [lanesG]
          clear HL d0 d6
          go_wp2_with fail
          clear d4 l1
          go_loopw [5, 8] (fun vl i wr => ∃ (k : Nat) (l : List Int) (rl : Option Addr) (cl : Nat), i = .int .i64 k ∧ vl = .slice rl l.length cl ∧ k ≤ v.lanes.length ∧ Hid (l = cellsG v.h ++ (v.gl.drop v.laid.toNat ++ lanesG run (v.lanes.take k))) ∧ Hid (EV w wr ⟨pcr, pcc, pyr, pyc, pgr, pgc, plr, plc⟩ v (.slice none 0 0) [] (.slice none 0 0) [] (.slice rl l.length cl) l)) (fun _ i _ => v.lanes.length - (intOf i).toNat)
          case atStart => exact ⟨0, l, rl, cl, rfl, rfl, Nat.zero_le _, HS0, HE⟩
          case round =>
            clear HS0 HE hll
            obtain ⟨k, l, rl, cl, rfl, rfl, hk, HL, HE⟩ := hrel
            obtain ⟨d0, d1, d2, d3, d4, d5, d6⟩ := HE.out.vb.at7
            dsimp only at d0 d4 d6
            clear d1 d2 d3 d4 d5
            have l1 := HE.out.lt
            by_cases hkl : k < v.lanes.length
            · have k1 : (k : Int) < (v.lanes.length : Int) := by omega
              obtain ⟨x, hx⟩ : ∃ x, v.lanes[k]? = some x := ⟨_, List.getElem?_eq_getElem hkl⟩
              obtain ⟨b, o, hor, hcs⟩ := HV.out.l.below HE.out.bel
              have hlr : plr = some ⟨b, o, none⟩ := hor.resolve_left (by omega)
              subst hlr
              obtain ⟨g1, ⟨ry, rc, c0, hw, c3⟩, c4, c5⟩ := hcs k x hx
              have hlen : (cellsG v.h ++ (v.gl.drop v.laid.toNat ++ lanesG run (v.lanes.take (k + 1)))).length ≤ 60000 := by
                have h1 := cellsG_le v.h
                have h2 := lanesG_le run (v.lanes.take (k + 1))
                have h3 := flat_le (l := v.lanes) (k + 1)
                have h4 := HSm.out
                rw [List.length_append, List.length_append, List.length_drop]
                omega
              have HLn : Hid (cellsG v.h ++ (v.gl.drop v.laid.toNat ++ lanesG run (v.lanes.take (k + 1))) = l ++ if !x.sc && (run || x.en) then x.roots else []) := by
                show _ = _
                rw [lanesG_more hx, HL.out, List.append_assoc, List.append_assoc]
              have HN : Hid _ := wr_news hw
              have skip : (!x.sc && (run || x.en)) = false → Hid (l = cellsG v.h ++ (v.gl.drop v.laid.toNat ++ lanesG run (v.lanes.take (k + 1)))) := fun e => by
                have h' := HLn.out
                rw [e] at h'
                show _ = _
                rw [h']; simp
              have take : (!x.sc && (run || x.en)) = true → Hid (l ++ x.roots = cellsG v.h ++ (v.gl.drop v.laid.toNat ++ lanesG run (v.lanes.take (k + 1)))) := fun e => by
                have h' := HLn.out
                rw [e] at h'
                show _ = _
                rw [h']; rfl
              have HSk : Hid _ := skip
              have HTk : Hid _ := take
              have HLe : Hid _ := hlen
              clear skip take hcs hor hx HL d0 hw hlen
              cases hsc : x.sc
              · rw [hsc] at c4
                cases hre : (run || x.en)
                · have hr0 : run = false := by cases run <;> simp_all
                  have he0 : x.en = false := by cases run <;> simp_all
                  have HL2 := HSk.out (by rw [hsc, hre]; rfl)
                  rw [he0] at c5
                  clear hsc hre he0
                  subst hr0
                  go_wp2
                  go_roundw
                  case rel => exact ⟨k + 1, l, rl, cl, by go_num, rfl, by omega, HL2, HE⟩
                  case measure => simp [intOf]; omega
                · have HL2 := HTk.out (by rw [hsc, hre]; rfl)
                  have hRl : l.length + x.roots.length ≤ 60000 := by
                    have h1 := congrArg List.length HL2.out
                    have h2 := HLe.out
                    rw [List.length_append] at h1
                    omega
                  clear hsc
                  cases run
                  all_goals
                    try (have he1 : x.en = true := by simpa using hre
                         rw [he1] at c5
                         clear he1)
                    clear hre
                    go_upto_region 15 with fail
                    go_wp2_with (at_builtin; refine stop_of ?_)
                    unfold Hid
                    refine wpList_append_all _ rfl _ _ 25 rfl w.heap.size 57 i1 _ 1 8 Tryd.underlying25 hi1 hy0 hy1 hy2 rfl (by decide) (.slice rl l.length cl) l.length (l.map (Value.int .u64)) rfl HE.out.rr ry x.roots.length rc (x.roots.map (Value.int .u64)) rfl (by simp) HN.out.1 HN.out.2 (words_one _) (by unfold maxLen; omega) (by omega) HE.out.bel.size ?_
                    intro rl' cl' W8 hown8 hgr8 _
                    have HE9 : Hid (EV w W8 ⟨pcr, pcc, pyr, pyc, pgr, pgc, some ⟨b, o, none⟩, plc⟩ v (.slice none 0 0) [] (.slice none 0 0) [] (.slice rl' (l.length + x.roots.length) cl') (l ++ x.roots)) := HE.out.growR hgr8 (by rw [List.length_append, List.map_append]; exact hown8)
                    have hl2 : (l ++ x.roots).length = l.length + x.roots.length := by rw [List.length_append]
                    clear hown8 hgr8 HE d6 c0 c4 c5 l1 g1 HN
                    go_wp2
                    go_roundw
                    case rel => exact ⟨k + 1, l ++ x.roots, rl', cl', by go_num, by rw [hl2], by omega, HL2, by rw [hl2]; exact HE9⟩
                    case measure => simp [intOf]; omega
              · rw [hsc] at c4
                have HL2 := HSk.out (by rw [hsc]; rfl)
                clear hsc
                go_wp2
                go_roundw
                case rel => exact ⟨k + 1, l, rl, cl, by go_num, rfl, by omega, HL2, HE⟩
                case measure => simp [intOf]; omega
            · have k3 : ¬ (k : Int) < (v.lanes.length : Int) := by omega
              have HSr : Hid (l = srcL v run) := by
                have h' := HL.out
                rw [List.take_of_length_le (by omega)] at h'
                exact h'
              have HLe : Hid (l.length ≤ 60000) := by
                have h1 := cellsG_le v.h
                have h2 := lanesG_le run v.lanes
                have h4 := HSm.out
                show l.length ≤ 60000
                rw [HSr.out]
                unfold srcL
                rw [List.length_append, List.length_append, List.length_drop]
                omega
              clear HL
              have HFt : Hid (∀ u ∈ l, fitsW v.h.length u = true ∧ Rng u) := by
                show ∀ u ∈ l, _
                rw [HSr.out]
                exact src_fit HM.out.2.1 HV.out.h HV.out.g HV.out.l run
              go_wp2_with (at_make; refine stop_of ?_)
              unfold Hid
              refine wpList_make_full _ rfl _ _ 73 rfl wr.heap.size 4 i0 (.bool false) 1 Tryd.underlying73 hi0 hz0 hz1 .i64 .i64 _ _ v.h.length rfl rfl rfl rfl (by rw [hz2]; omega) (by unfold maxLen; omega) (Nat.le_refl _) ?_
              intro W3 hown hgr
              have HED : Hid (EV w W3 ⟨pcr, pcc, pyr, pyc, pgr, pgc, plr, plc⟩ v (.slice none 0 0) [] (.slice none 0 0) [] (.slice rl l.length cl) l ∧ DR W3 4 wr.heap.size v.h.length (fun j u => u = .bool (([] : List Nat).contains j)) ∧ w.heap.size ≤ wr.heap.size) := ⟨HE.out.below (grown_low hgr (fun g hg => by cases hg) (Nat.le_refl _)), (row_made hown (false_made _)).mono (fun j u _ hu => by rw [hu]; rfl), HE.out.bel.size⟩
              clear hown hgr HE d0 d6 l1
              generalize wr.heap.size = gO at *
              have HGu : Hid (GuOk v.h whiteB (srcL v run).length 0 [] l) := by rw [HSr.out]; exact GuOk.start _ _ _
              have HEq : Hid (guAll v.h whiteB (srcL v run) = guM v.h whiteB ((srcL v run).length + 2 * v.h.length - 0) 0 [] l) := by rw [HSr.out]; rfl
              have HN0 : Hid ((srcL v run).length ≤ 60000) := by
                have h' := HLe.out
                rw [HSr.out] at h'
                exact h'
              clear HSr HLe
              generalize hn0 : (srcL v run).length = n0 at HGu HEq HN0
              clear hn0
              have q6 : n0 ≤ 60000 := HN0.out
              go_wp2_with fail
              go_loopw [5, 10, 11, 12] (fun vl i _ _ wr => ∃ (k : Nat) (out : List Nat) (l : List Int) (rl : Option Addr) (cl : Nat), i = .int .i64 k ∧ vl = .slice rl l.length cl ∧ k ≤ l.length ∧ Hid (GuOk v.h whiteB n0 k out l) ∧ Hid (∀ u ∈ l, fitsW v.h.length u = true ∧ Rng u) ∧ Hid (guAll v.h whiteB (srcL v run) = guM v.h whiteB (n0 + 2 * v.h.length - k) k out l) ∧ Hid (EV w wr ⟨pcr, pcc, pyr, pyc, pgr, pgc, plr, plc⟩ v (.slice none 0 0) [] (.slice none 0 0) [] (.slice rl l.length cl) l ∧ DR wr 4 gO v.h.length (fun j u => u = .bool (out.contains j)) ∧ w.heap.size ≤ gO)) (fun _ i _ _ _ => n0 + 2 * v.h.length + 1 - (intOf i).toNat)
              case atStart => exact ⟨0, [], l, rl, cl, rfl, rfl, Nat.zero_le _, HGu, HFt, HEq, HED⟩
              case round =>
                clear HGu HFt HEq HED
                obtain ⟨k, out, l, rl, cl, rfl, rfl, hk, HGu, HFt, HEq, HED⟩ := hrel
                have hole := HGu.out.out_le
                have hall := HGu.out.len
                by_cases hkl : k < l.length
                · have k4 : (k : Int) < (l.length : Int) := by omega
                  obtain ⟨x, hx⟩ : ∃ x, l[k]? = some x := ⟨_, List.getElem?_eq_getElem hkl⟩
                  obtain ⟨gl, rfl, e1, lg⟩ := word_at HED.out.1.rr hx
                  have hfx := HFt.out x (List.mem_of_getElem? hx)
                  have HG1 : Hid _ := HGu.out.step hx
                  have HE1 : Hid (guAll v.h whiteB (srcL v run) = guM v.h whiteB (n0 + 2 * v.h.length - (k + 1)) (k + 1) (guS v.h whiteB out l x).1 (guS v.h whiteB out l x).2) := by
                    show _ = _
                    rw [HEq.out, show n0 + 2 * v.h.length - k = (n0 + 2 * v.h.length - (k + 1)) + 1 by omega, guM, hx]
                  have HCl : Hid (Calls Tryd.prog 72 #[.int .u64 x] wr fun e w' => e = .returned (.tuple #[.int .i64 (cellV x), .bool (refB x)]) ∧ w' = wr) := by
                    have := refCell_any x wr hfx.2
                    rw [cellN_is, isRef_is] at this
                    exact this
                  clear hx HEq HGu
                  cases hrf : refB x
                  · rw [hrf] at HCl
                    have eS : guS v.h whiteB out l x = (out, l) := by unfold guS; rw [refs_none hrf]
                    rw [eS] at HE1 HG1
                    clear hrf eS
                    go_wp2_with fail
                    refine Calls.mono HCl.out ?_
                    rintro e w5 ⟨rfl, rfl⟩
                    clear HCl
                    go_wp2
                    go_roundw
                    case rel => exact ⟨k + 1, out, l, _, cl, by go_num, rfl, by omega, HG1, HFt, HE1, HED⟩
                    case measure => simp [intOf]; omega
                  · rw [hrf] at HCl
                    obtain ⟨c, hc1, hc2, hc3⟩ := refs_some hfx.1 hrf
                    rw [hc3] at HCl
                    have k2 : (c : Int) < (v.h.length : Int) := by omega
                    obtain ⟨u, hu, hu2⟩ := HED.out.2.1.cell hc2
                    rw [hu2] at hu
                    have lm := HED.out.2.1.lt
                    have fz := HED.out.2.1.fz c
                    clear hrf hu2
                    cases hct : out.contains c
                    · rw [hct] at hu
                      obtain ⟨y, hy⟩ : ∃ y, v.h[c]? = some y := ⟨_, List.getElem?_eq_getElem hc2⟩
                      obtain ⟨b, o, hor, hcs⟩ := HV.out.h.below HED.out.1.bel
                      have hcr : pcr = some ⟨b, o, none⟩ := hor.resolve_left (by omega)
                      subst hcr
                      obtain ⟨g1, ⟨y0, y1, y2, y3⟩, hok⟩ := hcs c y hy
                      obtain ⟨d0, _, _, _, _, _, _⟩ := HED.out.1.vb.at7
                      dsimp only at d0
                      have l1 := HED.out.1.lt
                      have HWh : Hid _ := refWhite_any y wr
                      unfold cV at HWh
                      have HY : Hid (v.h[c]? = some y) := hy
                      have HOk : Hid (OkK y) := hok
                      have HCt : Hid (out.contains c = false) := hct
                      clear hcs hor hy hct hok
                      go_wp2_with fail
                      refine Calls.mono HCl.out ?_
                      rintro e w5 ⟨rfl, rfl⟩
                      clear HCl
                      go_wp2_with fail
                      refine Calls.mono HWh.out ?_
                      rintro e w6 ⟨rfl, hb6⟩
                      have E6 := HED.out.1.below hb6
                      have D6 := HED.out.2.1.kept (hb6.block _ lm)
                      have low := HED.out.2.2
                      clear e1 lg hu lm fz y0 y1 y2 y3 d0 l1 g1 HWh hb6 HED
                      obtain ⟨u6, hu, hu2⟩ := D6.cell hc2
                      rw [hu2, HCt.out] at hu
                      have lm := D6.lt
                      have fz := D6.fz c
                      clear hu2
                      cases hwh : whiteB y
                      · have eS : guS v.h whiteB out l x = (out, l) := by unfold guS; rw [hc1]; dsimp only; rw [HCt.out, HY.out]; simp [hwh]
                        rw [eS] at HE1 HG1
                        have HED7 : Hid (EV w (w6.setCell ⟨gO, c, none⟩ (.bool false)) ⟨some ⟨b, o, none⟩, pcc, pyr, pyc, pgr, pgc, plr, plc⟩ v (.slice none 0 0) [] (.slice none 0 0) [] (.slice (some ⟨gl, 0, none⟩) l.length cl) l ∧ DR (w6.setCell ⟨gO, c, none⟩ (.bool false)) 4 gO v.h.length (fun j u => u = .bool (out.contains j)) ∧ w.heap.size ≤ gO) := ⟨E6.other D6 low, D6.set (fun j u _ hu => hu) (by rw [HCt.out]), low⟩
                        clear eS hwh E6 D6 low
                        go_wp2
                        go_roundw
                        case rel => exact ⟨k + 1, out, l, _, cl, by go_num, rfl, by omega, HG1, HFt, HE1, HED7⟩
                        case measure => simp [intOf]; omega
                      · have eS : guS v.h whiteB out l x = (out ++ [c], l ++ [y.a, y.b]) := by unfold guS; rw [hc1]; dsimp only; rw [HCt.out, HY.out]; simp [hwh]
                        rw [eS] at HE1 HG1
                        have HED7 : Hid (EV w (w6.setCell ⟨gO, c, none⟩ (.bool true)) ⟨some ⟨b, o, none⟩, pcc, pyr, pyc, pgr, pgc, plr, plc⟩ v (.slice none 0 0) [] (.slice none 0 0) [] (.slice (some ⟨gl, 0, none⟩) l.length cl) l ∧ DR (w6.setCell ⟨gO, c, none⟩ (.bool true)) 4 gO v.h.length (fun j u => u = .bool ((out ++ [c]).contains j)) ∧ w.heap.size ≤ gO) := ⟨E6.other D6 low, D6.set (fun j u hj hu => by rw [hu]; simp [hj]) (by simp), low⟩
                        have HF2 : Hid (∀ u ∈ l ++ [y.a, y.b], fitsW v.h.length u = true ∧ Rng u) := fun u hu => by
                          rcases List.mem_append.1 hu with hu | hu
                          · exact HFt.out u hu
                          · have hk0 : y.k ≠ 0 := fun e => by simp [whiteB, usedB, e] at hwh
                            have := okh_of (words_is.2 HM.out.2.1).2 (hr_ok HV.out.h) y (List.mem_of_getElem? HY.out) hk0
                            simp only [List.mem_cons, List.not_mem_nil, or_false] at hu
                            rcases hu with rfl | rfl
                            · exact this.1
                            · exact this.2
                        have hl2 : (l ++ [y.a, y.b]).length = l.length + 2 := by rw [List.length_append]; rfl
                        clear eS hwh E6 D6 low HFt
                        go_upto_region 24 with fail
                        generalize w6.setCell ⟨gO, c, none⟩ (.bool true) = W7 at HED7 ⊢
                        clear hu lm fz
                        obtain ⟨d0, _, _, _, _, _, _⟩ := HED7.out.1.vb.at7
                        dsimp only at d0
                        have l1 := HED7.out.1.lt
                        obtain ⟨b', o', hor', hcs'⟩ := HV.out.h.below HED7.out.1.bel
                        have hbo : b' = b ∧ o' = o := by
                          have := hor'.resolve_left (by omega)
                          cases this
                          exact ⟨rfl, rfl⟩
                        obtain ⟨rfl, rfl⟩ := hbo
                        obtain ⟨g1, ⟨y0, y1, y2, y3⟩, _⟩ := hcs' c y HY.out
                        have hsw := HED7.out.1.bel.size
                        clear hcs' hor'
                        go_region_law (refine step_append_lies _ rfl _ _ 25 rfl w.heap.size 57 i1 (.int .u64 0) 1 8 Tryd.underlying25 hi1 hy0 hy1 hy2 rfl (by decide) (.slice (some ⟨gl, 0, none⟩) l.length cl) l.length (l.map (Value.int .u64)) rfl (World.ownsRow.alloc (HED7.out.1.below (below_d W7)).rr _) ⟨_, 0, none⟩ 2 2 [.int .u64 y.a, .int .u64 y.b] rfl rfl (cell_two_new _ _ _ _) (by intro u hu; simp at hu; rcases hu with rfl | rfl <;> rfl) (by omega) (by unfold maxLen; omega) (by omega) (by show w.heap.size ≤ (W7.alloc _).heap.size; rw [World.size_alloc]; omega) _ rfl ?_; intro gn cn w8 hown8 hgr8 _ _)
                        all_goals
                          have bb : Below W7.heap.size W7 (W7.drew.alloc (.cells #[.int .u64 y.a, .int .u64 y.b] 57)) := (below_d W7).trans ((Below.refl _ W7.drew).alloc (Nat.le_refl _) _)
                          have E8 := HED7.out.1.below bb
                          have HED8 : Hid (EV w w8 ⟨some ⟨b', o', none⟩, pcc, pyr, pyc, pgr, pgc, plr, plc⟩ v (.slice none 0 0) [] (.slice none 0 0) [] (.slice (some ⟨gn, 0, none⟩) (l.length + 2) cn) (l ++ [y.a, y.b]) ∧ DR w8 4 gO v.h.length (fun j u => u = .bool ((out ++ [c]).contains j)) ∧ w.heap.size ≤ gO) := ⟨E8.growR hgr8 (by rw [List.length_append, List.map_append]; exact hown8), (HED7.out.2.1.kept (bb.block _ HED7.out.2.1.lt)).kept (hgr8.block gO (Nat.lt_of_lt_of_le HED7.out.2.1.lt bb.size) (fun e => dr_ne (HED7.out.2.1.kept (bb.block _ HED7.out.2.1.lt)) E8.rr (by decide) e.symm)), HED7.out.2.2⟩
                          clear hown8 hgr8 bb E8 HED7 d0 y0 y1 y2 y3 l1 g1
                          go_wp2
                          go_roundw
                          case rel => exact ⟨k + 1, out ++ [c], l ++ [y.a, y.b], _, cn, by go_num, by rw [hl2], by omega, HG1, HF2, HE1, by rw [hl2]; exact HED8⟩
                          case measure => simp [intOf]; omega
                    · rw [hct] at hu
                      have eS : guS v.h whiteB out l x = (out, l) := by unfold guS; rw [hc1]; dsimp only; rw [hct]; rfl
                      rw [eS] at HE1 HG1
                      clear hct eS
                      go_wp2_with fail
                      refine Calls.mono HCl.out ?_
                      rintro e w5 ⟨rfl, rfl⟩
                      clear HCl
                      go_wp2
                      go_roundw
                      case rel => exact ⟨k + 1, out, l, _, cl, by go_num, rfl, by omega, HG1, HFt, HE1, HED⟩
                      case measure => simp [intOf]; omega
                · have k4 : ¬ (k : Int) < (l.length : Int) := by omega
                  have HEe : Hid (guAll v.h whiteB (srcL v run) = out) := by
                    show _ = _
                    rw [HEq.out]
                    cases n0 + 2 * v.h.length - k with
                    | zero => rfl
                    | succ f => unfold guM; rw [List.getElem?_eq_none (by omega)]
                  go_wp2
                  go_ret
                  refine ⟨⟨gO, rfl, ?_⟩, HED.out.1.bel⟩
                  rw [HEe.out]
                  simpa using HED.out.2.1
end Go.Proofs.YtphpkedfcmghmaaDoor
