/- The holders of a view, one by one. -/
import Derived.Test.YtomdbcddokaagaaDoorGC
import Derived.Shelf.Abstract
namespace Go.Proofs.YtomdbcddokaagaaDoor
open Go.RowKit Go.Shelf

attribute [local go_sem] Oper.semAt_some
set_option maxHeartbeats 1000000 in
theorem holders_in (n : Nat) (p : Vp) (v : Vw) (w : World) :
    CallsIn Fence.wide n Tryd.prog 79 #[.agg (p.cells v)] w fun e w' => e = .returned (.func (.func 96) #[] #[.pointer (some ⟨w.heap.size, 0, none⟩)]) ∧ w' = w.alloc (.cells (p.cells v) 28) := by
  unfold Vp.cells
  refine callsIn_of_wp Tryd.func79 rfl trivial ?_ rfl
  simp only [Tryd.ntmps79, List.size_toArray, List.length_cons, List.length_nil, Nat.reduceAdd, Nat.reduceSub, Array.replicate_succ, Array.replicate_zero, List.push_toArray, List.append_toArray, List.nil_append, List.cons_append]
  gi_wp2
  go_ret
  exact ⟨rfl, rfl⟩
theorem nat0 : ((0 : Nat) : Int) = 0 := rfl
theorem nat1 : ((1 : Nat) : Int) = 1 := rfl
theorem nat2 : ((2 : Nat) : Int) = 2 := rfl
def hdV (x : Hd) : Value := .agg #[.int .u8 x.s, .int .i64 x.i]
set_option maxRecDepth 100000 in
set_option maxHeartbeats 4000000 in
theorem holders1_in (n : Nat) (hn : 1 ≤ n) (l b : Nat) (p : Vp) (v : Vw) (I Ix : Nat → World → Prop)
    (hV : ∀ j W, I j W → VL W p v ∧ VB W b p v) (hA : ∀ j W W', I j W → Below W.heap.size W W' → I j W')
    (hY : ∀ j x W ra ca, I j W → (holdersM v)[j]? = some x → WR W ra x.ws → x.ws.length ≤ 281474976710656 → YieldAt Fence.wide (n - 1) Tryd.prog l #[hdV x, .slice ra x.ws.length ca] W fun e W' => (e = .returned (.bool true) ∧ I (j + 1) W') ∨ (e = .returned (.bool false) ∧ Ix (j + 1) W'))
    (W : World) (h0 : I 0 W) :
    CallsIn Fence.wide n Tryd.prog 96 #[.func (.yield l) #[] #[], .pointer (some ⟨b, 0, none⟩)] W fun e W' => (∃ v, e = .returned v) ∧ (I (holdersM v).length W' ∨ ∃ j, Ix j W') := by
  refine callsIn_of_wp Tryd.func96 rfl trivial ?_ rfl
  simp only [Tryd.ntmps96, List.size_toArray, List.length_cons, List.length_nil, Nat.reduceAdd, Nat.reduceSub, Array.replicate_succ, Array.replicate_zero, List.push_toArray, List.append_toArray, List.nil_append, List.cons_append]
  obtain ⟨c0, c4, c6⟩ := (hV 0 W h0).2.at
  have hl := (hV 0 W h0).1.hl
  have hgl := (hV 0 W h0).1.gl
  have hll := (hV 0 W h0).1.ll
  gi_wp2
  gi_loopw [12, 3, 4] (fun i _ _ wr => ∃ j : Nat, i = .int .i64 j ∧ j ≤ v.h.length ∧ Hid (I (nC v j) wr)) (fun i _ _ _ => v.h.length - (intOf i).toNat)
  case atStart => exact ⟨0, rfl, Nat.zero_le _, h0⟩
  case round =>
    obtain ⟨j, rfl, hj, HI⟩ := hrel
    by_cases hjl : j < v.h.length
    · have k1 : (j : Int) < (v.h.length : Int) := by omega
      obtain ⟨x, hx⟩ : ∃ x, v.h[j]? = some x := ⟨_, List.getElem?_eq_getElem hjl⟩
      obtain ⟨bb, o, hor, hcs⟩ := (hV _ _ HI.out).1.h
      have hra : p.cr = some ⟨bb, o, none⟩ := hor.resolve_left (by omega)
      rw [hra]
      obtain ⟨g1, ⟨y2, y3, y4, y5⟩, ok⟩ := hcs j x hx
      have HX : Hid (v.h[j]? = some x) := hx
      have HK : Hid (OkK x) := ok
      clear hx hcs hor ok
      gi_wp2_with fail
      refine ⟨trivial, ?_⟩
      refine (callsIn_wide.2 (isUsed_any x _)).mono ?_
      rintro e w' ⟨rfl, hb⟩
      have HB : Hid (Below wr.heap.size wr w') := ((Below.refl _ _).alloc (Nat.le_refl _) _).trans (hb.mono (by rw [World.size_alloc]; omega))
      have hn0 : (wr.alloc (.cells #[.int .u8 x.k, .int .u8 x.c, .int .u64 x.a, .int .u64 x.b] 59)).heap[wr.heap.size]? = some (.cells #[.int .u8 x.k, .int .u8 x.c, .int .u64 x.a, .int .u64 x.b] 59 (0, 0)) := World.alloc_heap_new _ _
      have hn1 := (hb.block wr.heap.size (by rw [World.size_alloc]; omega)).trans hn0
      have z2 : w'.cell? ⟨wr.heap.size, 2, none⟩ = some (.int .u64 x.a) := by simp [World.cell?, hn1]
      have z3 : w'.cell? ⟨wr.heap.size, 3, none⟩ = some (.int .u64 x.b) := by simp [World.cell?, hn1]
      clear hb hn0 hn1
      cases hu : usedB x
      · have hk : x.k = 0 := by simpa [usedB] using hu
        have HI2 : Hid (I (nC v (j + 1)) w') := by
          show I _ _
          rw [nC_free HX.out hk]
          exact hA _ _ _ HI.out HB.out
        clear hk
        gi_wp2
        refine ⟨fun _ h => (nomatch h), ?_⟩
        gi_wp2
        go_roundw
        case rel => exact ⟨j + 1, by go_num, by omega, HI2⟩
        case measure => simp [intOf]; omega
      · have hk : ¬ x.k = 0 := by simpa [usedB] using hu
        have HA : Hid ((holdersM v)[nC v j]? = some ⟨0, j, [x.a, x.b]⟩) := at_cell HX.out hk
        have HN : Hid (nC v (j + 1) = nC v j + 1) := nC_used HX.out hk
        clear hk
        have hy1 := hY (nC v j) ⟨0, j, [x.a, x.b]⟩ (w'.alloc (.cells #[.int .u64 x.a, .int .u64 x.b] 57)) (some ⟨w'.heap.size, 0, none⟩) 2 (hA _ _ _ HI.out (HB.out.alloc HB.out.size _)) HA.out (wrn_two _ _ _ _ HK.out.a HK.out.b) (by simp)
        obtain ⟨fn, tmps, assign, body, hy, hR⟩ := hy1
        simp only [hdV, nat0, List.length_cons, List.length_nil, Nat.reduceAdd] at hy
        gi_wp2_with fail
        refine hR.mono ?_
        rintro e W2 (⟨rfl, hI2⟩ | ⟨rfl, hx2⟩)
        · have HI2 : Hid (I (nC v (j + 1)) W2) := by rw [HN.out]; exact hI2
          clear hI2 hy hR
          gi_wp2
          go_roundw
          case rel => exact ⟨j + 1, by go_num, by omega, HI2⟩
          case measure => simp [intOf]; omega
        · have HX2 : Hid (Ix (nC v j + 1) W2) := hx2
          clear hx2 hy hR
          gi_wp2
          refine bodyPost_ret (results_none rfl _ _ _) rfl ?_
          exact ⟨⟨_, rfl⟩, .inr ⟨_, HX2.out⟩⟩
    · have k1 : ¬ (j : Int) < (v.h.length : Int) := by omega
      have HI0 : Hid (I (nG v 0) wr) := by rw [nG_zero, show v.h.length = j by omega]; exact HI.out
      obtain ⟨c0', c4', c6'⟩ := (hV _ _ HI0.out).2.at
      clear HI
      gi_wp2
      gi_loopw [35, 5, 6] (fun i _ _ wr => ∃ j : Nat, i = .int .i64 j ∧ j ≤ v.gl.length ∧ Hid (I (nG v j) wr)) (fun i _ _ _ => v.gl.length - (intOf i).toNat)
      case atStart => exact ⟨0, rfl, Nat.zero_le _, HI0⟩
      case round =>
        clear HI0 c0' c4' c6'
        obtain ⟨j, rfl, hj, HI⟩ := hrel
        by_cases hjl : j < v.gl.length
        · have k1 : (j : Int) < (v.gl.length : Int) := by omega
          obtain ⟨x, hx⟩ : ∃ x, v.gl[j]? = some x := ⟨_, List.getElem?_eq_getElem hjl⟩
          obtain ⟨bb, o, hor, hcs⟩ := (hV _ _ HI.out).1.g
          have hra : p.gr = some ⟨bb, o, none⟩ := hor.resolve_left (by omega)
          rw [hra]
          obtain ⟨g1, y2, ok⟩ := hcs j x hx
          have HN : Hid (nG v (j + 1) = nG v j + 1) := nG_more hx
          have hy1 := hY (nG v j) ⟨1, j, [x]⟩ (wr.alloc (.cells #[.int .u64 x] 57)) (some ⟨wr.heap.size, 0, none⟩) 1 (hA _ _ _ HI.out ((Below.refl _ _).alloc (Nat.le_refl _) _)) (at_glob hx) (wrn_one _ _ _ ok) (by simp)
          clear hx hcs hor ok
          obtain ⟨fn, tmps, assign, body, hy, hR⟩ := hy1
          simp only [hdV, nat1, List.length_cons, List.length_nil, Nat.reduceAdd] at hy
          gi_wp2_with fail
          refine hR.mono ?_
          rintro e W2 (⟨rfl, hI2⟩ | ⟨rfl, hx2⟩)
          · have HI2 : Hid (I (nG v (j + 1)) W2) := by rw [HN.out]; exact hI2
            clear hI2 hy hR
            gi_wp2
            go_roundw
            case rel => exact ⟨j + 1, by go_num, by omega, HI2⟩
            case measure => simp [intOf]; omega
          · have HX2 : Hid (Ix (nG v j + 1) W2) := hx2
            clear hx2 hy hR
            gi_wp2
            refine bodyPost_ret (results_none rfl _ _ _) rfl ?_
            exact ⟨⟨_, rfl⟩, .inr ⟨_, HX2.out⟩⟩
        · have k1 : ¬ (j : Int) < (v.gl.length : Int) := by omega
          have HI0 : Hid (I (nL v 0) wr) := by rw [nL_zero, show v.gl.length = j by omega]; exact HI.out
          obtain ⟨c0', c4', c6'⟩ := (hV _ _ HI0.out).2.at
          clear HI
          gi_wp2
          gi_loopw [51, 7, 8] (fun i _ _ wr => ∃ j : Nat, i = .int .i64 j ∧ j ≤ v.lanes.length ∧ Hid (I (nL v j) wr)) (fun i _ _ _ => v.lanes.length - (intOf i).toNat)
          case atStart => exact ⟨0, rfl, Nat.zero_le _, HI0⟩
          case round =>
            clear HI0 c0' c4' c6'
            obtain ⟨j, rfl, hj, HI⟩ := hrel
            by_cases hjl : j < v.lanes.length
            · have k1 : (j : Int) < (v.lanes.length : Int) := by omega
              obtain ⟨x, hx⟩ : ∃ x, v.lanes[j]? = some x := ⟨_, List.getElem?_eq_getElem hjl⟩
              obtain ⟨bb, o, hor, hcs⟩ := (hV _ _ HI.out).1.l
              have hra : p.lr = some ⟨bb, o, none⟩ := hor.resolve_left (by omega)
              rw [hra]
              obtain ⟨g1, ⟨rr, cc, y2, hw, hlen⟩, y3, y4⟩ := hcs j x hx
              have HN : Hid (nL v (j + 1) = nL v j + 1) := nL_more hx
              have hbw : Below _ _ _ := (Below.refl _ wr).alloc (Nat.le_refl _) (.cells #[.slice rr x.roots.length cc, .bool x.sc, .bool x.en] 61)
              have hy1 := hY (nL v j) ⟨2, j, x.roots⟩ (wr.alloc (.cells #[.slice rr x.roots.length cc, .bool x.sc, .bool x.en] 61)) rr cc (hA _ _ _ HI.out hbw) (at_lane hx) (hw.below hbw) hlen
              clear hx hcs hor hw hlen
              obtain ⟨fn, tmps, assign, body, hy, hR⟩ := hy1
              simp only [hdV, nat2] at hy
              gi_wp2_with fail
              refine hR.mono ?_
              rintro e W2 (⟨rfl, hI2⟩ | ⟨rfl, hx2⟩)
              · have HI2 : Hid (I (nL v (j + 1)) W2) := by rw [HN.out]; exact hI2
                clear hI2 hy hR
                gi_wp2
                go_roundw
                case rel => exact ⟨j + 1, by go_num, by omega, HI2⟩
                case measure => simp [intOf]; omega
              · have HX2 : Hid (Ix (nL v j + 1) W2) := hx2
                clear hx2 hy hR
                gi_wp2
                refine bodyPost_ret (results_none rfl _ _ _) rfl ?_
                exact ⟨⟨_, rfl⟩, .inr ⟨_, HX2.out⟩⟩
            · have k1 : ¬ (j : Int) < (v.lanes.length : Int) := by omega
              have HI0 : Hid (I (holdersM v).length wr) := by rw [← nL_all, show v.lanes.length = j by omega]; exact HI.out
              clear HI
              gi_wp2
              refine bodyPost_end (results_none rfl _ _ _) rfl ?_
              exact ⟨⟨_, rfl⟩, .inl HI0.out⟩
end Go.Proofs.YtomdbcddokaagaaDoor
