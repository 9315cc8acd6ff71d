/- A world of one's own: steps that do nothing; a lane's fill.; A world of one's own: whatever a lane or the collector does is a move.; A world of one's own: lane and collect, of whatever kind.; A world of one's own: what is kept between two steps; Holds of it.; A world of one's own: a lane more.; A world of one's own: Holds of a view with a lane more. -/
import Derived.Test.YtomdbcddokaagaaDoorGL
import Derived.Test.YtomdbcddokaagaaDoorGR
import Derived.Test.YtomdbcddokaagaaDoorGS
import Derived.Test.YtomdbcddokaagaaDoorGT
import Derived.Test.YtomdbcddokaagaaDoorHKFill
import Derived.Test.YtomdbcddokaagaaDoorHKJoin
/- A world of one's own: steps that do nothing; a lane's fill. -/
namespace Go.Proofs.YtomdbcddokaagaaDoor
open Go.RowKit

set_option maxRecDepth 100000 in
set_option maxHeartbeats 16000000 in
theorem lane_fill (w0 : Wz) (w : World) (wb gl i : Nat) (p : Vp) (v : Vw) (L : List Lq) (q : Lq) (who a b d : Int) (hX : KX w0 w wb p v L) (hT : Tab w) (hp : v.ph = 1 ∨ v.ph = 2) (hs : v.h.length ≤ 100 ∧ v.grey.length + 2 ≤ 100000) (hq : L[i]? = some q) (hpl : p.lr = some ⟨gl, 0, none⟩) (hr : q.x.roots.length ≤ 2000) (ha : -9223372036854775808 ≤ a ∧ a ≤ 9223372036854775807) (hb : -9223372036854775808 ≤ b ∧ b ≤ 9223372036854775807) (hd : -9223372036854775808 ≤ d ∧ d ≤ 9223372036854775807) :
    Calls Tryd.prog 62 #[.pointer (some ⟨wb, 0, none⟩), .agg #[.int .i64 5, .int .i64 who, .int .i64 a, .int .i64 b, .int .i64 d], .pointer (some ⟨gl, i * 3, none⟩)] w fun e w' => FillR w0 wb p v L i q (valM q.x.roots a) (valM q.x.roots b) e w' := by
  have hB0 := (Below.refl w.heap.size w).alloc (Nat.le_refl _) (.cells #[.int .i64 5, .int .i64 who, .int .i64 a, .int .i64 b, .int .i64 d] 72)
  have HSo : Hid _ := kfill_any w0 (w.alloc (.cells #[.int .i64 5, .int .i64 who, .int .i64 a, .int .i64 b, .int .i64 d] 72)) wb gl i p v L q 5 who a b d (hX.below hB0) (hT.below hB0) hp hs hq hpl hr ha hb hd
  clear hX hT hp hs hq hpl hr ha hd hB0
  go_enter Tryd.func62, Tryd.ntmps62
  go_wp2_with fail
  refine Calls.mono HSo.out ?_
  intro e w2 h2
  have h3 := h2.1
  subst h3
  have HF : Hid _ := h2
  clear h2 HSo
  go_wp2_with fail
  go_ret
  exact ⟨rfl, HF.out.2⟩
set_option maxRecDepth 100000 in
set_option maxHeartbeats 16000000 in
theorem lane_idle (w : World) (P P2 : Value) (kd who a b d : Int) (h1 : ¬ kd = 1) (h2 : ¬ kd = 2) (h3 : ¬ kd = 3) (h4 : ¬ kd = 4) (h5 : ¬ kd = 5) (h6 : ¬ kd = 6) (h7 : ¬ kd = 7) (h9 : ¬ kd = 9) :
    Calls Tryd.prog 62 #[P, .agg #[.int .i64 kd, .int .i64 who, .int .i64 a, .int .i64 b, .int .i64 d], P2] w fun e w' => e = .returned (.bool true) ∧ Below w.heap.size w w' := by
  have HB : Hid (Below w.heap.size w (w.alloc (.cells #[.int .i64 kd, .int .i64 who, .int .i64 a, .int .i64 b, .int .i64 d] 72))) := (Below.refl w.heap.size w).alloc (Nat.le_refl _) _
  go_enter Tryd.func62, Tryd.ntmps62
  go_wp2
  go_ret
  exact ⟨rfl, HB.out⟩
set_option maxRecDepth 100000 in
set_option maxHeartbeats 16000000 in
theorem collect_idle (w : World) (P : Value) (kd who a b d : Int) (h1 : ¬ kd = 10) (h2 : ¬ kd = 11) (h3 : ¬ kd = 12) :
    Calls Tryd.prog 59 #[P, .agg #[.int .i64 kd, .int .i64 who, .int .i64 a, .int .i64 b, .int .i64 d]] w fun e w' => e = .returned (.bool true) ∧ Below w.heap.size w w' := by
  have HB : Hid (Below w.heap.size w (w.alloc (.cells #[.int .i64 kd, .int .i64 who, .int .i64 a, .int .i64 b, .int .i64 d] 72))) := (Below.refl w.heap.size w).alloc (Nat.le_refl _) _
  go_enter Tryd.func59, Tryd.ntmps59
  go_wp2
  go_ret
  exact ⟨rfl, HB.out⟩
set_option maxRecDepth 100000 in
set_option maxHeartbeats 16000000 in
theorem collect_none (w0 : Wz) (w : World) (wb : Nat) (p : Vp) (v : Vw) (L : List Lq) (who a b d : Int) (hX : KX w0 w wb p v L) (hL : L.length = 0) :
    Calls Tryd.prog 59 #[.pointer (some ⟨wb, 0, none⟩), .agg #[.int .i64 11, .int .i64 who, .int .i64 a, .int .i64 b, .int .i64 d]] w fun e w' => e = .returned (.bool true) ∧ Below w.heap.size w w' := by
  have HB : Hid (Below w.heap.size w (w.alloc (.cells #[.int .i64 11, .int .i64 who, .int .i64 a, .int .i64 b, .int .i64 d] 72))) := (Below.refl w.heap.size w).alloc (Nat.le_refl _) _
  have X := hX.below HB.out
  have hlen : v.lanes.length = 0 := by rw [← hX.e, List.length_map, hL]
  have f6 : (w.alloc (.cells #[.int .i64 11, .int .i64 who, .int .i64 a, .int .i64 b, .int .i64 d] 72)).cell? ⟨wb, 6, none⟩ = some (.slice p.lr 0 p.lc) := by
    have h : (w.alloc (.cells #[.int .i64 11, .int .i64 who, .int .i64 a, .int .i64 b, .int .i64 d] 72)).cell? ⟨wb, 6, none⟩ = some (.slice p.lr v.lanes.length p.lc) := heap_cell X.b rfl
    rw [hlen] at h
    exact h
  have lwb := heap_lt X.b
  clear X hX hL hlen
  go_enter Tryd.func59, Tryd.ntmps59
  go_upto_region 8 with fail
  generalize w.alloc (.cells #[.int .i64 11, .int .i64 who, .int .i64 a, .int .i64 b, .int .i64 d] 72) = W at HB f6 lwb ⊢
  go_wp2
  go_ret
  exact ⟨rfl, HB.out⟩
set_option maxRecDepth 100000 in
set_option maxHeartbeats 16000000 in
theorem collect_nogrey (w0 : Wz) (w : World) (wb : Nat) (p : Vp) (v : Vw) (L : List Lq) (who a b d : Int) (hX : KX w0 w wb p v L) (hL : v.grey = []) :
    Calls Tryd.prog 59 #[.pointer (some ⟨wb, 0, none⟩), .agg #[.int .i64 12, .int .i64 who, .int .i64 a, .int .i64 b, .int .i64 d]] w fun e w' => e = .returned (.bool true) ∧ Below w.heap.size w w' := by
  have HB : Hid (Below w.heap.size w (w.alloc (.cells #[.int .i64 12, .int .i64 who, .int .i64 a, .int .i64 b, .int .i64 d] 72))) := (Below.refl w.heap.size w).alloc (Nat.le_refl _) _
  have X := hX.below HB.out
  have f3 : (w.alloc (.cells #[.int .i64 12, .int .i64 who, .int .i64 a, .int .i64 b, .int .i64 d] 72)).cell? ⟨wb, 3, none⟩ = some (.slice p.yr 0 p.yc) := by
    have h : (w.alloc (.cells #[.int .i64 12, .int .i64 who, .int .i64 a, .int .i64 b, .int .i64 d] 72)).cell? ⟨wb, 3, none⟩ = some (.slice p.yr v.grey.length p.yc) := heap_cell X.b rfl
    rw [hL] at h
    exact h
  have lwb := heap_lt X.b
  clear X hX hL
  go_enter Tryd.func59, Tryd.ntmps59
  go_upto_region 18 with fail
  generalize w.alloc (.cells #[.int .i64 12, .int .i64 who, .int .i64 a, .int .i64 b, .int .i64 d] 72) = W at HB f3 lwb ⊢
  go_wp2
  go_ret
  exact ⟨rfl, HB.out⟩
end Go.Proofs.YtomdbcddokaagaaDoor

/- A world of one's own: whatever a lane or the collector does is a move. -/
namespace Go.Proofs.YtomdbcddokaagaaDoor
open Go.RowKit

theorem refN_mk {n : Nat} (h : n ≤ 2147483647) : refN (mkW 8 (n : Int)) = some n := by
  have ht : isTagB 8 = true := by decide
  have hm : mayB 8 (n : Int) = true := by
    rw [may_iff]; simp [lo, hi]; omega
  have e : mkW 8 (n : Int) = mk 8 n := by unfold mkW; rw [if_pos ht, if_pos hm]
  have hw := wd_mk ht hm
  have h1 : ofT (mk 8 n) = 8 := by unfold ofT; rw [if_pos hw, tg_mk _ (by omega) (by omega)]
  have h2 : ofN (mk 8 n) = n := by unfold ofN; rw [if_pos hw, nm_mk (by omega) (by omega) (by omega)]
  rw [e]; unfold refN; rw [if_pos h1, h2]; simp
theorem wd_mk8 {n : Nat} (h : n ≤ 2147483647) : wd (mkW 8 (n : Int)) = true := by
  have ht : isTagB 8 = true := by decide
  have hm : mayB 8 (n : Int) = true := by
    rw [may_iff]; simp [lo, hi]; omega
  have e : mkW 8 (n : Int) = mk 8 n := by unfold mkW; rw [if_pos ht, if_pos hm]
  rw [e]; exact wd_mk ht hm
theorem fits_mk8 {n m : Nat} (h : n ≤ 2147483647) (hm : n < m) : fitsW m (mkW 8 (n : Int)) = true := by
  unfold fitsW
  rw [wd_mk8 h, refN_mk h]
  simpa using hm
def Mvs (v v' : Vw) : Prop := v' = v ∨ Mv v v' ∨ ∃ v1, Mv v v1 ∧ Mv v1 v'
/-- A step ends, true, and was such a move. -/
def Goes (w0 : Wz) (wb : Nat) (v : Vw) (e : Ending) (w' : World) : Prop := e = .returned (.bool true) ∧ ∃ (p' : Vp) (v' : Vw) (L' : List Lq), KX w0 w' wb p' v' L' ∧ Mvs v v'
variable {w0 : Wz} {W w' : World} {wb i : Nat} {p : Vp} {v : Vw} {L : List Lq} {q : Lq} {e : Ending}
theorem KX.lane (X : KX w0 W wb p v L) (hq : L[i]? = some q) : v.lanes[i]? = some q.x := by
  rw [← X.e, List.getElem?_map, hq]
  rfl
theorem val_own (t : Ln) (c : Int) : Own t (valM t.roots c) := by
  unfold valM
  split
  · rename_i x hx
    exact .inl (List.mem_of_getElem? hx)
  · exact .inr rfl
theorem lay_shd (v : Vw) (sc : Bool) (a b : Int) : Shd v [a, b] (if sc then [a] else [a, b]) (layN v.h sc a b) := by
  refine ⟨lay_whites _ _ _ _, lay_nodup _ _ _ _, fun c hc => ?_, fun w hw d hr hd => ?_⟩
  · unfold layN at hc
    split at hc
    · obtain ⟨w, hw, hr⟩ := sh_only hc
      exact ⟨w, by simp at hw ⊢; exact .inl hw, hr⟩
    · exact sh_only hc
  · unfold layN
    cases sc with
    | true => exact sh_all hw hr hd
    | false => exact sh_all hw hr hd
theorem fil_shd (v : Vw) (sc : Bool) (a b : Int) : Shd v [a, b] (if sc then [] else [a, b]) (filN v.h sc a b) := by
  refine ⟨fil_whites _ _ _ _, fil_nodup _ _ _ _, fun c hc => ?_, fun w hw d hr hd => ?_⟩
  · unfold filN at hc
    split at hc
    · cases hc
    · exact sh_only hc
  · unfold filN
    cases sc with
    | true => cases hw
    | false => exact sh_all hw hr hd
theorem took_mv {x : Int} (hl : v.lanes[i]? = some q.x) (he : q.x.en = false) (hs : Src v q.x x) (ht : Took w0 wb p v L i q x w') : ∃ (p' : Vp) (v' : Vw) (L' : List Lq), KX w0 w' wb p' v' L' ∧ (v' = v ∨ Mv v v') := by
  rcases ht with X | ⟨rr, cc, X⟩
  · exact ⟨_, _, _, X, .inl rfl⟩
  · exact ⟨_, _, _, X, .inr (.take i q.x x hl he hs)⟩
theorem or_mvs {v v' : Vw} (h : v' = v ∨ Mv v v') : Mvs v v' := h.elim .inl (fun m => .inr (.inl m))
theorem idle_goes (X : KX w0 W wb p v L) (h : e = .returned (.bool true) ∧ Below W.heap.size W w') : Goes w0 wb v e w' := ⟨h.1, _, _, _, X.below h.2, .inl rfl⟩
theorem load_goes {b : Int} (hl : v.lanes[i]? = some q.x) (he : q.x.en = false) (h : LoadR w0 wb p v L i q b e w') : Goes w0 wb v e w' := by
  rcases h with ⟨rfl, X | ⟨c, x, hg, hx, ht⟩⟩
  · exact ⟨rfl, _, _, _, X, .inl rfl⟩
  · obtain ⟨⟨w, hw, hr⟩, y, hy, hu⟩ := hg
    rw [hx] at hy
    cases hy
    obtain ⟨p', v', L', X, hm⟩ := took_mv hl he (.inr (.inr (.inl ⟨c, x, w, hw, hr, hx, hu, by unfold oldW; split <;> simp⟩))) ht
    exact ⟨rfl, p', v', L', X, or_mvs hm⟩
theorem glob_goes (hl : v.lanes[i]? = some q.x) (he : q.x.en = false) (h : GlobR w0 wb p v L i q e w') : Goes w0 wb v e w' := by
  rcases h with ⟨rfl, X | ⟨x, hx, ht⟩⟩
  · exact ⟨rfl, _, _, _, X, .inl rfl⟩
  · obtain ⟨p', v', L', X, hm⟩ := took_mv hl he (.inr (.inr (.inr (.inl hx)))) ht
    exact ⟨rfl, p', v', L', X, or_mvs hm⟩
theorem join_goes (X0 : KX w0 W wb p v L) (hl : v.lanes[i]? = some q.x) (he : q.x.en = false) (h : JoinR w0 wb p v L i q e w') : Goes w0 wb v e w' := by
  rcases h with ⟨rfl, X | ⟨o, x, ho, hen, hx, ht⟩⟩
  · exact ⟨rfl, _, _, _, X, .inl rfl⟩
  · obtain ⟨p', v', L', X, hm⟩ := took_mv hl he (.inr (.inr (.inr (.inr (.inl ⟨o.x, by rw [← X0.e]; exact List.mem_map_of_mem ho, hen, hx⟩))))) ht
    exact ⟨rfl, p', v', L', X, or_mvs hm⟩
theorem store_goes {b d : Int} (hl : v.lanes[i]? = some q.x) (h : StoreR w0 wb p v L q b (valM q.x.roots d) e w') : Goes w0 wb v e w' := by
  rcases h with ⟨rfl, X | ⟨c, x, y, yr, yc, hg, hx, hy, X⟩⟩
  · exact ⟨rfl, _, _, _, X, .inl rfl⟩
  · obtain ⟨⟨w, hw, hr⟩, y2, hy2, hu⟩ := hg
    rw [hx] at hy2
    cases hy2
    refine ⟨rfl, _, _, _, X, .inr (.inl (.store i q.x c x y w (oldW b x) (valM q.x.roots d) _ _ hl hw hr hx hu (val_own q.x d) (lay_shd v q.x.sc _ _) hy ?_))⟩
    unfold oldW putW
    split
    · exact .inl ⟨rfl, rfl⟩
    · exact .inr ⟨rfl, rfl⟩
theorem lay_goes {d : Int} (hl : v.lanes[i]? = some q.x) (h : LayR w0 wb p v L q (valM q.x.roots d) e w') : Goes w0 wb v e w' := by
  rcases h with ⟨rfl, X | ⟨k, x, yr, yc, hk, X⟩⟩
  · exact ⟨rfl, _, _, _, X, .inl rfl⟩
  · exact ⟨rfl, _, _, _, X, .inr (.inl (.lay i q.x k x _ _ hl hk (val_own q.x d) (lay_shd v q.x.sc _ _)))⟩
theorem drop_goes (hl : v.lanes[i]? = some q.x) (he : q.x.en = false) (h : DropR w0 wb p v L i q e w') : Goes w0 wb v e w' := by
  rcases h with ⟨rfl, X | ⟨k, rr, cc, X⟩⟩
  · exact ⟨rfl, _, _, _, X, .inl rfl⟩
  · refine ⟨rfl, _, _, _, X, .inr (.inl (.drop i q.x _ hl he (fun w hw => ?_) ?_))⟩
    · rcases List.mem_append.1 hw with h1 | h1
      · exact List.mem_of_mem_take h1
      · exact List.mem_of_mem_drop h1
    · simp
      omega
theorem end_goes {a : Int} (hl : v.lanes[i]? = some q.x) (he : q.x.en = false) (h : EndR w0 wb p v L i q (valM q.x.roots a) e w') : Goes w0 wb v e w' := by
  obtain ⟨rfl, rr, cc, X⟩ := h
  exact ⟨rfl, _, _, _, X, .inr (.inl (.ends i q.x _ hl he (val_own q.x a)))⟩
theorem fill_goes {a b : Int} (hs : v.h.length ≤ 100) (hl : v.lanes[i]? = some q.x) (he : q.x.en = false) (h : FillR w0 wb p v L i q (valM q.x.roots a) (valM q.x.roots b) e w') : Goes w0 wb v e w' := by
  rcases h with ⟨rfl, X | ⟨c, x, k, yr, yc, hx, hk0, k1, k3, ht⟩⟩
  · exact ⟨rfl, _, _, _, X, .inl rfl⟩
  · have hc := (List.getElem?_eq_some_iff.1 hx).1
    have m1 : Mv v _ := .fill i q.x c x k (valM q.x.roots a) (valM q.x.roots b) _ hl hx hk0 ⟨k1, k3⟩ (val_own q.x a) (val_own q.x b) (fil_shd v q.x.sc _ _)
    have hc' : c < (greyL v.h (filN v.h q.x.sc (valM q.x.roots a) (valM q.x.roots b))).length := by rw [greyL_len]; exact hc
    obtain ⟨p', v', L', X, hm⟩ := took_mv (by exact hl) he (.inr (.inr (.inr (.inr (.inr ⟨c, ⟨k, 2, valM q.x.roots a, valM q.x.roots b⟩, refN_mk (by omega), List.getElem?_set_self hc', by unfold usedB; simp; omega, rfl, fits_mk8 (by omega) (by rw [List.length_set]; exact hc')⟩))))) ht
    refine ⟨rfl, p', v', L', X, ?_⟩
    rcases hm with h1 | m2
    · rw [h1]
      exact .inr (.inl m1)
    · exact .inr (.inr ⟨_, m1, m2⟩)
theorem root_goes (h0 : 0 ≤ v.laid) (h : RootR w0 wb p v L e w') : Goes w0 wb v e w' := by
  rcases h with ⟨rfl, ⟨_, X⟩ | ⟨g, yr, yc, hg, hlt, X⟩⟩
  · exact ⟨rfl, _, _, _, X, .inl rfl⟩
  · refine ⟨rfl, _, _, _, X, .inr (.inl (.root v.laid.toNat g _ hg (by omega) ⟨sh_whites _ _, sh_nodup _ _, fun c hc => ?_, fun w hw d hr hd => ?_⟩))⟩
    · obtain ⟨w, hw, hr⟩ := sh_only hc
      exact ⟨w, by simpa using hw, hr⟩
    · exact sh_all (ws := [g, g]) (by simp at hw ⊢; exact hw) hr hd
theorem scan_goes (hl : v.lanes[i]? = some q.x) (h : ScanR w0 wb p v L i q e w') : Goes w0 wb v e w' := by
  obtain ⟨rfl, l, yr, yc, hs, X⟩ := h
  exact ⟨rfl, _, _, _, X, .inr (.inl (.scan i q.x l hl ⟨hs.wh, hs.nd, hs.on, hs.al⟩))⟩
theorem greyL_set {h : List Cl} {c : Nat} {y : Cl} {l : List Nat} (hc : c ∉ l) : greyL (h.set c y) l = (greyL h l).set c y := by
  refine List.ext_getElem? (fun j => ?_)
  rw [greyL_get]
  by_cases ej : c = j
  · subst ej
    rw [List.getElem?_set, List.getElem?_set, greyL_len]
    by_cases hl : c < h.length
    · simp [hc, hl]
    · simp [hl]
  · rw [List.getElem?_set_ne ej, List.getElem?_set_ne ej, greyL_get]
theorem into_goes {c : Nat} {x : Cl} {r : List Int} {G : List Nat} (hF : Fm v G) (hv : v.grey = (c : Int) :: r) (hx : v.h[c]? = some x) (h : IntoR w0 wb p v L c x r e w') : e = .returned (.bool true) ∧ ∃ (p' : Vp) (l : List Nat), Shd v [x.a, x.b] [x.a, x.b] l ∧ KX w0 w' wb p' ⟨(greyL v.h l).set c ⟨x.k, 2, x.a, x.b⟩, v.ph, v.sw, r ++ l.map Int.ofNat, v.gl, v.laid, v.lanes⟩ L := by
  obtain ⟨rfl, yr, yc, X⟩ := h
  have hcb := (List.getElem?_eq_some_iff.1 hx).1
  have hcl : c ∉ shN (v.h.set c ⟨x.k, 2, x.a, x.b⟩) [x.a, x.b] := fun hm => by
    obtain ⟨z, hz, hzw⟩ := sh_whites _ _ c hm
    rw [List.getElem?_set_self hcb] at hz
    cases hz
    unfold whiteB at hzw
    simp at hzw
  have hgx : greyB x = true := by
    have hG := hF.gy.e
    rw [hv] at hG
    cases G with
    | nil => cases hG
    | cons g0 G =>
      rw [List.map_cons] at hG
      injection hG with e1 e2
      have e3 : g0 = c := by
        have : (c : Int) = (g0 : Int) := e1
        omega
      subst e3
      have := (hF.gy.m g0).1 List.mem_cons_self
      unfold gr0 at this
      rw [hx] at this
      exact this
  unfold shV at X
  dsimp only at X
  rw [greyL_set hcl] at X
  refine ⟨rfl, _, _, ⟨fun d hd => ?_, sh_nodup _ _, fun d hd => sh_only hd, fun w hw d hr hd => ?_⟩, X⟩
  · obtain ⟨z, hz, hzw⟩ := sh_whites _ _ d hd
    have hne : c ≠ d := fun e => hcl (by have h2 := hd; rw [← e] at h2; exact h2)
    rw [List.getElem?_set_ne hne] at hz
    exact ⟨z, hz, hzw⟩
  · obtain ⟨z, hz, hzw⟩ := hd
    have hne : c ≠ d := fun e => by
      subst e
      rw [hx] at hz
      cases hz
      unfold whiteB at hzw
      unfold greyB at hgx
      simp at hzw hgx
      omega
    exact shf_new (h := v.h.set c ⟨x.k, 2, x.a, x.b⟩) (y := z) (by rw [List.getElem?_set_ne hne]; exact hz) hzw [x.a, x.b] [] ⟨w, hw, hr⟩
end Go.Proofs.YtomdbcddokaagaaDoor

/- A world of one's own: lane and collect, of whatever kind. -/
namespace Go.Proofs.YtomdbcddokaagaaDoor
open Go.RowKit

/-- How great a view is. -/
structure Bd (v : Vw) : Prop where
  h : v.h.length ≤ 60
  g : v.gl.length ≤ 1000
  l : v.lanes.length ≤ 8
  r : ∀ t ∈ v.lanes, t.roots.length ≤ 2000
def Sml (x : Int) : Prop := -9223372036854775808 ≤ x ∧ x ≤ 9223372036854775807
theorem Fm.grey {v : Vw} {G : List Nat} (h : Fm v G) : v.grey.length ≤ v.h.length := by
  rw [h.gy.e, List.length_map]
  have h1 : G.length ≤ (List.range v.h.length).length := List.Nodup.length_le_of_subset h.gy.nd (fun c hc => List.mem_range.2 (gr0_lt ((h.gy.m c).1 hc)))
  rw [List.length_range] at h1
  exact h1
theorem lane_any (w0 : Wz) (w : World) (wb gl i : Nat) (p : Vp) (v : Vw) (L : List Lq) (q : Lq) (G : List Nat) (kd who a b d : Int) (hX : KX w0 w wb p v L) (hT : Tab w) (hF : Fm v G) (hB : Bd v) (hq : L[i]? = some q) (hen : q.x.en = false) (hpl : p.lr = some ⟨gl, 0, none⟩) (ha : Sml a) (hb : Sml b) (hd : Sml d) :
    Calls Tryd.prog 62 #[.pointer (some ⟨wb, 0, none⟩), .agg #[.int .i64 kd, .int .i64 who, .int .i64 a, .int .i64 b, .int .i64 d], .pointer (some ⟨gl, i * 3, none⟩)] w fun e w' => Goes w0 wb v e w' := by
  have hgr := hF.grey
  have bh := hB.h
  have bg := hB.g
  have hl := hX.lane hq
  have hr : q.x.roots.length ≤ 2000 := hB.r q.x (List.mem_of_getElem? hl)
  have hs : v.h.length ≤ 100 ∧ v.grey.length + 2 ≤ 100000 := ⟨by omega, by omega⟩
  have hf : ∀ x ∈ q.x.roots, fitsW v.h.length x = true := hF.wl q.x (List.mem_of_getElem? hl)
  have hL : L.length ≤ 8 := by
    have := hB.l
    rw [← hX.e, List.length_map] at this
    exact this
  by_cases k1 : kd = 1
  · subst k1
    exact (lane_load w0 w wb gl i p v L q who a b d hX hs.1 hq hpl hr hf ha).mono (fun _ _ h => load_goes hl hen h)
  by_cases k2 : kd = 2
  · subst k2
    exact (lane_global w0 w wb gl i p v L q who a b d hX (by omega) hq hpl ha).mono (fun _ _ h => glob_goes hl hen h)
  by_cases k3 : kd = 3
  · subst k3
    exact (lane_store w0 w wb gl i p v L q who a b d hX hT hF.ph hs hq hpl hr hf ha hd).mono (fun _ _ h => store_goes hl h)
  by_cases k4 : kd = 4
  · subst k4
    exact (lane_lay w0 w wb gl i p v L q who a b d hX hT hF.ph hs (by omega) hq hpl hr ha hd).mono (fun _ _ h => lay_goes hl h)
  by_cases k5 : kd = 5
  · subst k5
    exact (lane_fill w0 w wb gl i p v L q who a b d hX hT hF.ph hs hq hpl hr ha hb hd).mono (fun _ _ h => fill_goes hs.1 hl hen h)
  by_cases k6 : kd = 6
  · subst k6
    exact (lane_drop w0 w wb gl i p v L q who a b d hX hq hpl hr ha).mono (fun _ _ h => drop_goes hl hen h)
  by_cases k7 : kd = 7
  · subst k7
    exact (lane_end w0 w wb gl i p v L q who a b d hX hq hpl hr ha).mono (fun _ _ h => end_goes hl hen h)
  by_cases k9 : kd = 9
  · subst k9
    exact (lane_join w0 w wb gl i p v L q who a b d hX hq hpl hen hL (fun o ho => hB.r o.x (by rw [← hX.e]; exact List.mem_map_of_mem ho)) ha hb).mono (fun _ _ h => join_goes hX hl hen h)
  exact (lane_idle w _ _ kd who a b d k1 k2 k3 k4 k5 k6 k7 k9).mono (fun _ _ h => idle_goes hX h)
theorem collect_any (w0 : Wz) (w : World) (wb : Nat) (p : Vp) (v : Vw) (L : List Lq) (G : List Nat) (kd who a b d : Int) (hX : KX w0 w wb p v L) (hT : Tab w) (hF : Fm v G) (hB : Bd v) (hwho : Sml who) (hTl : 0 < w0.heap.size) :
    Calls Tryd.prog 59 #[.pointer (some ⟨wb, 0, none⟩), .agg #[.int .i64 kd, .int .i64 who, .int .i64 a, .int .i64 b, .int .i64 d]] w fun e w' => Goes w0 wb v e w' := by
  have hgr := hF.grey
  have bh := hB.h
  have bg := hB.g
  have hs : v.h.length ≤ 100 ∧ v.grey.length + 2 ≤ 100000 := ⟨by omega, by omega⟩
  have hL : L.length ≤ 8 := by
    have := hB.l
    rw [← hX.e, List.length_map] at this
    exact this
  by_cases k1 : kd = 10
  · subst k1
    exact (collect_root w0 w wb p v L who a b d hX hT hF.ph hs hF.la.1 (by omega) hTl).mono (fun _ _ h => root_goes hF.la.1 h)
  by_cases k2 : kd = 11
  · subst k2
    by_cases h0 : 0 < L.length
    · have hi := pick_lt (c := who) h0
      obtain ⟨q, hq⟩ : ∃ q, L[pickN who L.length]? = some q := ⟨_, List.getElem?_eq_getElem hi⟩
      have hl := hX.lane hq
      exact (collect_scan w0 w wb p v L who a b d q hX hT hF.ph ⟨hs.1, by omega⟩ ⟨h0, hL⟩ hwho hq (hB.r q.x (List.mem_of_getElem? hl)) hTl).mono (fun _ _ h => scan_goes hl h)
    · exact (collect_none w0 w wb p v L who a b d hX (by omega)).mono (fun _ _ h => idle_goes hX h)
  by_cases k3 : kd = 12
  · subst k3
    have hG := hF.gy.e
    cases hGc : G with
    | nil =>
      rw [hGc] at hG
      exact (collect_nogrey w0 w wb p v L who a b d hX hG).mono (fun _ _ h => idle_goes hX h)
    | cons c r =>
      rw [hGc] at hG
      have hc := gr0_lt ((hF.gy.m c).1 (by rw [hGc]; exact List.mem_cons_self))
      obtain ⟨x, hx⟩ : ∃ x, v.h[c]? = some x := ⟨_, List.getElem?_eq_getElem hc⟩
      refine (collect_into w0 w wb p v L who a b d c x (r.map Int.ofNat) hX hT hF.ph hs hG hx hTl).mono (fun _ _ h => ?_)
      obtain ⟨rfl, p', l, hs, X⟩ := into_goes hF hG hx h
      exact ⟨rfl, _, _, _, X, .inr (.inl (.into c x _ l hG hx hs))⟩
  exact (collect_idle w _ kd who a b d k1 k2 k3).mono (fun _ _ h => idle_goes hX h)
end Go.Proofs.YtomdbcddokaagaaDoor

/- A world of one's own: what is kept between two steps; Holds of it. -/
namespace Go.Proofs.YtomdbcddokaagaaDoor
open Go.RowKit

/-- The rule holds. -/
structure Good (v : Vw) : Prop where
  fm : ∃ G, Fm v G
  jr : Jr v
  c0 : ∀ x ∈ v.h, 0 ≤ x.c
theorem grey_c0 {h : List Cl} {l : List Nat} (h0 : ∀ x ∈ h, 0 ≤ x.c) : ∀ x ∈ greyL h l, 0 ≤ x.c := fun x hx => by
  obtain ⟨j, hj⟩ := List.getElem?_of_mem hx
  rw [greyL_get] at hj
  obtain ⟨y, hy, he⟩ := Option.map_eq_some_iff.1 hj
  have := h0 y (List.mem_of_getElem? hy)
  split at he
  · rw [← he]
    show (0 : Int) ≤ 1
    omega
  · rw [← he]
    exact this
theorem set_c0 {h : List Cl} {c : Nat} {y : Cl} (h0 : ∀ x ∈ h, 0 ≤ x.c) (hy : 0 ≤ y.c) : ∀ x ∈ h.set c y, 0 ≤ x.c := fun x hx => by
  rcases List.mem_or_eq_of_mem_set hx with h1 | rfl
  · exact h0 x h1
  · exact hy
theorem mv_c0 {v v' : Vw} (m : Mv v v') (h0 : ∀ x ∈ v.h, 0 ≤ x.c) : ∀ x ∈ v'.h, 0 ≤ x.c := by
  cases m with
  | take i t x hi he hs => exact h0
  | drop i t r hi he hs hl => exact h0
  | ends i t n hi he hs => exact h0
  | spawn i t a b hi ha hb h8 => exact h0
  | store i t c x y w old n l y' hi hw hc hx hu hn hl hy hp =>
    have g0 := grey_c0 (l := l) h0
    have gy := g0 y (List.mem_of_getElem? hy)
    refine set_c0 g0 ?_
    rcases hp with ⟨_, rfl⟩ | ⟨_, rfl⟩ <;> exact gy
  | fill i t c x k a b l hi hx hu hk ha hb hl => exact set_c0 (grey_c0 h0) (by show (0 : Int) ≤ 2; omega)
  | lay i t k g0 n l hi hk hn hl => exact grey_c0 h0
  | root k g l hk hla hl => exact grey_c0 h0
  | scan i t l hi hl => exact grey_c0 h0
  | into c x r l hv hx hl => exact set_c0 (grey_c0 h0) (by show (0 : Int) ≤ 2; omega)
theorem Good.mv {v v' : Vw} (h : Good v) (m : Mv v v') : Good v' := by
  obtain ⟨G, hF⟩ := h.fm
  exact ⟨mv_fm m hF, mv_jr m hF h.jr h.c0, mv_c0 m h.c0⟩
theorem Good.mvs {v v' : Vw} (h : Good v) (m : Mvs v v') : Good v' := by
  rcases m with rfl | m | ⟨v1, m1, m2⟩
  · exact h
  · exact h.mv m
  · exact (h.mv m1).mv m2
/-- How great a view is, N words a lane at most. -/
structure Bn (v : Vw) (N : Nat) : Prop where
  h : v.h.length ≤ 60
  g : v.gl.length ≤ 1000
  l : v.lanes.length ≤ 8
  r : ∀ t ∈ v.lanes, t.roots.length ≤ N
theorem Bn.bd {v : Vw} {N : Nat} (h : Bn v N) (hN : N ≤ 2000) : Bd v := ⟨h.h, h.g, h.l, fun t ht => by have := h.r t ht; omega⟩
theorem Bn.mv {v v' : Vw} {N : Nat} (h : Bn v N) (hN : 2 ≤ N) (m : Mv v v') : Bn v' (N + 1) := by
  have n := mv_nr m
  have h1 := h.h
  have h2 := h.g
  have h3 := h.l
  have n1 := n.h
  have n2 := n.gl
  have n3 := n.ln.2
  exact ⟨by omega, by omega, by omega, n.rt N hN h.r⟩
theorem Bn.up {v : Vw} {N M : Nat} (h : Bn v N) (hNM : N ≤ M) : Bn v M := ⟨h.h, h.g, h.l, fun t ht => by have := h.r t ht; omega⟩
theorem Bn.mvs {v v' : Vw} {N : Nat} (h : Bn v N) (hN : 2 ≤ N) (m : Mvs v v') : Bn v' (N + 2) := by
  rcases m with rfl | m | ⟨v1, m1, m2⟩
  · exact h.up (by omega)
  · exact (h.mv hN m).up (by omega)
  · exact (h.mv hN m1).mv (by omega) m2
theorem holds_kx {w0 : Wz} {W : World} {wb : Nat} {p : Vp} {v : Vw} {L : List Lq} {N : Nat} (X : KX w0 W wb p v L) (hT : Tab W) (hg : Good v) (hB : Bn v N) (hN : N ≤ 2000) :
    Calls Tryd.prog 12 #[.agg (p.cells v)] W fun e w' => e = .returned (.tuple #[.bool true, .int .i64 0, .int .i64 0]) ∧ Below W.heap.size W w' := by
  obtain ⟨G, hF⟩ := hg.fm
  have h1 := hB.h
  have h2 := hB.g
  have h3 := hB.l
  have h4 := hF.grey
  have h := holds_any p v W (X.vl ⟨by omega, by omega, by omega, by omega, fun q hq => by have := hB.r q.x (by rw [← X.e]; exact List.mem_map_of_mem hq); omega⟩) hT (by omega)
  rw [holds_of hF hg.jr hg.c0] at h
  exact h
/-- What a step leaves. -/
def Steps (w0 : Wz) (wb : Nat) (R : Vw → List Lq → Prop) (e : Ending) (w' : World) : Prop := e = .returned (.bool true) ∧ ∃ (p' : Vp) (v' : Vw) (L' : List Lq), KX w0 w' wb p' v' L' ∧ R v' L'
set_option maxRecDepth 100000 in
set_option maxHeartbeats 16000000 in
/-- A step of the collector's. -/
theorem step_coll (w0 : Wz) (w : World) (wb : Nat) (p : Vp) (v : Vw) (L : List Lq) (N : Nat) (R : Vw → List Lq → Prop) (kd who a b d : Int) (hX : KX w0 w wb p v L) (hT : Tab w) (hk : 10 ≤ kd) (hTl : 0 < w0.heap.size) (hN : N ≤ 2000)
    (hC : ∀ W : World, KX w0 W wb p v L → Tab W → Calls Tryd.prog 59 #[.pointer (some ⟨wb, 0, none⟩), .agg #[.int .i64 kd, .int .i64 who, .int .i64 a, .int .i64 b, .int .i64 d]] W fun e w' => Steps w0 wb R e w') (hR : ∀ v' L', R v' L' → Good v' ∧ Bn v' N) :
    Calls Tryd.prog 14 #[.pointer (some ⟨wb, 0, none⟩), .agg #[.int .i64 kd, .int .i64 who, .int .i64 a, .int .i64 b, .int .i64 d]] w fun e w' => Steps w0 wb R e w' := by
  have hB0 := (Below.refl w.heap.size w).alloc (Nat.le_refl _) (.cells #[.int .i64 kd, .int .i64 who, .int .i64 a, .int .i64 b, .int .i64 d] 72)
  have HX : Hid (KX w0 (w.alloc (.cells #[.int .i64 kd, .int .i64 who, .int .i64 a, .int .i64 b, .int .i64 d] 72)) wb p v L) := hX.below hB0
  have HT : Hid (Tab (w.alloc (.cells #[.int .i64 kd, .int .i64 who, .int .i64 a, .int .i64 b, .int .i64 d] 72))) := hT.below hB0
  have HB : Hid ((w.alloc (.cells #[.int .i64 kd, .int .i64 who, .int .i64 a, .int .i64 b, .int .i64 d] 72)).heap[w.heap.size]? = some (.cells #[.int .i64 kd, .int .i64 who, .int .i64 a, .int .i64 b, .int .i64 d] 72 (0, 0))) := heap_alloc_new w _
  have HC : Hid _ := hC
  have HR : Hid _ := hR
  have HTl : Hid (0 < w0.heap.size) := hTl
  clear hX hT hB0 hC hR hTl
  go_enter Tryd.func14, Tryd.ntmps14
  go_upto_region 1 with fail
  generalize w.alloc (.cells #[.int .i64 kd, .int .i64 who, .int .i64 a, .int .i64 b, .int .i64 d] 72) = W at HX HT HB ⊢
  generalize w.heap.size = sb at HB ⊢
  have s0 : W.cell? ⟨sb, 0, none⟩ = some (.int .i64 kd) := heap_cell HB.out rfl
  have s1 : W.cell? ⟨sb, 1, none⟩ = some (.int .i64 who) := heap_cell HB.out rfl
  have s2 : W.cell? ⟨sb, 2, none⟩ = some (.int .i64 a) := heap_cell HB.out rfl
  have s3 : W.cell? ⟨sb, 3, none⟩ = some (.int .i64 b) := heap_cell HB.out rfl
  have s4 : W.cell? ⟨sb, 4, none⟩ = some (.int .i64 d) := heap_cell HB.out rfl
  have lsb := heap_lt HB.out
  have f6 : W.cell? ⟨wb, 6, none⟩ = some (.slice p.lr v.lanes.length p.lc) := heap_cell HX.out.b rfl
  have lwb := heap_lt HX.out.b
  go_wp2_with fail
  refine Calls.mono (HC.out W HX.out HT.out) ?_
  rintro e w1 ⟨rfl, p', v', L', X1, hr1⟩
  have HX1 : Hid (KX w0 w1 wb p' v' L') := X1
  have HT1 : Hid (Tab w1) := tab_kx HT.out HTl.out HX.out.bel X1
  have HR1 : Hid (R v' L') := hr1
  have g0 : w1.cell? ⟨wb, 0, none⟩ = some (.slice p'.cr v'.h.length p'.cc) := heap_cell X1.b rfl
  have g1 : w1.cell? ⟨wb, 1, none⟩ = some (.int .u8 v'.ph) := heap_cell X1.b rfl
  have g2 : w1.cell? ⟨wb, 2, none⟩ = some (.int .i64 v'.sw) := heap_cell X1.b rfl
  have g3 : w1.cell? ⟨wb, 3, none⟩ = some (.slice p'.yr v'.grey.length p'.yc) := heap_cell X1.b rfl
  have g4 : w1.cell? ⟨wb, 4, none⟩ = some (.slice p'.gr v'.gl.length p'.gc) := heap_cell X1.b rfl
  have g5 : w1.cell? ⟨wb, 5, none⟩ = some (.int .i64 v'.laid) := heap_cell X1.b rfl
  have g6 : w1.cell? ⟨wb, 6, none⟩ = some (.slice p'.lr v'.lanes.length p'.lc) := heap_cell X1.b rfl
  have gl := heap_lt X1.b
  clear X1 hr1 HX HT HB s0 s1 s2 s3 s4 lsb f6 lwb HC
  go_wp2_with fail
  refine Calls.mono (holds_kx HX1.out HT1.out (HR.out v' L' HR1.out).1 (HR.out v' L' HR1.out).2 hN) ?_
  rintro e w2 ⟨rfl, hb2⟩
  have HF : Hid (Steps w0 wb R (.returned (.bool true)) w2) := ⟨rfl, p', v', L', HX1.out.below hb2, HR1.out⟩
  clear hb2 g0 g1 g2 g3 g4 g5 g6 gl HX1 HT1
  go_wp2
  go_ret
  exact HF.out
end Go.Proofs.YtomdbcddokaagaaDoor

/- A world of one's own: a lane more. -/
namespace Go.Proofs.YtomdbcddokaagaaDoor
open Go.RowKit

theorem lq3_snoc (L : List Lq) (r : Lq) : lq3 (L ++ [r]) = lq3 L ++ [.slice r.ra r.x.roots.length r.cc, .bool r.x.sc, .bool r.x.en] := by
  unfold lq3
  rw [List.flatMap_append]
  rfl
theorem KX.growL {w0 : Wz} {W W' : World} {wb : Nat} {p : Vp} {v : Vw} {L : List Lq} {r : Lq} {rl : Option Addr} {cl : Nat} (X : KX w0 W wb p v L) (hg : W.grownBy W' (Value.slice p.lr L.length p.lc).ownBlock) (ho : W'.ownsRow w0.heap.size 61 3 (.slice rl (L.length + 1) cl) (L.length + 1) (lq3 L ++ [.slice r.ra r.x.roots.length r.cc, .bool r.x.sc, .bool r.x.en]))
    (hr : W.ownsRow w0.heap.size 57 1 (.slice r.ra r.x.roots.length r.cc) r.x.roots.length (r.x.roots.map (Value.int .u64))) (hag : ∀ k, (Value.slice p.gr v.gl.length p.gc).ownBlock = some k → (Value.slice r.ra r.x.roots.length r.cc).ownBlock ≠ some k)
    (haq : ∀ q ∈ L, ∀ k, (Value.slice q.ra q.x.roots.length q.cc).ownBlock = some k → (Value.slice r.ra r.x.roots.length r.cc).ownBlock ≠ some k) (hx : ∀ x ∈ r.x.roots, Rng x) :
    KX w0 (W'.setCell ⟨wb, 6, none⟩ (.slice rl (L.length + 1) cl)) wb { p with lr := rl, lc := cl } ⟨v.h, v.ph, v.sw, v.grey, v.gl, v.laid, v.lanes ++ [r.x]⟩ (L ++ [r]) := by
  have hlen : v.lanes.length = L.length := by rw [← X.e, List.length_map]
  have kp : ∀ k, k < W.heap.size → (Value.slice p.lr L.length p.lc).ownBlock ≠ some k → k ≠ wb → (W'.setCell ⟨wb, 6, none⟩ (.slice rl (L.length + 1) cl)).heap[k]? = W.heap[k]? := fun k hk hn hb => (Below.heap_setCell _ _ _ _ hb).trans (hg.block k hk (fun e => hn e.symm))
  have own : ∀ {e size n : Nat} {u : Value} {xs : List Value}, W.ownsRow w0.heap.size e size u n xs → 61 ≠ e → 69 ≠ e → (W'.setCell ⟨wb, 6, none⟩ (.slice rl (L.length + 1) cl)).ownsRow w0.heap.size e size u n xs := fun h hn hb => own_same h (fun q hq => kp q (h.lt q hq).2 (own_ne h X.l hn.symm q hq) (fun e => own_ty h X.b hb (by rw [← e]; exact hq)))
  have hwb : W'.heap[wb]? = W.heap[wb]? := hg.block wb (heap_lt X.b) (fun e => own_ty X.l X.b (by decide) e.symm)
  have hb' := hwb.trans X.b
  have len : (L ++ [r]).length = L.length + 1 := by simp
  refine ⟨?_, X.lb, own X.c (by decide) (by decide), own X.y (by decide) (by decide), own X.g (by decide) (by decide), ?_, fun q hq => ?_, fun q hq k hk => ?_, fun i j q s hne hq hs k hk => ?_, ?_, X.ok, X.rg, fun q hq => ?_, (X.bel.trans (grown_low hg (fun g hg' => (X.l.lt g hg').1) X.bel.size)).setCell (p := ⟨wb, 6, none⟩) X.lb _, w0.st (fun q cs h => kp q (heap_lt h) (fun e => own_ty X.l h (by decide) e) (ty_ne h X.b (by decide))) X.bz⟩
  · have h := set_atC (j := 6) hb' (.slice rl (L.length + 1) cl)
    rw [h]
    unfold Vp.cells
    simp only [List.length_append, List.length_cons, List.length_nil, hlen]
    rfl
  · rw [len, lq3_snoc]
    exact own_same ho (fun q hq => Below.heap_setCell _ _ _ _ (fun e => own_ty ho hb' (by decide) (by rw [← show q = wb from e]; exact hq)))
  · rcases List.mem_append.1 hq with h | h
    · exact own (X.q q h) (by decide) (by decide)
    · rw [List.mem_singleton.1 h]
      exact own hr (by decide) (by decide)
  · rcases List.mem_append.1 hq with h | h
    · exact X.ag q h k hk
    · rw [List.mem_singleton.1 h]
      exact hag k hk
  · have at' : ∀ {m : Nat} {z : Lq}, (L ++ [r])[m]? = some z → (m < L.length ∧ L[m]? = some z) ∨ (m = L.length ∧ z = r) := fun {m z} h => by
      by_cases hm : m < L.length
      · rw [List.getElem?_append_left hm] at h
        exact .inl ⟨hm, h⟩
      · rw [List.getElem?_append_right (by omega)] at h
        have h0 := (List.getElem?_eq_some_iff.1 h).1
        simp at h0
        have e : m - L.length = 0 := by omega
        rw [e] at h
        exact .inr ⟨by omega, (Option.some.inj h).symm⟩
    rcases at' hq with ⟨_, h1⟩ | ⟨h1, rfl⟩
    · rcases at' hs with ⟨_, h2⟩ | ⟨_, rfl⟩
      · exact X.aq i j q s hne h1 h2 k hk
      · exact haq q (List.mem_of_getElem? h1) k hk
    · rcases at' hs with ⟨_, h2⟩ | ⟨h2, rfl⟩
      · exact fun h3 => haq s (List.mem_of_getElem? h2) k h3 hk
      · exact absurd (h1.trans h2.symm) hne
  · rw [List.map_append, X.e]
    rfl
  · rcases List.mem_append.1 hq with h | h
    · exact X.rl q h
    · rw [List.mem_singleton.1 h]
      exact hx
end Go.Proofs.YtomdbcddokaagaaDoor

/- A world of one's own: Holds of a view with a lane more. -/
namespace Go.Proofs.YtomdbcddokaagaaDoor
open Go.RowKit

theorem holds_laid {w0 : Wz} {W : World} {wb : Nat} {p p' : Vp} {v v' : Vw} {L : List Lq} {N vl : Nat} (X : KX w0 W wb p' v' L) (hT : Tab W) (hg : Good v') (hB : Bn v' N) (hN : N ≤ 2000) (rl : Option Addr) (cn : Nat) (hp : p' = { p with lr := rl, lc := cn }) (hv : v' = ⟨v.h, v.ph, v.sw, v.grey, v.gl, v.laid, v'.lanes⟩) (hl : v'.lanes.length = vl) :
    Calls Tryd.prog 12 #[.agg #[.slice p.cr v.h.length p.cc, .int .u8 v.ph, .int .i64 v.sw, .slice p.yr v.grey.length p.yc, .slice p.gr v.gl.length p.gc, .int .i64 v.laid, .slice rl vl cn]] W fun e w' => e = .returned (.tuple #[.bool true, .int .i64 0, .int .i64 0]) ∧ Below W.heap.size W w' := by
  have h := holds_kx X hT hg hB hN
  have e : p'.cells v' = #[.slice p.cr v.h.length p.cc, .int .u8 v.ph, .int .i64 v.sw, .slice p.yr v.grey.length p.yc, .slice p.gr v.gl.length p.gc, .int .i64 v.laid, .slice rl vl cn] := by
    rw [← hl, hp, hv]
    rfl
  rw [e] at h
  exact h
end Go.Proofs.YtomdbcddokaagaaDoor
