/- A world of one's own: a lane drops a root.; A world of one's own: a lane ends. -/
import Derived.Test.YtomdbcddokaagaaDoorGO
import Derived.Test.YtomdbcddokaagaaDoorGR
/- A world of one's own: a lane drops a root. -/
namespace Go.Proofs.YtomdbcddokaagaaDoor
open Go.RowKit

theorem take_at {α : Type} {l : List α} {k j : Nat} {u : α} (h : (l.take k)[j]? = some u) : l[j]? = some u := by
  rw [List.getElem?_take] at h
  split at h
  · exact h
  · cases h
theorem drop_at {α : Type} {l : List α} {k j : Nat} {u : α} (h : (l.drop k)[j]? = some u) : l[k + j]? = some u := by
  rw [List.getElem?_drop] at h
  exact h
/-- What KDrop leaves. -/
def DropR (w0 : Wz) (wb : Nat) (p : Vp) (v : Vw) (L : List Lq) (i : Nat) (q : Lq) (e : Ending) (w' : World) : Prop :=
  e = .returned (.bool true) ∧ (KX w0 w' wb p v L ∨ ∃ (k : Nat) (rr : Option Addr) (cc : Nat), KX w0 w' wb p ⟨v.h, v.ph, v.sw, v.grey, v.gl, v.laid, v.lanes.set i ⟨q.x.roots.take k ++ q.x.roots.drop (k + 1), q.x.sc, q.x.en⟩⟩ (L.set i ⟨rr, cc, ⟨q.x.roots.take k ++ q.x.roots.drop (k + 1), q.x.sc, q.x.en⟩⟩))
set_option maxRecDepth 100000 in
set_option maxHeartbeats 16000000 in
theorem lane_drop (w0 : Wz) (w : World) (wb gl i : Nat) (p : Vp) (v : Vw) (L : List Lq) (q : Lq) (who a b d : Int) (hX : KX w0 w wb p v L) (hq : L[i]? = some q) (hpl : p.lr = some ⟨gl, 0, none⟩) (hr : q.x.roots.length ≤ 2000) (ha : -9223372036854775808 ≤ a ∧ a ≤ 9223372036854775807) :
    Calls Tryd.prog 62 #[.pointer (some ⟨wb, 0, none⟩), .agg #[.int .i64 6, .int .i64 who, .int .i64 a, .int .i64 b, .int .i64 d], .pointer (some ⟨gl, i * 3, none⟩)] w fun e w' => DropR w0 wb p v L i q e w' := by
  obtain ⟨i1, hi1, hy0, hy1, hy2⟩ := info_parts infoWd
  have hB0 := (Below.refl w.heap.size w).alloc (Nat.le_refl _) (.cells #[.int .i64 6, .int .i64 who, .int .i64 a, .int .i64 b, .int .i64 d] 72)
  have HX : Hid (KX w0 (w.alloc (.cells #[.int .i64 6, .int .i64 who, .int .i64 a, .int .i64 b, .int .i64 d] 72)) wb p v L) := hX.below hB0
  have HB : Hid ((w.alloc (.cells #[.int .i64 6, .int .i64 who, .int .i64 a, .int .i64 b, .int .i64 d] 72)).heap[w.heap.size]? = some (.cells #[.int .i64 6, .int .i64 who, .int .i64 a, .int .i64 b, .int .i64 d] 72 (0, 0))) := heap_alloc_new w _
  have HQ : Hid (L[i]? = some q ∧ p.lr = some ⟨gl, 0, none⟩) := ⟨hq, hpl⟩
  clear hX hB0 hq hpl
  go_enter Tryd.func62, Tryd.ntmps62
  go_upto_region 23 with fail
  generalize w.alloc (.cells #[.int .i64 6, .int .i64 who, .int .i64 a, .int .i64 b, .int .i64 d] 72) = W at HX HB ⊢
  generalize w.heap.size = sb at HB ⊢
  have s2 : W.cell? ⟨sb, 2, none⟩ = some (.int .i64 a) := heap_cell HB.out rfl
  have lsb := heap_lt HB.out
  have HRd : Hid (∀ W' : World, KX w0 W' wb p v L → W'.cell? ⟨gl, i * 3, none⟩ = some (.slice q.ra q.x.roots.length q.cc) ∧ gl < W'.heap.size ∧ W'.frozen? ⟨gl, i * 3, none⟩ = false) := fun W' X => by
    have o := X.l
    rw [HQ.out.2] at o
    obtain ⟨g0, _, _⟩ := lq3_at L i q HQ.out.1
    obtain ⟨cs, h1, _⟩ := own_out o
    exact ⟨own_cell o g0, (o.lt gl rfl).2, fz_of h1 _⟩
  obtain ⟨f0, lgl, -⟩ := HRd.out W HX.out
  by_cases hlt : 0 < q.x.roots.length
  · have kg : (0 : Int) < (q.x.roots.length : Int) := by omega
    have hk := pick_lt (c := a) hlt
    have HPk : Hid (∀ W, Calls Tryd.prog 60 #[.int .i64 a, .int .i64 q.x.roots.length] W fun e w' => e = .returned (.int .i64 (pickN a q.x.roots.length)) ∧ w' = W) := fun W => pick_any a q.x.roots.length W ha hlt (by omega)
    generalize pickN a q.x.roots.length = k at hk HPk
    have kk0 : (0 : Int) ≤ (k : Int) := by omega
    have kk1 : (k : Int) < (q.x.roots.length : Int) := by omega
    obtain ⟨gq, cq, hvq, hgq0, lgq⟩ := World.ownsRow.form (HX.out.q q (List.mem_of_getElem? HQ.out.1)) hlt
    have hpq : q.ra = some ⟨gq, 0, none⟩ := (Value.slice.inj hvq).1
    have HPq : Hid (q.ra = some ⟨gq, 0, none⟩) := hpq
    rw [hpq] at f0
    clear ha hvq hpq
    go_upto_region 24 with fail
    go_quiet (first | (go_at_call 60; exact Calls.quiet_of_same (HPk.out _)) | fail)
    have HX1 : Hid (KX w0 (W.drewN nq) wb p v L) := HX.out.below (below_dN (Below.refl _ _) nq)
    go_upto_region 26 with fail
    generalize W.drewN nq = W1 at HX1 ⊢
    clear f0 lgl s2 lsb HX HPk lgq
    obtain ⟨f0, lgl, z0⟩ := HRd.out W1 HX1.out
    rw [HPq.out] at f0
    have oq := HX1.out.q q (List.mem_of_getElem? HQ.out.1)
    rw [HPq.out] at oq
    have HOq : Hid (W1.ownsRow w0.heap.size 57 1 (.slice (some ⟨gq, 0, none⟩) q.x.roots.length q.cc) q.x.roots.length (q.x.roots.map (Value.int .u64))) := oq
    have hcap : q.x.roots.length ≤ q.cc ∧ q.cc ≤ maxLen := by
      obtain ⟨_, _, _, h1, h2, _⟩ := own_out oq
      exact ⟨h1, h2⟩
    obtain ⟨kc1, kc2⟩ := hcap
    unfold maxLen at kc2
    have kcc : (k : Int) ≤ (q.cc : Int) := by omega
    clear oq
    go_cut [13] from 169 (fun v13 wx => ∃ (rr : Option Addr) (cc : Nat), v13 = .slice rr k cc ∧ Hid (wx.ownsRow w0.heap.size 57 1 (.slice rr k cc) k ((q.x.roots.take k).map (Value.int .u64)) ∧ Below W1.heap.size W1 wx ∧ ∀ g, (Value.slice rr k cc).ownBlock = some g → W1.heap.size ≤ g))
    case first =>
      have hbs : w0.heap.size ≤ W1.heap.size := HX1.out.bel.size
      go_wp2_with (at_builtin; refine stop_of ?_)
      unfold Hid
      refine wpList_append_all _ rfl _ _ 25 rfl w0.heap.size 57 i1 _ 1 8 Tryd.underlying25 hi1 hy0 hy1 hy2 rfl (by decide) (.slice none 0 0) 0 [] rfl (World.ownsRow_nil _ _ _ _) (some ⟨gq, 0, none⟩) k _ ((q.x.roots.take k).map (Value.int .u64)) rfl (by simp; omega) (fun e => by cases e) (fun ad had j u hu => by cases had; rw [ad_add, Nat.zero_add]; refine own_cell HOq.out ?_; rw [List.map_take] at hu; exact take_at hu) (by intro u hu; obtain ⟨z, _, rfl⟩ := List.mem_map.1 hu; rfl) (by unfold maxLen; omega) (by omega) hbs ?_
      intro rr cc w2 hown hgr hnw
      rw [Nat.zero_add, List.nil_append] at hown
      rw [Nat.zero_add] at hnw
      have HO : Hid (w2.ownsRow w0.heap.size 57 1 (.slice rr k cc) k ((q.x.roots.take k).map (Value.int .u64)) ∧ Below W1.heap.size W1 w2 ∧ ∀ g, (Value.slice rr k cc).ownBlock = some g → W1.heap.size ≤ g) := ⟨hown, grown_low hgr (fun g hg => by cases hg) (Nat.le_refl _), fun g hg => (hnw g hg).resolve_left (fun h => by cases h)⟩
      clear hown hgr hnw
      rw [Nat.zero_add]
      go_wp2
      go_meet
      exact ⟨rr, cc, rfl, HO⟩
    case rest =>
      obtain ⟨rr, cc, rfl, HO⟩ := hcut
      have HX2 : Hid (KX w0 wc wb p v L) := HX1.out.below HO.out.2.1
      obtain ⟨f0', lgl', z0'⟩ := HRd.out wc HX2.out
      rw [HPq.out] at f0'
      have oq := HX2.out.q q (List.mem_of_getElem? HQ.out.1)
      rw [HPq.out] at oq
      have HOc : Hid (wc.ownsRow w0.heap.size 57 1 (.slice (some ⟨gq, 0, none⟩) q.x.roots.length q.cc) q.x.roots.length (q.x.roots.map (Value.int .u64))) := oq
      have kc3 : (k : Int) + 1 ≤ (q.cc : Int) := by omega
      have kk2 : (k : Int) + 1 ≤ (q.x.roots.length : Int) := by omega
      have hbs : w0.heap.size ≤ wc.heap.size := HX2.out.bel.size
      have HEnd : Hid (∀ (rl : Option Addr) (cl : Nat) (w2 : World), w2.ownsRow w0.heap.size 57 1 (.slice rl (k + (q.x.roots.length - (k + 1))) cl) (k + (q.x.roots.length - (k + 1))) ((q.x.roots.take k).map (Value.int .u64) ++ (q.x.roots.drop (k + 1)).map (Value.int .u64)) → wc.grownBy w2 (Value.slice rr k cc).ownBlock → (∀ g, (Value.slice rl (k + (q.x.roots.length - (k + 1))) cl).ownBlock = some g → (Value.slice rr k cc).ownBlock = some g ∨ wc.heap.size ≤ g) → DropR w0 wb p v L i q (.returned (.bool true)) (w2.setCell ⟨gl, i * 3, none⟩ (.slice rl (k + (q.x.roots.length - (k + 1))) cl)) ∧ w2.cell? ⟨gl, i * 3, none⟩ = some (.slice (some ⟨gq, 0, none⟩) q.x.roots.length q.cc) ∧ gl < w2.heap.size ∧ w2.frozen? ⟨gl, i * 3, none⟩ = false) := fun rl cl w2 hown hgr hnw => by
        have b2 : Below W1.heap.size W1 w2 := HO.out.2.1.trans (grown_low hgr HO.out.2.2 (by have := HO.out.2.1.size; omega))
        have hl : k + (q.x.roots.length - (k + 1)) = (q.x.roots.take k ++ q.x.roots.drop (k + 1)).length := by simp; omega
        obtain ⟨g0, g1, g2⟩ := HRd.out w2 (HX1.out.below b2)
        rw [HPq.out] at g0
        refine ⟨⟨rfl, .inr ⟨k, rl, cl, ?_⟩⟩, g0, g1, g2⟩
        rw [hl] at hown hnw ⊢
        rw [← List.map_append] at hown
        refine HX1.out.rootsX HQ.out.2 HQ.out.1 b2 hown (fun g hg => ?_) (fun x hx => ?_)
        · rcases hnw g hg with h | h
          · exact HO.out.2.2 g h
          · have := HO.out.2.1.size
            omega
        · refine HX1.out.rl q (List.mem_of_getElem? HQ.out.1) x ?_
          rcases List.mem_append.1 hx with h | h
          · exact List.mem_of_mem_take h
          · exact List.mem_of_mem_drop h
      clear f0 lgl z0 oq HX1 HRd
      by_cases hcc : q.cc = k + 1
      · have hr1 : q.x.roots.length = k + 1 := by omega
        have hd0 : q.x.roots.drop (k + 1) = [] := List.drop_eq_nil_of_le (by omega)
        rw [hcc, hr1] at f0'
        have HE : Hid (k + (q.x.roots.length - (k + 1)) = k + 0 ∧ (q.x.roots.drop (k + 1)).map (Value.int .u64) = []) := ⟨by omega, by rw [hd0]; rfl⟩
        have HEd : Hid _ := HEnd
        clear kc1 kc2 kc3 kcc hd0 HEnd HOc
        go_wp2_with (at_builtin; refine stop_of ?_)
        unfold Hid
        refine wpList_append_all _ rfl _ _ 25 rfl w0.heap.size 57 i1 _ 1 8 Tryd.underlying25 hi1 hy0 hy1 hy2 rfl (by decide) (.slice rr k cc) k ((q.x.roots.take k).map (Value.int .u64)) rfl HO.out.1 _ 0 _ [] rfl rfl (fun _ => rfl) (fun ad had j u hu => by simp at hu) (by intro u hu; simp at hu) (by unfold maxLen; omega) (by omega) hbs ?_
        intro rl cl w2 hown hgr hnw
        have h5 := HEd.out rl cl w2
        rw [HE.out.1, HE.out.2] at h5
        obtain ⟨hF, g0, g1, g2⟩ := h5 hown hgr hnw
        have HF : Hid (DropR w0 wb p v L i q (.returned (.bool true)) (w2.setCell ⟨gl, i * 3, none⟩ (.slice rl (k + 0) cl))) := hF
        rw [hcc, hr1] at g0
        clear hown hgr hnw hF f0' lgl' z0' HO h5 HEd HE
        go_wp2
        go_ret
        exact ⟨rfl, HF.out.2⟩
      · go_wp2_with (at_builtin; refine stop_of ?_)
        unfold Hid
        refine wpList_append_all _ rfl _ _ 25 rfl w0.heap.size 57 i1 _ 1 8 Tryd.underlying25 hi1 hy0 hy1 hy2 rfl (by decide) (.slice rr k cc) k ((q.x.roots.take k).map (Value.int .u64)) rfl HO.out.1 (some ⟨gq, k + 1, none⟩) (q.x.roots.length - (k + 1)) _ ((q.x.roots.drop (k + 1)).map (Value.int .u64)) rfl (by simp) (fun e => by cases e) (fun ad had j u hu => by cases had; rw [ad_add]; refine own_cell HOc.out ?_; rw [List.map_drop] at hu; exact drop_at hu) (by intro u hu; obtain ⟨z, _, rfl⟩ := List.mem_map.1 hu; rfl) (by unfold maxLen; omega) (by omega) hbs ?_
        intro rl cl w2 hown hgr hnw
        obtain ⟨hF, g0, g1, g2⟩ := HEnd.out rl cl w2 hown hgr hnw
        have HF : Hid _ := hF
        clear hown hgr hnw hF f0' lgl' z0' HEnd HO
        go_wp2
        go_ret
        exact ⟨rfl, HF.out.2⟩
  · have kg : ¬ (0 : Int) < (q.x.roots.length : Int) := by omega
    clear hlt
    go_wp2
    go_ret
    exact ⟨rfl, .inl HX.out⟩
end Go.Proofs.YtomdbcddokaagaaDoor

/- A world of one's own: a lane ends. -/
namespace Go.Proofs.YtomdbcddokaagaaDoor
open Go.RowKit

theorem lq3_en : ∀ (l : List Lq) (j : Nat) (q : Lq) (b : Bool), l[j]? = some q → lq3 (l.set j ⟨q.ra, q.cc, ⟨q.x.roots, q.x.sc, b⟩⟩) = (lq3 l).set (j * 3 + 1 + 1) (.bool b)
  | [], j, q, b, h => by simp at h
  | y :: r, 0, q, b, h => by
    have e : y = q := by simpa using h
    subst e
    rfl
  | y :: r, j + 1, q, b, h => by
    have := lq3_en r j q b (by simpa using h)
    have e : ∀ M : List Lq, lq3 (y :: M) = .slice y.ra y.x.roots.length y.cc :: .bool y.x.sc :: .bool y.x.en :: lq3 M := fun _ => rfl
    rw [List.set_cons_succ, e, e, this, show (j + 1) * 3 + 1 + 1 = j * 3 + 1 + 1 + 1 + 1 + 1 by omega, List.set_cons_succ, List.set_cons_succ, List.set_cons_succ]
variable {w0 : Wz} {W : World} {wb : Nat} {p : Vp} {v : Vw} {L : List Lq}
/-- A lane has ended. -/
theorem KX.endX (X : KX w0 W wb p v L) {i g : Nat} {q : Lq} (hq : L[i]? = some q) (hp : p.lr = some ⟨g, 0, none⟩) (b : Bool) :
    KX w0 (W.setCell ⟨g, i * 3 + 1 + 1, none⟩ (.bool b)) wb p ⟨v.h, v.ph, v.sw, v.grey, v.gl, v.laid, v.lanes.set i ⟨q.x.roots, q.x.sc, b⟩⟩ (L.set i ⟨q.ra, q.cc, ⟨q.x.roots, q.x.sc, b⟩⟩) := by
  have hi := (List.getElem?_eq_some_iff.1 hq).1
  have own0 := X.l
  rw [hp] at own0
  have hg := (own0.lt g rfl).1
  have kp : ∀ k, k ≠ g → (W.setCell ⟨g, i * 3 + 1 + 1, none⟩ (.bool b)).heap[k]? = W.heap[k]? := fun k hk => Below.heap_setCell _ _ _ _ hk
  have own : ∀ {e size n : Nat} {u : Value} {xs : List Value}, W.ownsRow w0.heap.size e size u n xs → 61 ≠ e → (W.setCell ⟨g, i * 3 + 1 + 1, none⟩ (.bool b)).ownsRow w0.heap.size e size u n xs := fun h hn => own_same h (fun k hk => kp k (fun e => own_ne h own0 hn.symm k hk (by rw [e]; rfl)))
  have hput := own_setW own0 (k := i * 3 + 1 + 1) (by rw [lq3_len']; omega) (.bool b)
  rw [← lq3_en L i q b hq] at hput
  have old : ∀ (j : Nat) (r : Lq), (L.set i ⟨q.ra, q.cc, ⟨q.x.roots, q.x.sc, b⟩⟩)[j]? = some r → ∃ r0, L[j]? = some r0 ∧ r.ra = r0.ra ∧ r.cc = r0.cc ∧ r.x.roots = r0.x.roots := fun j r hr => by
    rw [List.getElem?_set] at hr
    split at hr
    · rename_i e
      subst e
      first
        | (cases hr; exact ⟨q, hq, rfl, rfl, rfl⟩)
        | (rw [if_pos hi] at hr; cases hr; exact ⟨q, hq, rfl, rfl, rfl⟩)
    · exact ⟨r, hr, rfl, rfl, rfl⟩
  have oldm : ∀ r ∈ L.set i ⟨q.ra, q.cc, ⟨q.x.roots, q.x.sc, b⟩⟩, ∃ r0 ∈ L, r.ra = r0.ra ∧ r.cc = r0.cc ∧ r.x.roots = r0.x.roots := fun r hr => by
    obtain ⟨j, hj⟩ := List.getElem?_of_mem hr
    obtain ⟨r0, h1, h2⟩ := old j r hj
    exact ⟨r0, List.mem_of_getElem? h1, h2⟩
  refine ⟨?_, X.lb, own X.c (by decide), own X.y (by decide), own X.g (by decide), ?_, fun r hr => ?_, fun r hr => ?_, fun j k r s hne hr hs => ?_, ?_, X.ok, X.rg, fun r hr => ?_, X.bel.setCell (p := ⟨g, i * 3 + 1 + 1, none⟩) hg _, w0.st (fun q cs h => kp q (fun e => own_ty own0 h (by decide) (by rw [e]; rfl))) X.bz⟩
  · rw [kp wb (fun e => own_ty own0 X.b (by decide) (by rw [e]; rfl)), X.b]
    unfold Vp.cells
    rw [List.length_set]
  · rw [hp, List.length_set]
    exact hput
  · obtain ⟨r0, h1, h2, h3, h4⟩ := oldm r hr
    rw [h2, h3, h4]
    exact own (X.q r0 h1) (by decide)
  · obtain ⟨r0, h1, h2, h3, h4⟩ := oldm r hr
    rw [h2, h3, h4]
    exact X.ag r0 h1
  · obtain ⟨r0, h1, h2, h3, h4⟩ := old j r hr
    obtain ⟨s0, g1, g2, g3, g4⟩ := old k s hs
    rw [h2, h3, h4, g2, g3, g4]
    exact X.aq j k r0 s0 hne h1 g1
  · rw [← X.e, List.map_set]
  · obtain ⟨r0, h1, _, _, h4⟩ := oldm r hr
    rw [h4]
    exact X.rl r0 h1
/-- What KEnd leaves. -/
def EndR (w0 : Wz) (wb : Nat) (p : Vp) (v : Vw) (L : List Lq) (i : Nat) (q : Lq) (n : Int) (e : Ending) (w' : World) : Prop :=
  e = .returned (.bool true) ∧ ∃ (rr : Option Addr) (cc : Nat), KX w0 w' wb p ⟨v.h, v.ph, v.sw, v.grey, v.gl, v.laid, v.lanes.set i ⟨[n], q.x.sc, true⟩⟩ (L.set i ⟨rr, cc, ⟨[n], q.x.sc, true⟩⟩)
set_option maxRecDepth 100000 in
set_option maxHeartbeats 16000000 in
theorem lane_end (w0 : Wz) (w : World) (wb gl i : Nat) (p : Vp) (v : Vw) (L : List Lq) (q : Lq) (who a b d : Int) (hX : KX w0 w wb p v L) (hq : L[i]? = some q) (hpl : p.lr = some ⟨gl, 0, none⟩) (hr : q.x.roots.length ≤ 2000) (ha : -9223372036854775808 ≤ a ∧ a ≤ 9223372036854775807) :
    Calls Tryd.prog 62 #[.pointer (some ⟨wb, 0, none⟩), .agg #[.int .i64 7, .int .i64 who, .int .i64 a, .int .i64 b, .int .i64 d], .pointer (some ⟨gl, i * 3, none⟩)] w fun e w' => EndR w0 wb p v L i q (valM q.x.roots a) e w' := by
  have hB0 := (Below.refl w.heap.size w).alloc (Nat.le_refl _) (.cells #[.int .i64 7, .int .i64 who, .int .i64 a, .int .i64 b, .int .i64 d] 72)
  have HX : Hid (KX w0 (w.alloc (.cells #[.int .i64 7, .int .i64 who, .int .i64 a, .int .i64 b, .int .i64 d] 72)) wb p v L) := hX.below hB0
  have HB : Hid ((w.alloc (.cells #[.int .i64 7, .int .i64 who, .int .i64 a, .int .i64 b, .int .i64 d] 72)).heap[w.heap.size]? = some (.cells #[.int .i64 7, .int .i64 who, .int .i64 a, .int .i64 b, .int .i64 d] 72 (0, 0))) := heap_alloc_new w _
  have HQ : Hid (L[i]? = some q ∧ p.lr = some ⟨gl, 0, none⟩) := ⟨hq, hpl⟩
  have HVa : Hid (∀ W : World, KX w0 W wb p v L → Calls Tryd.prog 61 #[.pointer (some ⟨gl, i * 3, none⟩), .int .i64 a] W fun e w' => e = .returned (.int .u64 (valM q.x.roots a)) ∧ w' = W) := fun W X => by
    have o := X.l
    rw [hpl] at o
    obtain ⟨g0, _, _⟩ := lq3_at L i q hq
    exact value_any q.x.roots q.ra q.cc gl (i * 3) a W (own_cell o g0) (o.lt gl rfl).2 (wr_own (X.q q (List.mem_of_getElem? hq)) (X.rl q (List.mem_of_getElem? hq))) (by omega) ha
  have HN : Hid (Rng (valM q.x.roots a)) := val_rng (hX.rl q (List.mem_of_getElem? hq)) a
  generalize valM q.x.roots a = n at HVa HN ⊢
  clear hX hB0 hq hpl hr ha
  go_enter Tryd.func62, Tryd.ntmps62
  go_upto_region 29 with fail
  generalize w.alloc (.cells #[.int .i64 7, .int .i64 who, .int .i64 a, .int .i64 b, .int .i64 d] 72) = W at HX HB ⊢
  generalize w.heap.size = sb at HB ⊢
  have s2 : W.cell? ⟨sb, 2, none⟩ = some (.int .i64 a) := heap_cell HB.out rfl
  have lsb := heap_lt HB.out
  go_wp2_with fail
  refine Calls.mono (HVa.out W HX.out) ?_
  rintro e w2 ⟨rfl, hw2⟩
  subst hw2
  have o := HX.out.l
  rw [HQ.out.2] at o
  obtain ⟨g0, g1, g2⟩ := lq3_at L i q HQ.out.1
  obtain ⟨cs, h1, _⟩ := own_out o
  have f0 : w2.cell? ⟨gl, i * 3, none⟩ = some (.slice q.ra q.x.roots.length q.cc) := own_cell o g0
  have f2 : w2.cell? ⟨gl, i * 3 + 1 + 1, none⟩ = some (.bool q.x.en) := own_cell o g2
  have z0 : w2.frozen? ⟨gl, i * 3, none⟩ = false := fz_of h1 _
  have z2 : w2.frozen? ⟨gl, i * 3 + 1 + 1, none⟩ = false := fz_of h1 _
  have lgl := heap_lt h1
  have HF : Hid (EndR w0 wb p v L i q n (.returned (.bool true)) (((w2.alloc (.cells #[.int .u64 n] 57)).setCell ⟨gl, i * 3, none⟩ (.slice (some ⟨w2.heap.size, 0, none⟩) 1 1)).setCell ⟨gl, i * 3 + 1 + 1, none⟩ (.bool true))) := by
    have hi := (List.getElem?_eq_some_iff.1 HQ.out.1).1
    have hown : (w2.alloc (.cells #[.int .u64 n] 57)).ownsRow w0.heap.size 57 1 (.slice (some ⟨w2.heap.size, 0, none⟩) [n].length 1) [n].length ([n].map (Value.int .u64)) := World.ownsRow_lit w2 #[.int .u64 n] 1 HX.out.bel.size (by unfold maxLen; omega) rfl
    have X1 := HX.out.rootsX (r0 := [n]) HQ.out.2 HQ.out.1 ((Below.refl _ _).alloc (Nat.le_refl _) _) hown (fun k hk => by cases hk; exact Nat.le_refl _) (fun x hx => by simp at hx; subst hx; exact HN.out)
    have X2 := X1.endX (i := i) (q := ⟨some ⟨w2.heap.size, 0, none⟩, 1, ⟨[n], q.x.sc, q.x.en⟩⟩) (List.getElem?_set_self hi) HQ.out.2 true
    dsimp only at X2
    rw [List.set_set, List.set_set] at X2
    exact ⟨rfl, _, _, X2⟩
  have e2 : ((w2.alloc (.cells #[.int .u64 n] 57)).setCell ⟨gl, i * 3, none⟩ (.slice (some ⟨w2.heap.size, 0, none⟩) 1 1)).setCell ⟨gl, i * 3 + 1 + 1, none⟩ (.bool true) = ((w2.setCell ⟨gl, i * 3, none⟩ (.slice (some ⟨w2.heap.size, 0, none⟩) 1 1)).setCell ⟨gl, i * 3 + 2, none⟩ (.bool true)).alloc (.cells #[.int .u64 n] 57) := by
    rw [World.setCell_alloc_past _ _ _ _ lgl, World.setCell_alloc_past _ _ _ _ (by simpa using lgl)]
  rw [e2] at HF
  clear e2
  clear o g0 g1 g2 h1 HX HB HVa s2 lsb
  go_wp2
  go_ret
  exact HF.out
end Go.Proofs.YtomdbcddokaagaaDoor
