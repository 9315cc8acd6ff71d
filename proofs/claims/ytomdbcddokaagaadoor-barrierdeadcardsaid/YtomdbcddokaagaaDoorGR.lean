/- A world of one's own: a lane's row of words is a new one.; A world of one's own: the collector looks into a grey cell.; A world of one's own: a lane is scanned: what turns. -/
import Derived.Test.YtomdbcddokaagaaDoorGL
import Derived.Test.YtomdbcddokaagaaDoorGO
import Derived.Test.YtomdbcddokaagaaDoorGP
/- A world of one's own: a lane's row of words is a new one. -/
namespace Go.Proofs.YtomdbcddokaagaaDoor
open Go.RowKit

theorem KX.rootsX {w0 : Wz} {W W1 : World} {wb gl i : Nat} {p : Vp} {v : Vw} {L : List Lq} {q : Lq} {r0 : List Int} {rr : Option Addr} {cc : Nat} (X0 : KX w0 W wb p v L) (hlr : p.lr = some ⟨gl, 0, none⟩) (hq : L[i]? = some q) (hb : Below W.heap.size W W1) (hown : W1.ownsRow w0.heap.size 57 1 (.slice rr r0.length cc) r0.length (r0.map (Value.int .u64))) (hnw : ∀ k, (Value.slice rr r0.length cc).ownBlock = some k → W.heap.size ≤ k) (hx : ∀ x ∈ r0, Rng x) :
    KX w0 (W1.setCell ⟨gl, i * 3, none⟩ (.slice rr r0.length cc)) wb p ⟨v.h, v.ph, v.sw, v.grey, v.gl, v.laid, v.lanes.set i ⟨r0, q.x.sc, q.x.en⟩⟩ (L.set i ⟨rr, cc, ⟨r0, q.x.sc, q.x.en⟩⟩) := by
  have hi := (List.getElem?_eq_some_iff.1 hq).1
  have X := X0.below hb
  have hqm := List.mem_of_getElem? hq
  have l1 := X.l
  rw [hlr] at l1
  obtain ⟨cs, hG⟩ := own_blk l1 rfl
  have hg : w0.heap.size ≤ gl := (l1.lt gl rfl).1
  have st : ∀ k, k ≠ gl → (W1.setCell ⟨gl, i * 3, none⟩ (.slice rr r0.length cc)).heap[k]? = W1.heap[k]? := fun k hk => Below.heap_setCell _ _ _ _ hk
  have own2 : ∀ {e size n : Nat} {y : Value} {xs : List Value}, W1.ownsRow w0.heap.size e size y n xs → 61 ≠ e → (W1.setCell ⟨gl, i * 3, none⟩ (.slice rr r0.length cc)).ownsRow w0.heap.size e size y n xs := fun h hn => own_same h (fun k hk => st k (fun e => own_ty h hG hn (by rw [← e]; exact hk)))
  have at' : ∀ {j : Nat} {r : Lq}, (L.set i ⟨rr, cc, ⟨r0, q.x.sc, q.x.en⟩⟩)[j]? = some r → (j = i ∧ r = ⟨rr, cc, ⟨r0, q.x.sc, q.x.en⟩⟩) ∨ (j ≠ i ∧ L[j]? = some r) := fun {j r} h => by
    by_cases e : j = i
    · subst e
      rw [List.getElem?_set_self hi] at h
      exact .inl ⟨rfl, (Option.some.inj h).symm⟩
    · rw [List.getElem?_set_ne (fun h => e h.symm)] at h
      exact .inr ⟨e, h⟩
  refine ⟨?_, X.lb, own2 X.c (by decide), own2 X.y (by decide), own2 X.g (by decide), ?_, fun r hr => ?_, fun r hr k hk => ?_, fun j j' r r' hne hr hr' k hk => ?_, ?_, X.ok, X.rg, fun r hr => ?_, X.bel.setCell (p := ⟨gl, i * 3, none⟩) hg _, w0.st (fun q cs h => st q (ty_ne h hG (by decide))) X.bz⟩
  · rw [st wb (ty_ne X.b hG (by decide)), X.b]
    unfold Vp.cells
    dsimp only
    rw [List.length_set]
  · rw [List.length_set, lq3_root L i q ⟨rr, cc, ⟨r0, q.x.sc, q.x.en⟩⟩ hq rfl rfl, hlr]
    exact own_setW l1 (by rw [lq3_len']; omega) _
  · obtain ⟨j, hj⟩ := List.getElem?_of_mem hr
    rcases at' hj with ⟨_, rfl⟩ | ⟨hne, hj⟩
    · exact own2 hown (by decide)
    · exact own2 (X.q r (List.mem_of_getElem? hj)) (by decide)
  · obtain ⟨j, hj⟩ := List.getElem?_of_mem hr
    rcases at' hj with ⟨_, rfl⟩ | ⟨hne, hj⟩
    · intro h2
      have h3 := hnw k h2
      have := (X0.g.lt k hk).2
      omega
    · exact X.ag r (List.mem_of_getElem? hj) k hk
  · rcases at' hr with ⟨e1, rfl⟩ | ⟨n1, hr⟩
    · rcases at' hr' with ⟨e2, rfl⟩ | ⟨n2, hr'⟩
      · exact absurd (e1.trans e2.symm) hne
      · intro h2
        have h3 := hnw k hk
        have := ((X0.q r' (List.mem_of_getElem? hr')).lt k h2).2
        omega
    · rcases at' hr' with ⟨e2, rfl⟩ | ⟨n2, hr'⟩
      · intro h2
        have h3 := hnw k h2
        have := ((X0.q r (List.mem_of_getElem? hr)).lt k hk).2
        omega
      · exact X.aq j j' r r' hne hr hr' k hk
  · rw [← X.e, List.map_set]
  · obtain ⟨j, hj⟩ := List.getElem?_of_mem hr
    rcases at' hj with ⟨_, rfl⟩ | ⟨hne, hj⟩
    · exact hx
    · exact X.rl r (List.mem_of_getElem? hj)
end Go.Proofs.YtomdbcddokaagaaDoor

/- A world of one's own: the collector looks into a grey cell. -/
namespace Go.Proofs.YtomdbcddokaagaaDoor
open Go.RowKit

/-- What KInto leaves. -/
def IntoR (w0 : Wz) (wb : Nat) (p : Vp) (v : Vw) (L : List Lq) (c : Nat) (x : Cl) (r : List Int) (e : Ending) (w' : World) : Prop :=
  e = .returned (.bool true) ∧ ∃ (yr : Option Addr) (yc : Nat), KX w0 w' wb { p with yr := yr, yc := yc } (shV ⟨v.h.set c ⟨x.k, 2, x.a, x.b⟩, v.ph, v.sw, r, v.gl, v.laid, v.lanes⟩ (shN (v.h.set c ⟨x.k, 2, x.a, x.b⟩) [x.a, x.b]) (r ++ (shN (v.h.set c ⟨x.k, 2, x.a, x.b⟩) [x.a, x.b]).map Int.ofNat)) L
set_option maxRecDepth 100000 in
set_option maxHeartbeats 16000000 in
theorem collect_into (w0 : Wz) (w : World) (wb : Nat) (p : Vp) (v : Vw) (L : List Lq) (who a b d : Int) (c : Nat) (x : Cl) (r : List Int) (hX : KX w0 w wb p v L) (hT : Tab w) (hp : v.ph = 1 ∨ v.ph = 2) (hs : v.h.length ≤ 100 ∧ v.grey.length + 2 ≤ 100000) (hv : v.grey = (c : Int) :: r) (hx : v.h[c]? = some x) (hTl : 0 < w0.heap.size) :
    Calls Tryd.prog 59 #[.pointer (some ⟨wb, 0, none⟩), .agg #[.int .i64 12, .int .i64 who, .int .i64 a, .int .i64 b, .int .i64 d]] w fun e w' => IntoR w0 wb p v L c x r e w' := by
  have hB0 := (Below.refl w.heap.size w).alloc (Nat.le_refl _) (.cells #[.int .i64 12, .int .i64 who, .int .i64 a, .int .i64 b, .int .i64 d] 72)
  have HX : Hid (KX w0 (w.alloc (.cells #[.int .i64 12, .int .i64 who, .int .i64 a, .int .i64 b, .int .i64 d] 72)) wb p v L) := hX.below hB0
  have HT : Hid (Tab (w.alloc (.cells #[.int .i64 12, .int .i64 who, .int .i64 a, .int .i64 b, .int .i64 d] 72))) := hT.below hB0
  have HS : Hid ((v.ph = 1 ∨ v.ph = 2) ∧ v.h.length ≤ 100 ∧ r.length + 2 ≤ 100000) := ⟨hp, hs.1, by have := hs.2; rw [hv] at this; simp at this; omega⟩
  have HTl : Hid (0 < w0.heap.size) := hTl
  have HV : Hid (v.grey = (c : Int) :: r ∧ v.h[c]? = some x) := ⟨hv, hx⟩
  have hmx : Tryd.prog.follows .mixedOrders = true := by kernel_rfl
  obtain ⟨i2, hi2, hx0, hx1, hx2⟩ := info_parts infoI
  clear hX hT hB0 hp hs
  go_enter Tryd.func59, Tryd.ntmps59
  go_upto_region 18 with fail
  generalize w.alloc (.cells #[.int .i64 12, .int .i64 who, .int .i64 a, .int .i64 b, .int .i64 d] 72) = W at HX HT ⊢
  have hgl : v.grey.length = r.length + 1 := by rw [hv]; rfl
  obtain ⟨gy, cy, hvy, _, lgy⟩ := World.ownsRow.form HX.out.y (by omega)
  have hpy : p.yr = some ⟨gy, 0, none⟩ := (Value.slice.inj hvy).1
  have f3 : W.cell? ⟨wb, 3, none⟩ = some (.slice (some ⟨gy, 0, none⟩) (r.length + 1) p.yc) := by
    have h : W.cell? ⟨wb, 3, none⟩ = some (.slice p.yr v.grey.length p.yc) := heap_cell HX.out.b rfl
    rw [hpy, hgl] at h
    exact h
  have oy := HX.out.y
  rw [hpy] at oy
  have r0 : W.cell? ⟨gy, 0, none⟩ = some (.int .i64 (c : Int)) := own_cell oy (by rw [hv]; rfl)
  have hcap : r.length + 1 ≤ p.yc ∧ p.yc ≤ maxLen := by
    obtain ⟨_, _, _, h1, h2, _⟩ := own_out oy
    rw [hgl] at h1
    exact ⟨h1, h2⟩
  have HNew : Hid (∀ j u, (r.map (Value.int .i64))[j]? = some u → W.cell? ((⟨gy, 1, none⟩ : Addr).add j) = some u) := fun j u hu => by
    rw [ad_add]
    refine own_cell oy ?_
    rw [hv, show 1 + j = j + 1 by omega]
    exact hu
  have lwb := heap_lt HX.out.b
  obtain ⟨kc1, kc2⟩ := hcap
  unfold maxLen at kc2
  have kr : (r.length : Int) < 200000 := by have := HS.out.2.2; omega
  have kcc : (1 : Int) ≤ (p.yc : Int) := by omega
  clear oy hvy hv hx
  go_upto_region 21 with fail
  go_cut [10] from 108 (fun v10 wx => ∃ (yr : Option Addr) (yc : Nat), v10 = .slice yr r.length yc ∧ Hid (wx.ownsRow w0.heap.size 3 1 (.slice yr r.length yc) r.length (r.map (Value.int .i64)) ∧ Below W.heap.size W wx))
  case first =>
    have hbs : w0.heap.size ≤ W.heap.size := HX.out.bel.size
    by_cases hy1 : p.yc = 1
    · have hr0 : r = [] := List.eq_nil_of_length_eq_zero (by omega)
      subst hr0
      rw [hy1] at f3
      simp only [List.length_nil, Nat.zero_add] at f3
      clear kc1 kc2 kcc kr
      go_wp2_with (at_builtin; refine stop_of ?_)
      unfold Hid
      refine wpList_append_all _ rfl _ _ 24 rfl w0.heap.size 3 i2 (.int .i64 0) 1 8 Tryd.underlying24 hi2 hx0 hx1 hx2 rfl (by decide) (.slice none 0 0) 0 [] rfl (World.ownsRow_nil _ _ _ _) _ 0 _ [] rfl rfl (fun _ => rfl) (fun ad had j u hu => by simp at hu) (by intro u hu; simp at hu) (by unfold maxLen; omega) (by omega) hbs ?_
      intro yr yc w2 hown hgr _
      have HO : Hid (w2.ownsRow w0.heap.size 3 1 (.slice yr ([] : List Int).length yc) ([] : List Int).length (([] : List Int).map (Value.int .i64)) ∧ Below W.heap.size W w2) := ⟨hown, grown_low hgr (fun g hg => by cases hg) (Nat.le_refl _)⟩
      clear hown hgr
      go_wp2
      go_meet
      exact ⟨yr, yc, rfl, HO⟩
    · have hy2 : (p.yc == 1) = false := by simpa using hy1
      go_wp2_with (at_builtin; refine stop_of ?_)
      unfold Hid
      refine wpList_append_all _ rfl _ _ 24 rfl w0.heap.size 3 i2 (.int .i64 0) 1 8 Tryd.underlying24 hi2 hx0 hx1 hx2 rfl (by decide) (.slice none 0 0) 0 [] rfl (World.ownsRow_nil _ _ _ _) (some ⟨gy, 1, none⟩) r.length _ (r.map (Value.int .i64)) rfl (by simp) (fun e => by cases e) (fun ad had j u hu => by cases had; exact HNew.out j u hu) (by intro u hu; obtain ⟨z, _, rfl⟩ := List.mem_map.1 hu; rfl) (by unfold maxLen; omega) (by omega) hbs ?_
      intro yr yc w2 hown hgr _
      rw [Nat.zero_add, List.nil_append] at hown
      have HO : Hid (w2.ownsRow w0.heap.size 3 1 (.slice yr r.length yc) r.length (r.map (Value.int .i64)) ∧ Below W.heap.size W w2) := ⟨hown, grown_low hgr (fun g hg => by cases hg) (Nat.le_refl _)⟩
      clear hown hgr
      rw [Nat.zero_add]
      go_wp2
      go_meet
      exact ⟨yr, yc, rfl, HO⟩
  case rest =>
    obtain ⟨yr, yc, rfl, HO⟩ := hcut
    have HX2 : Hid (KX w0 wc wb p v L) := HX.out.below HO.out.2
    have HT2 : Hid (Tab wc) := HT.out.below HO.out.2
    have HX3 : Hid (KX w0 (wc.setCell ⟨wb, 3, none⟩ (.slice yr r.length yc)) wb { p with yr := yr, yc := yc } ⟨v.h, v.ph, v.sw, r, v.gl, v.laid, v.lanes⟩ L) := HX2.out.field 3 _ rfl HX2.out.c HO.out.1 ⟨rfl, rfl, rfl⟩ ⟨rfl, rfl, rfl⟩ HX2.out.ok
    have HT3 : Hid (Tab (wc.setCell ⟨wb, 3, none⟩ (.slice yr r.length yc))) := tab_far HT2.out (fun e => by have h1 := HX2.out.lb; have h2 := HTl.out; omega)
    have f3' : wc.cell? ⟨wb, 3, none⟩ = some (.slice p.yr v.grey.length p.yc) := heap_cell HX2.out.b rfl
    have z3' : wc.frozen? ⟨wb, 3, none⟩ = false := fz_of HX2.out.b 3
    have lw' := heap_lt HX2.out.b
    clear f3 r0 lwb kc1 kc2 kr kcc HX HT HNew lgy hpy
    go_upto_region 23 with fail
    generalize wc.setCell ⟨wb, 3, none⟩ (.slice yr r.length yc) = W3 at HX3 HT3 ⊢
    clear f3' z3' lw' HX2 HT2 HO
    have hc := (List.getElem?_eq_some_iff.1 HV.out.2).1
    obtain ⟨gc, cc, hvc, _, lgc⟩ := World.ownsRow.form HX3.out.c (show 0 < v.h.length from by omega)
    have hpc : p.cr = some ⟨gc, 0, none⟩ := (Value.slice.inj hvc).1
    have kk1 : (c : Int) < (v.h.length : Int) := by omega
    have kk0 : (0 : Int) ≤ (c : Int) := by omega
    have HRd : Hid (∀ (W' : World) (p' : Vp) (v' : Vw) (y : Cl), KX w0 W' wb p' v' L → p'.cr = some ⟨gc, 0, none⟩ → p'.cc = p.cc → v'.h.length = v.h.length → v'.h[c]? = some y → W'.cell? ⟨wb, 0, none⟩ = some (.slice (some ⟨gc, 0, none⟩) v.h.length p.cc) ∧ W'.cell? ⟨gc, c * 4 + 1, none⟩ = some (.int .u8 y.c) ∧ W'.cell? ⟨gc, c * 4 + 1 + 1, none⟩ = some (.int .u64 y.a) ∧ W'.cell? ⟨gc, c * 4 + 1 + 1 + 1, none⟩ = some (.int .u64 y.b) ∧ W'.frozen? ⟨gc, c * 4 + 1, none⟩ = false ∧ wb < W'.heap.size ∧ gc < W'.heap.size) := fun W' p' v' y X e1 e2 e3 e4 => by
      have o := X.c
      rw [e1] at o
      obtain ⟨_, q1, q2, q3⟩ := cl4_at v'.h c y e4
      obtain ⟨cs, h1, _⟩ := own_out o
      refine ⟨?_, own_cell o q1, own_cell o q2, own_cell o q3, fz_of h1 _, heap_lt X.b, (o.lt gc rfl).2⟩
      rw [← e1, ← e2, ← e3]
      exact heap_cell X.b rfl
    obtain ⟨f0, d1, d2, d3, z1, lwb, _⟩ := HRd.out W3 _ _ x HX3.out hpc rfl rfl HV.out.2
    have HX4 : Hid (KX w0 (W3.setCell ⟨gc, c * 4 + 1, none⟩ (.int .u8 2)) wb { p with yr := yr, yc := yc } ⟨v.h.set c ⟨x.k, 2, x.a, x.b⟩, v.ph, v.sw, r, v.gl, v.laid, v.lanes⟩ L) := HX3.out.turnC (v := ⟨v.h, v.ph, v.sw, r, v.gl, v.laid, v.lanes⟩) HV.out.2 hpc 2 ((HX3.out.ok x (List.mem_of_getElem? HV.out.2)).turn ⟨by omega, by omega⟩)
    have HT4 : Hid (Tab (W3.setCell ⟨gc, c * 4 + 1, none⟩ (.int .u8 2))) := tab_far HT3.out (fun e => by
      have o := HX3.out.c
      rw [show ({ p with yr := yr, yc := yc } : Vp).cr = some ⟨gc, 0, none⟩ from hpc] at o
      have h1 := (o.lt gc rfl).1
      have h2 := HTl.out
      omega)
    have HPc : Hid (p.cr = some ⟨gc, 0, none⟩) := hpc
    clear hvc hpc
    go_upto_region 24 with fail
    generalize W3.setCell ⟨gc, c * 4 + 1, none⟩ (.int .u8 2) = W4 at HX4 HT4 ⊢
    clear f0 d1 d2 d3 z1 lwb lgc HX3 HT3
    obtain ⟨f0, d1, d2, d3, z1, lwb, lgc⟩ := HRd.out W4 _ _ ⟨x.k, 2, x.a, x.b⟩ HX4.out HPc.out rfl (by simp) (List.getElem?_set_self hc)
    have HWo : Hid (Calls Tryd.prog 80 #[.pointer (some ⟨wb, 0, none⟩), .int .u64 x.a, .int .u64 x.b] W4.drew fun e w' => e = .returned (.bool true) ∧ ∃ yr' yc', KX w0 w' wb { ({ p with yr := yr, yc := yc } : Vp) with yr := yr', yc := yc' } (shV ⟨v.h.set c ⟨x.k, 2, x.a, x.b⟩, v.ph, v.sw, r, v.gl, v.laid, v.lanes⟩ (shN (v.h.set c ⟨x.k, 2, x.a, x.b⟩) [x.a, x.b]) (r ++ (shN (v.h.set c ⟨x.k, 2, x.a, x.b⟩) [x.a, x.b]).map Int.ofNat)) L) := words_any w0 W4.drew wb { p with yr := yr, yc := yc } ⟨v.h.set c ⟨x.k, 2, x.a, x.b⟩, v.ph, v.sw, r, v.gl, v.laid, v.lanes⟩ L x.a x.b (HX4.out.below ((Below.refl _ _).drew)) (HT4.out.below ((Below.refl _ _).drew)) (HX4.out.ok ⟨x.k, 2, x.a, x.b⟩ (List.mem_of_getElem? (List.getElem?_set_self hc))).a (HX4.out.ok ⟨x.k, 2, x.a, x.b⟩ (List.mem_of_getElem? (List.getElem?_set_self hc))).b HS.out.1 ⟨by simp; exact HS.out.2.1, HS.out.2.2⟩
    have HKp : Hid (∀ w' : World, (∃ yr' yc', KX w0 w' wb { ({ p with yr := yr, yc := yc } : Vp) with yr := yr', yc := yc' } (shV ⟨v.h.set c ⟨x.k, 2, x.a, x.b⟩, v.ph, v.sw, r, v.gl, v.laid, v.lanes⟩ (shN (v.h.set c ⟨x.k, 2, x.a, x.b⟩) [x.a, x.b]) (r ++ (shN (v.h.set c ⟨x.k, 2, x.a, x.b⟩) [x.a, x.b]).map Int.ofNat)) L) → w'.cell? ⟨wb, 0, none⟩ = some (.slice (some ⟨gc, 0, none⟩) v.h.length p.cc) ∧ w'.cell? ⟨gc, c * 4 + 1 + 1, none⟩ = some (.int .u64 x.a) ∧ w'.cell? ⟨gc, c * 4 + 1 + 1 + 1, none⟩ = some (.int .u64 x.b) ∧ wb < w'.heap.size ∧ gc < w'.heap.size) := by
      rintro w' ⟨yr', yc', X⟩
      have hl := greyL_len (shN (v.h.set c ⟨x.k, 2, x.a, x.b⟩) [x.a, x.b]) (v.h.set c ⟨x.k, 2, x.a, x.b⟩)
      obtain ⟨y, hy, ya, yb⟩ : ∃ y, (greyL (v.h.set c ⟨x.k, 2, x.a, x.b⟩) (shN (v.h.set c ⟨x.k, 2, x.a, x.b⟩) [x.a, x.b]))[c]? = some y ∧ y.a = x.a ∧ y.b = x.b := by
        rw [greyL_get, List.getElem?_set_self hc]
        refine ⟨_, rfl, ?_, ?_⟩ <;> (split <;> rfl)
      obtain ⟨g0, _, g2, g3, _, g5, g6⟩ := HRd.out w' _ _ y X HPc.out rfl (hl.trans (by simp)) hy
      rw [ya] at g2
      rw [yb] at g3
      exact ⟨g0, g2, g3, g5, g6⟩
    clear d1 z1
    go_region_held3 (fun w' : World => w'.cell? ⟨wb, 0, none⟩ = some (.slice (some ⟨gc, 0, none⟩) v.h.length p.cc) ∧ w'.cell? ⟨gc, c * 4 + 1 + 1, none⟩ = some (.int .u64 x.a) ∧ w'.cell? ⟨gc, c * 4 + 1 + 1 + 1, none⟩ = some (.int .u64 x.b) ∧ wb < w'.heap.size ∧ gc < w'.heap.size) (first | exact ⟨f0, d2, d3, lwb, lgc⟩ | (go_keep; done) | exact HKp.out _ h5) (first | (go_at_call 80; refine HWo.out.mono ?_; rintro e w5 ⟨rfl, h5⟩) | fail)
    have HF : Hid (IntoR w0 wb p v L c x r (.returned (.bool true)) w5) := ⟨rfl, h5⟩
    clear h5 HWo HKp
    go_wp2_with fail
    go_ret
    exact HF.out
end Go.Proofs.YtomdbcddokaagaaDoor

/- A world of one's own: a lane is scanned: what turns. -/
namespace Go.Proofs.YtomdbcddokaagaaDoor
open Go.RowKit

theorem lq3_sc : ∀ (l : List Lq) (j : Nat) (q : Lq) (b : Bool), l[j]? = some q → lq3 (l.set j ⟨q.ra, q.cc, ⟨q.x.roots, b, q.x.en⟩⟩) = (lq3 l).set (j * 3 + 1) (.bool b)
  | [], j, q, b, h => by simp at h
  | y :: r, 0, q, b, h => by
    have e : y = q := by simpa using h
    subst e
    rfl
  | y :: r, j + 1, q, b, h => by
    have := lq3_sc r j q b (by simpa using h)
    have e : ∀ M : List Lq, lq3 (y :: M) = .slice y.ra y.x.roots.length y.cc :: .bool y.x.sc :: .bool y.x.en :: lq3 M := fun _ => rfl
    rw [List.set_cons_succ, e, e, this, show (j + 1) * 3 + 1 = j * 3 + 1 + 1 + 1 + 1 by omega, List.set_cons_succ, List.set_cons_succ, List.set_cons_succ]
variable {w0 : Wz} {W : World} {wb : Nat} {p : Vp} {v : Vw} {L : List Lq}
/-- A lane is scanned. -/
theorem KX.scanX (X : KX w0 W wb p v L) {i g : Nat} {q : Lq} (hq : L[i]? = some q) (hp : p.lr = some ⟨g, 0, none⟩) (b : Bool) :
    KX w0 (W.setCell ⟨g, i * 3 + 1, none⟩ (.bool b)) wb p ⟨v.h, v.ph, v.sw, v.grey, v.gl, v.laid, v.lanes.set i ⟨q.x.roots, b, q.x.en⟩⟩ (L.set i ⟨q.ra, q.cc, ⟨q.x.roots, b, q.x.en⟩⟩) := by
  have hi := (List.getElem?_eq_some_iff.1 hq).1
  have own0 := X.l
  rw [hp] at own0
  have hg := (own0.lt g rfl).1
  have kp : ∀ k, k ≠ g → (W.setCell ⟨g, i * 3 + 1, none⟩ (.bool b)).heap[k]? = W.heap[k]? := fun k hk => Below.heap_setCell _ _ _ _ hk
  have own : ∀ {e size n : Nat} {u : Value} {xs : List Value}, W.ownsRow w0.heap.size e size u n xs → 61 ≠ e → (W.setCell ⟨g, i * 3 + 1, none⟩ (.bool b)).ownsRow w0.heap.size e size u n xs := fun h hn => own_same h (fun k hk => kp k (fun e => own_ne h own0 hn.symm k hk (by rw [e]; rfl)))
  have hput := own_setW own0 (k := i * 3 + 1) (by rw [lq3_len']; omega) (.bool b)
  rw [← lq3_sc L i q b hq] at hput
  have old : ∀ (j : Nat) (r : Lq), (L.set i ⟨q.ra, q.cc, ⟨q.x.roots, b, q.x.en⟩⟩)[j]? = some r → ∃ r0, L[j]? = some r0 ∧ r.ra = r0.ra ∧ r.cc = r0.cc ∧ r.x.roots = r0.x.roots := fun j r hr => by
    rw [List.getElem?_set] at hr
    split at hr
    · rename_i e
      subst e
      first
        | (cases hr; exact ⟨q, hq, rfl, rfl, rfl⟩)
        | (rw [if_pos hi] at hr; cases hr; exact ⟨q, hq, rfl, rfl, rfl⟩)
    · exact ⟨r, hr, rfl, rfl, rfl⟩
  have oldm : ∀ r ∈ L.set i ⟨q.ra, q.cc, ⟨q.x.roots, b, q.x.en⟩⟩, ∃ r0 ∈ L, r.ra = r0.ra ∧ r.cc = r0.cc ∧ r.x.roots = r0.x.roots := fun r hr => by
    obtain ⟨j, hj⟩ := List.getElem?_of_mem hr
    obtain ⟨r0, h1, h2⟩ := old j r hj
    exact ⟨r0, List.mem_of_getElem? h1, h2⟩
  refine ⟨?_, X.lb, own X.c (by decide), own X.y (by decide), own X.g (by decide), ?_, fun r hr => ?_, fun r hr => ?_, fun j k r s hne hr hs => ?_, ?_, X.ok, X.rg, fun r hr => ?_, X.bel.setCell (p := ⟨g, i * 3 + 1, none⟩) hg _, w0.st (fun q cs h => kp q (fun e => own_ty own0 h (by decide) (by rw [e]; rfl))) X.bz⟩
  · rw [kp wb (fun e => own_ty own0 X.b (by decide) (by rw [e]; rfl)), X.b]
    unfold Vp.cells
    rw [List.length_set]
  · rw [hp, List.length_set]
    exact hput
  · obtain ⟨r0, h1, h2, h3, h4⟩ := oldm r hr
    rw [h2, h3, h4]
    exact own (X.q r0 h1) (by decide)
  · obtain ⟨r0, h1, h2, h3, h4⟩ := oldm r hr
    rw [h2, h3, h4]
    exact X.ag r0 h1
  · obtain ⟨r0, h1, h2, h3, h4⟩ := old j r hr
    obtain ⟨s0, g1, g2, g3, g4⟩ := old k s hs
    rw [h2, h3, h4, g2, g3, g4]
    exact X.aq j k r0 s0 hne h1 g1
  · rw [← X.e, List.map_set]
  · obtain ⟨r0, h1, _, _, h4⟩ := oldm r hr
    rw [h4]
    exact X.rl r0 h1
/-- What has been shaded for the roots so far: white cells of old, none twice, all that they name. -/
structure Sl (v : Vw) (ws : List Int) (l : List Nat) : Prop where
  wh : Whites v.h l
  nd : l.Nodup
  al : ∀ w ∈ ws, ∀ d, refN w = some d → WhiteAt v d → d ∈ l
  le : l.length ≤ 2 * ws.length
  on : ∀ c ∈ l, ∃ w ∈ ws, refN w = some c
theorem greyL_app : ∀ (a b : List Nat) (h : List Cl), greyL h (a ++ b) = greyL (greyL h a) b
  | [], _, _ => rfl
  | c :: r, b, h => by
    show greyL _ (r ++ b) = _
    rw [greyL_app r b]
    rfl
theorem Sl.next {v : Vw} {ws : List Int} {l : List Nat} (h : Sl v ws l) (x : Int) : Sl v (ws ++ [x]) (l ++ shN (greyL v.h l) [x, x]) := by
  have hw := sh_whites (greyL v.h l) [x, x]
  have fresh : ∀ c ∈ shN (greyL v.h l) [x, x], (∃ y, v.h[c]? = some y ∧ whiteB y = true) ∧ c ∉ l := fun c hc => by
    obtain ⟨y, hy, hyw⟩ := hw c hc
    obtain ⟨h1, h2⟩ := white_grey hy hyw
    exact ⟨⟨y, h1, hyw⟩, h2⟩
  refine ⟨fun c hc => ?_, ?_, fun w hwm d hr hd => ?_, ?_, fun c hc => ?_⟩
  · rcases List.mem_append.1 hc with h1 | h1
    · exact h.wh c h1
    · exact (fresh c h1).1
  · refine List.nodup_append.2 ⟨h.nd, sh_nodup _ _, fun a ha b hb e => ?_⟩
    subst e
    exact (fresh a hb).2 ha
  · rcases List.mem_append.1 hwm with h1 | h1
    · exact List.mem_append_left _ (h.al w h1 d hr hd)
    · have e : w = x := List.mem_singleton.1 h1
      subst e
      by_cases hin : d ∈ l
      · exact List.mem_append_left _ hin
      · refine List.mem_append_right _ ?_
        obtain ⟨y, hy, hyw⟩ := hd
        exact shf_new (h := greyL v.h l) (y := y) (by rw [greyL_get, hy]; simp [hin]) hyw [w, w] [] ⟨w, by simp, hr⟩
  · have := shN_len (greyL v.h l) [x, x]
    have h2 := h.le
    simp only [List.length_append, List.length_cons, List.length_nil] at this ⊢
    omega
  · rcases List.mem_append.1 hc with h1 | h1
    · obtain ⟨w, hw, hr⟩ := h.on c h1
      exact ⟨w, List.mem_append_left _ hw, hr⟩
    · obtain ⟨w, hw, hr⟩ := sh_only h1
      have e : w = x := by simpa using hw
      exact ⟨x, List.mem_append_right _ (by simp), by rw [← e]; exact hr⟩
end Go.Proofs.YtomdbcddokaagaaDoor
