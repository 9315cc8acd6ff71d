/- takes.; (*World).cell. -/
import Derived.Test.YtomdbcddokaagaaDoorGN
/- takes. -/
namespace Go.Proofs.YtomdbcddokaagaaDoor
open Go.RowKit

/-- What takes leaves: one word more, where there is room. -/
def TkR (w : World) (B lb o : Nat) (vr : Value) (r : List Int) (x : Int) (w' : World) : Prop := (¬ r.length < 40 ∧ w' = w) ∨ (r.length < 40 ∧ ∃ (rr : Option Addr) (cc : Nat) (w1 : World), w1.ownsRow B 57 1 (.slice rr (r.length + 1) cc) (r.length + 1) ((r ++ [x]).map (Value.int .u64)) ∧ (w.alloc (.cells #[.int .u64 x] 57)).grownBy w1 vr.ownBlock ∧ (∀ g, (Value.slice rr (r.length + 1) cc).ownBlock = some g → vr.ownBlock = some g ∨ (w.alloc (.cells #[.int .u64 x] 57)).heap.size ≤ g) ∧ w' = w1.setCell ⟨lb, o, none⟩ (.slice rr (r.length + 1) cc))
set_option maxRecDepth 100000 in
set_option maxHeartbeats 4000000 in
theorem takes_any (B lb o : Nat) (r : List Int) (rr : Option Addr) (cc : Nat) (x : Int) (cs : Array Value) (w : World) (hB : B ≤ w.heap.size) (hb : w.heap[lb]? = some (.cells cs 61 (0, 0))) (hc : cs[o]? = some (.slice rr r.length cc)) (ho : w.ownsRow B 57 1 (.slice rr r.length cc) r.length (r.map (Value.int .u64))) :
    Calls Tryd.prog 82 #[.pointer (some ⟨lb, o, none⟩), .int .u64 x] w fun e w' => (∃ v, e = .returned v) ∧ TkR w B lb o (.slice rr r.length cc) r x w' := by
  obtain ⟨i1, hi1, hy0, hy1, hy2⟩ := info_parts infoWd
  have c0 := heap_cell hb hc
  have l0 := heap_lt hb
  have HB0 : Hid (w.heap[lb]? = some (.cells cs 61 (0, 0))) := hb
  have HO : Hid (w.ownsRow B 57 1 (.slice rr r.length cc) r.length (r.map (Value.int .u64))) := ho
  have HCs : Hid (cs[o]? = some (.slice rr r.length cc)) := hc
  clear hb hc ho
  by_cases h40 : r.length < 40
  · have k1 : (r.length : Int) < 40 := by omega
    have b1 : Below w.heap.size w (w.alloc (.cells #[.int .u64 x] 57)) := (Below.refl _ w).alloc (Nat.le_refl _) _
    have HO1 : Hid ((w.alloc (.cells #[.int .u64 x] 57)).ownsRow B 57 1 (.slice rr r.length cc) r.length (r.map (Value.int .u64))) := own_same HO.out (fun k hk => b1.block k (HO.out.lt k hk).2)
    have HB1 : Hid ((w.alloc (.cells #[.int .u64 x] 57)).heap[lb]? = some (.cells cs 61 (0, 0))) := (b1.block _ l0).trans HB0.out
    have hs1 : B ≤ (w.alloc (.cells #[.int .u64 x] 57)).heap.size := by rw [World.size_alloc]; omega
    clear b1
    go_enter Tryd.func82, Tryd.ntmps82
    go_wp2_with (at_builtin; refine stop_of ?_)
    unfold Hid
    refine wpList_append_all _ rfl _ _ 25 rfl B 57 i1 _ 1 8 Tryd.underlying25 hi1 hy0 hy1 hy2 rfl (by decide) (.slice rr r.length cc) r.length (r.map (Value.int .u64)) rfl HO1.out (some ⟨w.heap.size, 0, none⟩) 1 1 [.int .u64 x] rfl rfl (fun e => by cases e) (fun ad had j u hu => by cases had; rw [ad_add, Nat.zero_add]; exact new_cell w _ _ j u hu) (by intro u hu; simp at hu; rcases hu with rfl; rfl) (by unfold maxLen; omega) (by omega) hs1 ?_
    intro rl' cl' w1 hown hgr hnw
    have hb2 : w1.heap[lb]? = some (.cells cs 61 (0, 0)) := (hgr.block lb (heap_lt HB1.out) (fun e => own_ty HO1.out HB1.out (by decide) e.symm)).trans HB1.out
    have f2 : w1.frozen? ⟨lb, o, none⟩ = false := by simp [World.frozen?, hb2]
    have c2 := heap_cell hb2 HCs.out
    have l2 := heap_lt hb2
    have HR : Hid (TkR w B lb o (.slice rr r.length cc) r x (w1.setCell ⟨lb, o, none⟩ (.slice rl' (r.length + 1) cl'))) := .inr ⟨h40, rl', cl', w1, by rw [List.map_append]; exact hown, hgr, hnw, rfl⟩
    clear hown hgr hnw hb2 HO1 HB1 c0
    go_wp2
    exact bodyPost_end (results_none rfl _ _ _) rfl ⟨⟨_, rfl⟩, HR.out⟩
  · have k1 : ¬ (r.length : Int) < 40 := by omega
    go_enter Tryd.func82, Tryd.ntmps82
    go_wp2
    exact bodyPost_end (results_none rfl _ _ _) rfl ⟨⟨_, rfl⟩, .inl ⟨h40, rfl⟩⟩
theorem own_setW {w : World} {base e size n cap g k : Nat} {xs : List Value} (h : w.ownsRow base e size (.slice (some ⟨g, 0, none⟩) n cap) n xs) (hk : k < xs.length) (u : Value) : (w.setCell ⟨g, k, none⟩ u).ownsRow base e size (.slice (some ⟨g, 0, none⟩) n cap) n (xs.set k u) := by
  obtain ⟨cs, h1, h2, h3, h4, h5, h6, h7⟩ := own_out h
  refine own_of (set_atC h1 u) (by simp [h2]) h3 h4 h5 (by simp [h6]) (fun j x hj => ?_)
  rw [List.getElem?_set] at hj
  have hkc : k < cs.size := (Array.getElem?_eq_some_iff.1 (h7 k _ (List.getElem?_eq_getElem hk))).1
  split at hj
  · rename_i e
    subst e
    cases hj
    rw [Array.getElem?_setIfInBounds_self_of_lt hkc]
  · rename_i e
    rw [Array.getElem?_setIfInBounds_ne e]
    exact h7 j x hj
theorem lq3_len' (l : List Lq) : (lq3 l).length = l.length * 3 := by
  induction l with
  | nil => rfl
  | cons y r ih => show ([_, _, _] ++ lq3 r).length = _; simp [ih]; omega
theorem lq3_root : ∀ (l : List Lq) (j : Nat) (q q' : Lq), l[j]? = some q → q'.x.sc = q.x.sc → q'.x.en = q.x.en → lq3 (l.set j q') = (lq3 l).set (j * 3) (.slice q'.ra q'.x.roots.length q'.cc)
  | [], j, q, q', h, _, _ => by simp at h
  | y :: r, 0, q, q', h, h1, h2 => by
    have e : y = q := by simpa using h
    subst e
    show [_, _, _] ++ lq3 r = ([_, _, _] ++ lq3 r).set 0 _
    rw [h1, h2]
    rfl
  | y :: r, j + 1, q, q', h, h1, h2 => by
    have := lq3_root r j q q' (by simpa using h) h1 h2
    have e : ∀ M : List Lq, lq3 (y :: M) = .slice y.ra y.x.roots.length y.cc :: .bool y.x.sc :: .bool y.x.en :: lq3 M := fun _ => rfl
    rw [List.set_cons_succ, e, e, this, show (j + 1) * 3 = j * 3 + 1 + 1 + 1 by omega, List.set_cons_succ, List.set_cons_succ, List.set_cons_succ]
/-- A lane has one word more. -/
theorem KX.takes {w0 : Wz} {W W' : World} {wb gl i : Nat} {p : Vp} {v : Vw} {L : List Lq} {q : Lq} {x : Int} (X : KX w0 W wb p v L) (hlr : p.lr = some ⟨gl, 0, none⟩) (hq : L[i]? = some q) (hx : Rng x) (h40 : q.x.roots.length < 40) (ht : TkR W w0.heap.size gl (i * 3) (.slice q.ra q.x.roots.length q.cc) q.x.roots x W') :
    ∃ rr cc, KX w0 W' wb p ⟨v.h, v.ph, v.sw, v.grey, v.gl, v.laid, v.lanes.set i ⟨q.x.roots ++ [x], q.x.sc, q.x.en⟩⟩ (L.set i ⟨rr, cc, ⟨q.x.roots ++ [x], q.x.sc, q.x.en⟩⟩) := by
  rcases ht with ⟨h, _⟩ | ⟨_, rr, cc, w1, hown, hgr, hnw, rfl⟩
  · exact absurd h40 h
  refine ⟨rr, cc, ?_⟩
  have hi := (List.getElem?_eq_some_iff.1 hq).1
  have b2 : Below W.heap.size W (W.alloc (.cells #[.int .u64 x] 57)) := (Below.refl _ W).alloc (Nat.le_refl _) _
  have X2 := X.below b2
  generalize W.alloc (.cells #[.int .u64 x] 57) = W2 at b2 X2 hgr hnw
  have hqm := List.mem_of_getElem? hq
  have hqo := X2.q q hqm
  have kp : ∀ k, k < W2.heap.size → (Value.slice q.ra q.x.roots.length q.cc).ownBlock ≠ some k → w1.heap[k]? = W2.heap[k]? := fun k hk hn => hgr.block k hk (fun e => hn e.symm)
  have own1 : ∀ {e size n : Nat} {y : Value} {xs : List Value}, W2.ownsRow w0.heap.size e size y n xs → (∀ k, y.ownBlock = some k → (Value.slice q.ra q.x.roots.length q.cc).ownBlock ≠ some k) → w1.ownsRow w0.heap.size e size y n xs := fun h hn => own_same h (fun k hk => kp k (h.lt k hk).2 (hn k hk))
  have ty1 : ∀ {e size n : Nat} {y : Value} {xs : List Value}, W2.ownsRow w0.heap.size e size y n xs → e ≠ 57 → w1.ownsRow w0.heap.size e size y n xs := fun h hn => own1 h (fun k hk => by obtain ⟨cs, hc⟩ := own_blk h hk; exact own_ty hqo hc hn)
  have l1 := ty1 X2.l (by decide)
  rw [hlr] at l1
  obtain ⟨cs, hG⟩ := own_blk l1 rfl
  have hg : w0.heap.size ≤ gl := (l1.lt gl rfl).1
  have st : ∀ k, k ≠ gl → (w1.setCell ⟨gl, i * 3, none⟩ (.slice rr (q.x.roots.length + 1) cc)).heap[k]? = w1.heap[k]? := fun k hk => Below.heap_setCell _ _ _ _ hk
  have own2 : ∀ {e size n : Nat} {y : Value} {xs : List Value}, w1.ownsRow w0.heap.size e size y n xs → 61 ≠ e → (w1.setCell ⟨gl, i * 3, none⟩ (.slice rr (q.x.roots.length + 1) cc)).ownsRow w0.heap.size e size y n xs := fun h hn => own_same h (fun k hk => st k (fun e => own_ty h hG hn (by rw [← e]; exact hk)))
  have at' : ∀ {j : Nat} {r : Lq}, (L.set i ⟨rr, cc, ⟨q.x.roots ++ [x], q.x.sc, q.x.en⟩⟩)[j]? = some r → (j = i ∧ r = ⟨rr, cc, ⟨q.x.roots ++ [x], q.x.sc, q.x.en⟩⟩) ∨ (j ≠ i ∧ L[j]? = some r) := fun {j r} h => by
    by_cases e : j = i
    · subst e
      rw [List.getElem?_set_self hi] at h
      exact .inl ⟨rfl, (Option.some.inj h).symm⟩
    · rw [List.getElem?_set_ne (fun h => e h.symm)] at h
      exact .inr ⟨e, h⟩
  have len : (q.x.roots ++ [x]).length = q.x.roots.length + 1 := by simp
  have bw : W2.heap[wb]? = _ := X2.b
  have hwb : w1.heap[wb]? = W2.heap[wb]? := kp wb (heap_lt X2.b) (own_ty hqo X2.b (by decide))
  refine ⟨?_, X.lb, own2 (ty1 X2.c (by decide)) (by decide), own2 (ty1 X2.y (by decide)) (by decide), own2 (own1 X2.g (fun k hk => X2.ag q hqm k hk)) (by decide), ?_, fun r hr => ?_, fun r hr k hk => ?_, fun j j' r r' hne hr hr' k hk => ?_, ?_, X.ok, X.rg, fun r hr => ?_, ?_, ?_⟩
  · rw [st wb (ty_ne (hwb.trans bw) hG (by decide)), hwb, bw]
    unfold Vp.cells
    dsimp only
    rw [List.length_set]
  · rw [List.length_set, lq3_root L i q ⟨rr, cc, ⟨q.x.roots ++ [x], q.x.sc, q.x.en⟩⟩ hq rfl rfl]
    dsimp only
    rw [len, hlr]
    exact own_setW l1 (by rw [lq3_len']; omega) _
  · obtain ⟨j, hj⟩ := List.getElem?_of_mem hr
    rcases at' hj with ⟨_, rfl⟩ | ⟨hne, hj⟩
    · dsimp only
      rw [len]
      exact own2 hown (by decide)
    · exact own2 (own1 (X2.q r (List.mem_of_getElem? hj)) (fun k hk => X2.aq j i r q hne hj hq k hk)) (by decide)
  · obtain ⟨j, hj⟩ := List.getElem?_of_mem hr
    rcases at' hj with ⟨_, rfl⟩ | ⟨hne, hj⟩
    · intro h2
      dsimp only at h2
      rw [len] at h2
      rcases hnw k h2 with h3 | h3
      · exact X2.ag q hqm k hk h3
      · have := (X2.g.lt k hk).2
        omega
    · exact X2.ag r (List.mem_of_getElem? hj) k hk
  · rcases at' hr with ⟨e1, rfl⟩ | ⟨n1, hr⟩
    · rcases at' hr' with ⟨e2, rfl⟩ | ⟨n2, hr'⟩
      · exact absurd (e1.trans e2.symm) hne
      · dsimp only at hk
        rw [len] at hk
        intro h2
        rcases hnw k hk with h3 | h3
        · exact X2.aq i j' q r' (fun e => n2 e.symm) hq hr' k h3 h2
        · have := ((X2.q r' (List.mem_of_getElem? hr')).lt k h2).2
          omega
    · rcases at' hr' with ⟨e2, rfl⟩ | ⟨n2, hr'⟩
      · intro h2
        dsimp only at h2
        rw [len] at h2
        rcases hnw k h2 with h3 | h3
        · exact X2.aq j i r q n1 hr hq k hk h3
        · have := ((X2.q r (List.mem_of_getElem? hr)).lt k hk).2
          omega
      · exact X2.aq j j' r r' hne hr hr' k hk
  · rw [← X.e, List.map_set]
  · obtain ⟨j, hj⟩ := List.getElem?_of_mem hr
    rcases at' hj with ⟨_, rfl⟩ | ⟨_, hj⟩
    · intro y hy
      rcases List.mem_append.1 hy with hy | hy
      · exact X.rl q hqm y hy
      · rw [List.mem_singleton.1 hy]; exact hx
    · exact X.rl r (List.mem_of_getElem? hj)
  · exact (X2.bel.trans (grown_low hgr (fun g hg' => (hqo.lt g hg').1) X2.bel.size)).setCell (p := ⟨gl, i * 3, none⟩) hg _
  · exact w0.st (fun k cs' h => by
      have h1 := kp k (heap_lt h) (own_ty hqo h (by decide))
      exact (st k (ty_ne (h1.trans h) hG (by decide))).trans h1) X2.bz
end Go.Proofs.YtomdbcddokaagaaDoor

/- (*World).cell. -/
namespace Go.Proofs.YtomdbcddokaagaaDoor
open Go.RowKit

/-- A used cell that a word of the list names. -/
def GoodC (v : Vw) (r : List Int) (c : Nat) : Prop := (∃ x ∈ r, refN x = some c) ∧ ∃ y, v.h[c]? = some y ∧ usedB y = true
/-- What cell answers. -/
def KcR (v : Vw) (r : List Int) (e : Ending) : Prop := ∃ (d : Nat) (is : Bool), e = .returned (.tuple #[.int .i64 d, .bool is]) ∧ (is = true → GoodC v r d)
set_option maxRecDepth 100000 in
set_option maxHeartbeats 8000000 in
theorem kcell_any (wb lb o : Nat) (p : Vp) (v : Vw) (r : List Int) (rr : Option Addr) (cc : Nat) (c : Int) (w : World) (hb : w.heap[wb]? = some (.cells (p.cells v) 69 (0, 0))) (hH : HR w p.cr v.h) (hl : w.cell? ⟨lb, o, none⟩ = some (.slice rr r.length cc)) (hlt : lb < w.heap.size) (hw : WR w rr r) (hr : r.length ≤ 1000000) (_ : v.h.length ≤ 1000000) (hf : ∀ x ∈ r, fitsW v.h.length x = true) (hc : -9223372036854775808 ≤ c ∧ c ≤ 9223372036854775807) :
    Calls Tryd.prog 81 #[.pointer (some ⟨wb, 0, none⟩), .pointer (some ⟨lb, o, none⟩), .int .i64 c] w fun e w' => KcR v r e ∧ Below w.heap.size w w' := by
  obtain ⟨i1, hi1, hy0, hy1, hy2⟩ := info_parts infoI
  have HB0 : Hid (w.heap[wb]? = some (.cells (p.cells v) 69 (0, 0))) := hb
  have HH : Hid (HR w p.cr v.h) := hH
  have HW : Hid (WR w rr r) := hw
  have HF : Hid (∀ x ∈ r, fitsW v.h.length x = true) := hf
  have HL : Hid (w.cell? ⟨lb, o, none⟩ = some (.slice rr r.length cc)) := hl
  have lw := heap_lt hb
  have HBw : Hid (Below w.heap.size w w) := Below.refl _ _
  have HOw : Hid (w.ownsRow w.heap.size 3 1 (.slice none 0 0) 0 (([] : List Int).map (Value.int .i64))) := World.ownsRow_nil _ _ _ _
  have HG0 : Hid (∀ a ∈ ([] : List Int), ∃ d : Nat, a = d ∧ GoodC v r d) := fun _ h => by cases h
  clear hb hH hw hf hl
  go_enter Tryd.func81, Tryd.ntmps81
  go_wp2_with fail
  go_loopw [8, 9, 10, 11] (fun va i _ _ wr => ∃ (k : Nat) (A : List Int) (ra : Option Addr) (ca : Nat), i = .int .i64 k ∧ va = .slice ra A.length ca ∧ k ≤ r.length ∧ A.length ≤ k ∧ Hid (∀ a ∈ A, ∃ d : Nat, a = d ∧ GoodC v r d) ∧ Hid (wr.ownsRow w.heap.size 3 1 (.slice ra A.length ca) A.length (A.map (Value.int .i64))) ∧ Hid (Below w.heap.size w wr)) (fun _ i _ _ _ => r.length - (intOf i).toNat)
  case atStart => exact ⟨0, [], none, 0, rfl, rfl, Nat.zero_le _, Nat.le_refl _, HG0, HOw, HBw⟩
  case round =>
    clear HG0 HOw HBw
    obtain ⟨k, A, ra, ca, rfl, rfl, hk, hA, HG, HO, HB⟩ := hrel
    have c0 : wr.cell? ⟨lb, o, none⟩ = some (.slice rr r.length cc) := (HB.out.cell (p := ⟨lb, o, none⟩) hlt).trans HL.out
    have l0 : lb < wr.heap.size := Nat.lt_of_lt_of_le hlt HB.out.size
    by_cases hkl : k < r.length
    · have k1 : (k : Int) < (r.length : Int) := by omega
      obtain ⟨x, hx⟩ : ∃ x, r[k]? = some x := ⟨_, List.getElem?_eq_getElem hkl⟩
      have hxm := List.mem_of_getElem? hx
      obtain ⟨b, of, hor, hcs⟩ := HW.out.below HB.out
      obtain ⟨g1, g2, hrg⟩ := hcs k x hx
      have hrr : rr = some ⟨b, of, none⟩ := hor.resolve_left (by omega)
      subst hrr
      have HCl : Hid (Calls Tryd.prog 72 #[.int .u64 x] wr fun e w' => e = .returned (.tuple #[.int .i64 (cellV x), .bool (refB x)]) ∧ w' = wr) := by
        have := refCell_any x wr hrg
        rw [cellN_is, isRef_is] at this
        exact this
      have HXm : Hid (x ∈ r) := hxm
      clear hcs hor hx hrg hxm
      cases hrf : refB x
      · rw [hrf] at HCl
        clear hrf
        go_wp2_with fail
        refine Calls.mono HCl.out ?_
        rintro e w5 ⟨rfl, rfl⟩
        clear HCl
        go_wp2
        go_roundw
        case rel => exact ⟨k + 1, A, ra, ca, by go_num, rfl, by omega, by omega, HG, HO, HB⟩
        case measure => simp [intOf]; omega
      · rw [hrf] at HCl
        obtain ⟨d, hd1, hd2, hd3⟩ := refs_some (HF.out x HXm.out) hrf
        rw [hd3] at HCl
        have HD1 : Hid (refN x = some d) := hd1
        have k2 : (d : Int) < (v.h.length : Int) := by omega
        obtain ⟨y, hy⟩ : ∃ y, v.h[d]? = some y := ⟨_, List.getElem?_eq_getElem hd2⟩
        obtain ⟨bh, oh, horh, hcsh⟩ := HH.out.below HB.out
        obtain ⟨gh1, ⟨e0, e1, e2, e3⟩, _⟩ := hcsh d y hy
        have hrh : p.cr = some ⟨bh, oh, none⟩ := horh.resolve_left (by omega)
        have w0' : wr.cell? ⟨wb, 0, none⟩ = some (.slice (some ⟨bh, oh, none⟩) v.h.length p.cc) := by
          have h1 := (HB.out.block wb lw).trans HB0.out
          have : wr.cell? ⟨wb, 0, none⟩ = some (.slice p.cr v.h.length p.cc) := heap_cell (j := 0) h1 rfl
          rw [hrh] at this
          exact this
        have lw2 : wb < wr.heap.size := Nat.lt_of_lt_of_le lw HB.out.size
        have HY : Hid (v.h[d]? = some y) := hy
        clear hd1 hd3 hrf hcsh horh hrh hy e1 e2 e3
        go_wp2_with fail
        refine Calls.mono HCl.out ?_
        rintro e w5 ⟨rfl, rfl⟩
        clear HCl
        by_cases hyk : y.k = 0
        · have z1 : (y.k != 0) = false := by simp [hyk]
          go_wp2
          go_roundw
          case rel => exact ⟨k + 1, A, ra, ca, by go_num, rfl, by omega, by omega, HG, HO, HB⟩
          case measure => simp [intOf]; omega
        · have z1 : (y.k != 0) = true := by simp [hyk]
          have hla : (A ++ [(d : Int)]).length = A.length + 1 := by rw [List.length_append]; rfl
          have HG2 : Hid (∀ a ∈ A ++ [(d : Int)], ∃ d : Nat, a = d ∧ GoodC v r d) := fun a ha => by
            rcases List.mem_append.1 ha with ha | ha
            · exact HG.out a ha
            · exact ⟨d, List.mem_singleton.1 ha, ⟨x, HXm.out, HD1.out⟩, y, HY.out, by simp [usedB, hyk]⟩
          have hsz := HB.out.size
          have HO1 : Hid ((w5.alloc (.cells #[.int .i64 d] 3)).ownsRow w.heap.size 3 1 (.slice ra A.length ca) A.length (A.map (Value.int .i64))) := World.ownsRow.alloc HO.out _
          have HB1 : Hid (Below w.heap.size w (w5.alloc (.cells #[.int .i64 d] 3))) := HB.out.alloc hsz _
          go_wp2_with (at_builtin; refine stop_of ?_)
          unfold Hid
          refine wpList_append_all _ rfl _ _ 24 rfl w.heap.size 3 i1 _ 1 8 Tryd.underlying24 hi1 hy0 hy1 hy2 rfl (by decide) (.slice ra A.length ca) A.length (A.map (Value.int .i64)) rfl HO1.out (some ⟨w5.heap.size, 0, none⟩) 1 1 [.int .i64 d] rfl rfl (fun e => by cases e) (fun ad had j u hu => by cases had; rw [ad_add, Nat.zero_add]; exact new_cell w5 _ _ j u hu) (by intro u hu; simp at hu; rcases hu with rfl; rfl) (by unfold maxLen; omega) (by omega) HB1.out.size ?_
          intro ra' ca' w6 hown hgr _
          have HO2 : Hid (w6.ownsRow w.heap.size 3 1 (.slice ra' (A.length + 1) ca') (A.length + 1) ((A ++ [(d : Int)]).map (Value.int .i64))) := by rw [List.map_append]; exact hown
          have HB2 : Hid (Below w.heap.size w w6) := HB1.out.trans (grown_low hgr (fun g hg => (HO1.out.lt g hg).1) HB1.out.size)
          clear hown hgr HO1 HB1 HO HB c0 e0 w0'
          go_wp2
          go_roundw
          case rel => exact ⟨k + 1, A ++ [(d : Int)], ra', ca', by go_num, by rw [hla], by omega, by omega, HG2, by rw [hla]; exact HO2, HB2⟩
          case measure => simp [intOf]; omega
    · have k1 : ¬ (k : Int) < (r.length : Int) := by omega
      by_cases hA0 : A.length = 0
      · have k2 : (A.length : Int) = 0 := by omega
        go_wp2
        go_ret2
        exact ⟨⟨0, false, rfl, fun h => by cases h⟩, HB.out⟩
      · have k2 : ¬ (A.length : Int) = 0 := by omega
        have HP : Hid (∀ W, Calls Tryd.prog 60 #[.int .i64 c, .int .i64 A.length] W fun e w' => e = .returned (.int .i64 (pickN c A.length)) ∧ w' = W) := fun W => pick_any c A.length W hc (by omega) (by omega)
        have hpk := pick_lt (c := c) (n := A.length) (by omega)
        generalize pickN c A.length = j at HP hpk
        obtain ⟨a, ha⟩ : ∃ a, A[j]? = some a := ⟨_, List.getElem?_eq_getElem hpk⟩
        obtain ⟨d, hd, hgd⟩ := HG.out a (List.mem_of_getElem? ha)
        subst hd
        have HGd : Hid (GoodC v r d) := hgd
        obtain ⟨g, hg⟩ : ∃ g, ra = some ⟨g, 0, none⟩ := by
          rcases HO.out.2 with ⟨h', h0⟩ | ⟨g', cap', cur, hv, _⟩
          · exact absurd h0 hA0
          · cases hv; exact ⟨g', rfl⟩
        subst hg
        have ca' := own_cell HO.out (k := j) (u := .int .i64 d) (by rw [List.getElem?_map, ha]; rfl)
        have lg := (HO.out.lt g rfl).2
        have kj : (j : Int) < (A.length : Int) := by omega
        clear ha hgd
        go_wp2_with fail
        refine Calls.mono (HP.out wr) ?_
        rintro e w7 ⟨rfl, hw7⟩
        subst hw7
        go_wp2
        go_ret2
        exact ⟨⟨d, true, rfl, fun _ => HGd.out⟩, HB.out⟩
end Go.Proofs.YtomdbcddokaagaaDoor
