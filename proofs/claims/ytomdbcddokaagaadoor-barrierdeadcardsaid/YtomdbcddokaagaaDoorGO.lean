/- A world of one's own: cells are shaded.; A world of one's own: shade walked.; A world of one's own: two words are shaded by the collector.; A world of one's own: the collector lays a global.; A world of one's own: a word is laid into a cell.; A world of one's own: a cell is set whole; what fill shades. -/
import Derived.Test.YtomdbcddokaagaaDoorGL
import Derived.Test.YtomdbcddokaagaaDoorGN
/- A world of one's own: cells are shaded. -/
namespace Go.Proofs.YtomdbcddokaagaaDoor
open Go.RowKit

variable {w0 : Wz} {W W' : World} {wb : Nat} {p : Vp} {v : Vw} {L : List Lq}
theorem OkK.turn {x : Cl} (h : OkK x) {k : Int} (hk : 0 ≤ k ∧ k ≤ 255) : OkK ⟨x.k, k, x.a, x.b⟩ := by
  exact ⟨h.k, hk, h.a, h.b⟩
/-- A cell's colour is turned. -/
theorem KX.turnC (X : KX w0 W wb p v L) {c g : Nat} {x : Cl} (hx : v.h[c]? = some x) (hp : p.cr = some ⟨g, 0, none⟩) (k : Int) (hk : OkK ⟨x.k, k, x.a, x.b⟩) : KX w0 (W.setCell ⟨g, c * 4 + 1, none⟩ (.int .u8 k)) wb p ⟨v.h.set c ⟨x.k, k, x.a, x.b⟩, v.ph, v.sw, v.grey, v.gl, v.laid, v.lanes⟩ L := by
  have hc := (List.getElem?_eq_some_iff.1 hx).1
  have own0 := X.c
  rw [hp] at own0
  have hg := (own0.lt g rfl).1
  have kp : ∀ q, q ≠ g → (W.setCell ⟨g, c * 4 + 1, none⟩ (.int .u8 k)).heap[q]? = W.heap[q]? := fun q hq => Below.heap_setCell _ _ _ _ hq
  have own : ∀ {e size n : Nat} {u : Value} {xs : List Value}, W.ownsRow w0.heap.size e size u n xs → 59 ≠ e → (W.setCell ⟨g, c * 4 + 1, none⟩ (.int .u8 k)).ownsRow w0.heap.size e size u n xs := fun h hn => own_same h (fun q hq => kp q (fun e => own_ne h own0 hn.symm q hq (by rw [e]; rfl)))
  have hput := own_put own0 (k := c * 4 + 1) (by rw [cl4_len]; omega) (.int .u8 k)
  rw [← cl4_put v.h c x k hx] at hput
  refine ⟨?_, X.lb, ?_, own X.y (by decide), own X.g (by decide), own X.l (by decide), fun q hq => own (X.q q hq) (by decide), X.ag, X.aq, X.e, ?_, X.rg, X.rl, X.bel.setCell (p := ⟨g, c * 4 + 1, none⟩) hg _, w0.st (fun q cs h => kp q (fun e => own_ty own0 h (by decide) (by rw [e]; rfl))) X.bz⟩
  · rw [kp wb (fun e => own_ty own0 X.b (by decide) (by rw [e]; rfl)), X.b]
    unfold Vp.cells
    rw [List.length_set]
  · rw [hp, List.length_set]
    exact hput
  · intro y hy
    rcases List.mem_or_eq_of_mem_set hy with h | rfl
    · exact X.ok y h
    · exact hk
/-- One more is grey. -/
theorem KX.growY (X : KX w0 W wb p v L) {n : Nat} {ry : Option Addr} {cy : Nat} {gy : List Int} (hn : gy.length = n) (hg : W.grownBy W' (Value.slice p.yr v.grey.length p.yc).ownBlock) (ho : W'.ownsRow w0.heap.size 3 1 (.slice ry n cy) n (gy.map (Value.int .i64))) : KX w0 (W'.setCell ⟨wb, 3, none⟩ (.slice ry n cy)) wb { p with yr := ry, yc := cy } ⟨v.h, v.ph, v.sw, gy, v.gl, v.laid, v.lanes⟩ L := by
  subst hn
  have kp : ∀ k, k < W.heap.size → (Value.slice p.yr v.grey.length p.yc).ownBlock ≠ some k → k ≠ wb → (W'.setCell ⟨wb, 3, none⟩ (.slice ry gy.length cy)).heap[k]? = W.heap[k]? := fun k hk hn hb => (Below.heap_setCell _ _ _ _ hb).trans (hg.block k hk (fun e => hn e.symm))
  have own : ∀ {e size n : Nat} {u : Value} {xs : List Value}, W.ownsRow w0.heap.size e size u n xs → 3 ≠ e → 69 ≠ e → (W'.setCell ⟨wb, 3, none⟩ (.slice ry gy.length cy)).ownsRow w0.heap.size e size u n xs := fun h hn hb => own_same h (fun q hq => kp q (h.lt q hq).2 (own_ne h X.y hn.symm q hq) (fun e => own_ty h X.b hb (by rw [← e]; exact hq)))
  have hwb : W'.heap[wb]? = W.heap[wb]? := hg.block wb (heap_lt X.b) (fun e => own_ty X.y X.b (by decide) e.symm)
  have hb' := hwb.trans X.b
  refine ⟨?_, X.lb, own X.c (by decide) (by decide), own_same ho (fun q hq => Below.heap_setCell _ _ _ _ (fun e => own_ty ho hb' (by decide) (by rw [← show q = wb from e]; exact hq))), own X.g (by decide) (by decide), own X.l (by decide) (by decide), fun q hq => own (X.q q hq) (by decide) (by decide), X.ag, X.aq, X.e, X.ok, X.rg, X.rl, (X.bel.trans (grown_low hg (fun g hg' => (X.y.lt g hg').1) X.bel.size)).setCell (p := ⟨wb, 3, none⟩) X.lb _, w0.st (fun q cs h => kp q (heap_lt h) (fun e => own_ty X.y h (by decide) e) (ty_ne h X.b (by decide))) X.bz⟩
  exact set_atC (j := 3) hb' _
theorem greyL_snoc {h : List Cl} {a : List Nat} {c : Nat} {x : Cl} (hx : (greyL h a)[c]? = some x) : greyL h (a ++ [c]) = (greyL h a).set c (greyC x) := by
  refine List.ext_getElem? fun i => ?_
  have hc := (List.getElem?_eq_some_iff.1 hx).1
  rw [greyL_get, List.getElem?_set]
  have h0 := greyL_get a h i
  by_cases e : c = i
  · subst e
    rw [if_pos rfl, if_pos hc]
    rw [hx] at h0
    cases hh : h[c]? with
    | none => rw [hh] at h0; cases h0
    | some y =>
      rw [hh] at h0
      simp only [Option.map_some, Option.some.injEq] at h0 ⊢
      rw [if_pos (by simp), h0]
      split <;> rfl
  · rw [if_neg e, h0]
    cases h[i]? with
    | none => rfl
    | some y =>
      have e' : ¬ i = c := fun h => e h.symm
      simp [e']
end Go.Proofs.YtomdbcddokaagaaDoor

/- A world of one's own: shade walked. -/
namespace Go.Proofs.YtomdbcddokaagaaDoor
open Go.RowKit

/-- Steps stay as they are. -/
def Ks (W W' : World) : Prop := ∀ (k : Nat) (cs : Array Value), W.heap[k]? = some (.cells cs 72 (0, 0)) → W'.heap[k]? = W.heap[k]?
theorem Ks.refl (W : World) : Ks W W := fun _ _ _ => rfl
theorem Ks.trans {W W' W'' : World} (a : Ks W W') (b : Ks W' W'') : Ks W W'' := fun k cs h => (b k cs ((a k cs h).trans h)).trans (a k cs h)
theorem Ks.below {W W' : World} (h : Below W.heap.size W W') : Ks W W' := fun k _ hk => h.block k (heap_lt hk)
theorem Ks.set {W : World} {g j : Nat} {u : Value} {cs : Array Value} {t : TypeId} (h : W.heap[g]? = some (.cells cs t (0, 0))) (ht : t ≠ 72) : Ks W (W.setCell ⟨g, j, none⟩ u) := fun k ds hk => Below.heap_setCell _ _ _ _ (fun e => by
  rw [show k = g from e, h] at hk
  cases hk
  exact ht rfl)
theorem Ks.grown {W W' : World} {w0 : Nat} {v : Value} {n : Nat} {xs : List Value} (hg : W.grownBy W' v.ownBlock) (ho : W.ownsRow w0 3 1 v n xs) : Ks W W' := fun k _ hk => hg.block k (heap_lt hk) (fun e => own_ty ho hk (by decide) e.symm)
/-- How its loop stands: j of the cells are grey. -/
structure ShX (ws : World) (w0 : Wz) (wr : World) (wb : Nat) (p : Vp) (v : Vw) (L : List Lq) (l : List Nat) (vl : Value) (B j : Nat) : Prop where
  x : ∃ yr yc, KX w0 wr wb { p with yr := yr, yc := yc } (shV v (l.take j) (v.grey ++ (l.take j).map Int.ofNat)) L ∧ ∀ k, vl.ownBlock = some k → (Value.slice yr (v.grey.length + j) yc).ownBlock ≠ some k
  st : Ks ws wr
  row : wr.ownsRow B 3 1 vl l.length (l.map (fun c => Value.int .i64 (Int.ofNat c)))
/-- A cell of another block behind a row's growth. -/
theorem grow_fact {W W7 : World} {o : Obj} {b j : Nat} {u v : Value} (hg : (W.alloc o).grownBy W7 v.ownBlock) (hn : v.ownBlock ≠ some b) (hc : W.cell? ⟨b, j, none⟩ = some u ∧ W.frozen? ⟨b, j, none⟩ = false ∧ b < W.heap.size) : W7.cell? ⟨b, j, none⟩ = some u ∧ W7.frozen? ⟨b, j, none⟩ = false ∧ b < W7.heap.size := by
  have hb : W7.heap[b]? = W.heap[b]? := (hg.block b (by rw [World.size_alloc]; omega) (fun e => hn e.symm)).trans (Below.heap_alloc _ _ _ hc.2.2)
  exact ⟨(World.cell?_of_block (a := ⟨b, j, none⟩) hb).trans hc.1, (World.frozen?_of_block (a := ⟨b, j, none⟩) hb).trans hc.2.1, by have := hg.size; rw [World.size_alloc] at this; omega⟩
theorem take_snoc {l : List Nat} {j c : Nat} (h : l[j]? = some c) : l.take (j + 1) = l.take j ++ [c] := by
  rw [List.take_add_one, h]
  rfl
theorem not_take {l : List Nat} {j c : Nat} (hn : l.Nodup) (h : l[j]? = some c) : c ∉ l.take j := fun hm => by
  obtain ⟨i, hi, e⟩ := List.mem_iff_getElem.1 hm
  have hi' : i < j := by rw [List.length_take] at hi; omega
  have hj := (List.getElem?_eq_some_iff.1 h).1
  have e1 : l[i]'(by omega) = c := by rw [List.getElem_take] at e; exact e
  have e2 : l[j] = c := (List.getElem?_eq_some_iff.1 h).2
  have := (List.getElem_inj hn).1 (e1.trans e2.symm)
  omega
set_option maxRecDepth 100000 in
set_option maxHeartbeats 16000000 in
/-- shade: cells that are white, none twice, become grey. -/
theorem kshade_step (w0 : Wz) (w : World) (wb B : Nat) (p : Vp) (v : Vw) (L : List Lq) (l : List Nat) (rl : Option Addr) (cl : Nat) (hX : KX w0 w wb p v L) (hrow : w.ownsRow B 3 1 (.slice rl l.length cl) l.length (l.map (fun c => Value.int .i64 (Int.ofNat c)))) (hap : ∀ k, (Value.slice rl l.length cl).ownBlock = some k → (Value.slice p.yr v.grey.length p.yc).ownBlock ≠ some k) (hw : Whites v.h l) (hn : l.Nodup) (hs : v.h.length ≤ 100 ∧ v.grey.length + l.length ≤ 100000) :
    Calls Tryd.prog 84 #[.pointer (some ⟨wb, 0, none⟩), .slice rl l.length cl] w fun e w' => e = .returned (.bool true) ∧ ∃ yr yc, KX w0 w' wb { p with yr := yr, yc := yc } (shV v l (v.grey ++ l.map Int.ofNat)) L ∧ Ks w w' := by
  have HX : Hid (ShX w w0 w wb p v L l (.slice rl l.length cl) B 0) := by
    refine ⟨⟨p.yr, p.yc, ?_, hap⟩, Ks.refl w, hrow⟩
    have e : shV v (l.take 0) (v.grey ++ (l.take 0).map Int.ofNat) = v := by
      unfold shV greyL
      simp
    rw [e]
    exact hX
  have HW : Hid (Whites v.h l ∧ l.Nodup) := ⟨hw, hn⟩
  obtain ⟨hs1, hs2⟩ := hs
  obtain ⟨i2, hi2, hx0, hx1, hx2⟩ := info_parts infoI
  clear hX hrow hap hw hn
  go_enter Tryd.func84, Tryd.ntmps84
  go_wp2
  go_loopw [5] (fun i wr => ∃ j : Nat, i = .int .i64 j ∧ j ≤ l.length ∧ Hid (ShX w w0 wr wb p v L l (.slice rl l.length cl) B j)) (fun i _ => l.length - (intOf i).toNat)
  case atStart => exact ⟨0, rfl, Nat.zero_le _, HX⟩
  case round =>
    clear HX
    obtain ⟨j, rfl, hj, HX⟩ := hrel
    by_cases hlt : j < l.length
    · obtain ⟨c, hc⟩ : ∃ c, l[j]? = some c := ⟨_, List.getElem?_eq_getElem hlt⟩
      obtain ⟨⟨yr, yc, hk, hap⟩, hst, hrow⟩ := HX.out
      obtain ⟨y, hy, hyw⟩ := HW.out.1 c (List.mem_of_getElem? hc)
      have hnt := not_take HW.out.2 hc
      have hgy : (greyL v.h (l.take j))[c]? = some y := by rw [greyL_get, hy]; simp [hnt]
      have hcl := (List.getElem?_eq_some_iff.1 hgy).1
      have hlen : (greyL v.h (l.take j)).length = v.h.length := greyL_len _ _
      have hyk : y.k ≠ 0 ∧ y.c = 0 := by
        unfold whiteB usedB at hyw
        simpa using hyw
      obtain ⟨gi, ci, hvi, _, lgi⟩ := World.ownsRow.form hrow (by omega)
      obtain ⟨gc, cc, hvc, _, lgc⟩ := World.ownsRow.form hk.c (show 0 < (shV v (l.take j) (v.grey ++ (l.take j).map Int.ofNat)).h.length from by show 0 < (greyL v.h (l.take j)).length; omega)
      have hpc : p.cr = some ⟨gc, 0, none⟩ := (Value.slice.inj hvc).1
      have hri : rl = some ⟨gi, 0, none⟩ := (Value.slice.inj hvi).1
      subst hri
      have k1 : (j : Int) < (l.length : Int) := by omega
      have k0 : (0 : Int) ≤ (j : Int) := by omega
      have k2 : (c : Int) < (v.h.length : Int) := by omega
      have k3 : (0 : Int) ≤ (c : Int) := by omega
      have hglen : (v.grey ++ (l.take j).map Int.ofNat).length = v.grey.length + j := by rw [List.length_append, List.length_map, List.length_take]; omega
      have r0 : wr.cell? ⟨gi, j, none⟩ = some (.int .i64 (c : Int)) := own_cell hrow (by rw [List.getElem?_map, hc]; rfl)
      have f0 : wr.cell? ⟨wb, 0, none⟩ = some (.slice (some ⟨gc, 0, none⟩) v.h.length p.cc) := by
        have h := heap_cell (j := 0) hk.b rfl
        rw [← hpc, ← hlen]
        exact h
      have f3 : wr.cell? ⟨wb, 3, none⟩ = some (.slice yr (v.grey.length + j) yc) := by
        have h := heap_cell (j := 3) hk.b rfl
        rw [← hglen]
        exact h
      have z3 : wr.frozen? ⟨wb, 3, none⟩ = false := fz_of hk.b 3
      have lwb := heap_lt hk.b
      have ownc := hk.c
      rw [show ({ p with yr := yr, yc := yc } : Vp).cr = some ⟨gc, 0, none⟩ from hpc] at ownc
      obtain ⟨q0, q1, _, _⟩ := cl4_at (greyL v.h (l.take j)) c y hgy
      have d0 : wr.cell? ⟨gc, c * 4, none⟩ = some (.int .u8 y.k) := own_cell ownc q0
      have d1 : wr.cell? ⟨gc, c * 4 + 1, none⟩ = some (.int .u8 0) := by
        have h := own_cell ownc q1
        rw [hyk.2] at h
        exact h
      have z1 : wr.frozen? ⟨gc, c * 4 + 1, none⟩ = false := by
        obtain ⟨cs, h1, _⟩ := own_out ownc
        exact fz_of h1 _
      have kk : (y.k == 0) = false := by simpa using hyk.1
      have nwb : wb ≠ gc := fun e => own_ty ownc hk.b (by decide) (by rw [e]; rfl)
      have hk1 : KX w0 (wr.setCell ⟨gc, c * 4 + 1, none⟩ (.int .u8 1)) wb { p with yr := yr, yc := yc } ⟨(greyL v.h (l.take j)).set c (greyC y), v.ph, v.sw, v.grey ++ (l.take j).map Int.ofNat, v.gl, v.laid, v.lanes⟩ L := hk.turnC (v := shV v (l.take j) (v.grey ++ (l.take j).map Int.ofNat)) hgy hpc 1 ((hk.ok y (List.mem_of_getElem? hgy)).turn ⟨by omega, by omega⟩)
      have HK1 : Hid (KX w0 (wr.setCell ⟨gc, c * 4 + 1, none⟩ (.int .u8 1)) wb { p with yr := yr, yc := yc } ⟨(greyL v.h (l.take j)).set c (greyC y), v.ph, v.sw, v.grey ++ (l.take j).map Int.ofNat, v.gl, v.laid, v.lanes⟩ L) := hk1
      have HR1 : Hid ((wr.setCell ⟨gc, c * 4 + 1, none⟩ (.int .u8 1)).ownsRow B 3 1 (.slice (some ⟨gi, 0, none⟩) l.length cl) l.length (l.map (fun c => Value.int .i64 (Int.ofNat c)))) := own_same hrow (fun k hk' => Below.heap_setCell _ _ _ _ (fun e => own_ne hrow ownc (by decide) k hk' (by rw [show k = gc from e]; rfl)))
      have HS1 : Hid (Ks w (wr.setCell ⟨gc, c * 4 + 1, none⟩ (.int .u8 1))) := hst.trans (by
        obtain ⟨cs, h1, _⟩ := own_out ownc
        exact Ks.set h1 (by decide))
      have HAp : Hid (∀ k, (Value.slice (some ⟨gi, 0, none⟩) l.length cl).ownBlock = some k → (Value.slice yr (v.grey.length + j) yc).ownBlock ≠ some k) := hap
      have HSh : Hid (shV v (l.take (j + 1)) (v.grey ++ (l.take (j + 1)).map Int.ofNat) = ⟨(greyL v.h (l.take j)).set c (greyC y), v.ph, v.sw, (v.grey ++ (l.take j).map Int.ofNat) ++ [(c : Int)], v.gl, v.laid, v.lanes⟩) := by
        show _ = _
        rw [take_snoc hc]
        unfold shV
        rw [greyL_snoc hgy, List.map_append, List.append_assoc]
        rfl
      have HG : Hid ((v.grey ++ (l.take j).map Int.ofNat).length = v.grey.length + j) := hglen
      clear hk hk1 hst hap hrow hy hyw hgy hcl hyk hvi hvc ownc q0 q1 hnt hglen hlen hpc hc
      go_upto_region 8 with fail
      clear d0 d1 z1 f0 f3 z3 r0 kk
      generalize wr.setCell ⟨gc, c * 4 + 1, none⟩ (.int .u8 1) = W1 at HK1 HR1 HS1 ⊢
      have f3 : W1.cell? ⟨wb, 3, none⟩ = some (.slice yr (v.grey.length + j) yc) := by
        have h := heap_cell (j := 3) HK1.out.b rfl
        rw [← HG.out]
        exact h
      have z3 : W1.frozen? ⟨wb, 3, none⟩ = false := fz_of HK1.out.b 3
      have lw1 := heap_lt HK1.out.b
      have hbs : w0.heap.size ≤ W1.heap.size := HK1.out.bel.size
      have HY : Hid (W1.ownsRow w0.heap.size 3 1 (.slice yr (v.grey.length + j) yc) (v.grey.length + j) ((v.grey ++ (l.take j).map Int.ofNat).map (Value.int .i64))) := by
        have h := HK1.out.y
        rw [← HG.out]
        exact h
      have hnb : (Value.slice yr (v.grey.length + j) yc).ownBlock ≠ some wb := fun e => own_ty HY.out HK1.out.b (by decide) e
      go_wp2_with (at_builtin; refine stop_of ?_)
      unfold Hid
      refine wpList_append_lies _ rfl _ _ 24 rfl w0.heap.size 3 i2 (.int .i64 0) 1 8 Tryd.underlying24 hi2 hx0 hx1 hx2 rfl (by decide) (.slice yr (v.grey.length + j) yc) (v.grey.length + j) _ rfl (HY.out.alloc _) ⟨W1.heap.size, 0, none⟩ 1 1 [.int .i64 (c : Int)] rfl rfl (World.news_of_block (cs := #[.int .i64 (c : Int)]) (heap_alloc_new W1 _)) (by intro u hu; simp at hu; subst hu; rfl) (by omega) (by unfold maxLen; omega) (by omega) (by rw [World.size_alloc]; omega) _ rfl ?_
      intro gn cn w7 hown hgr hat _
      obtain ⟨c7, z7, l7⟩ := grow_fact hgr hnb ⟨f3, z3, lw1⟩
      have HXn : Hid (ShX w w0 (w7.setCell ⟨wb, 3, none⟩ (.slice (some ⟨gn, 0, none⟩) (v.grey.length + j + 1) cn)) wb p v L l (.slice (some ⟨gi, 0, none⟩) l.length cl) B (j + 1)) := by
        have hka : KX w0 (W1.alloc (.cells #[.int .i64 (c : Int)] 3)) wb { p with yr := yr, yc := yc } ⟨(greyL v.h (l.take j)).set c (greyC y), v.ph, v.sw, v.grey ++ (l.take j).map Int.ofNat, v.gl, v.laid, v.lanes⟩ L := HK1.out.below ((Below.refl _ _).alloc (Nat.le_refl _) _)
        have hkn := hka.growY (gy := (v.grey ++ (l.take j).map Int.ofNat) ++ [(c : Int)]) (n := v.grey.length + j + 1) (ry := some ⟨gn, 0, none⟩) (cy := cn) (by rw [List.length_append, HG.out]; rfl) (by rw [HG.out]; exact hgr) (by rw [List.map_append]; exact hown)
        have hri := HR1.out
        have hlt' : ∀ k, (Value.slice (some ⟨gi, 0, none⟩) l.length cl).ownBlock = some k → k < W1.heap.size := fun k hk => (hri.lt k hk).2
        refine ⟨⟨some ⟨gn, 0, none⟩, cn, by rw [HSh.out]; exact hkn, fun k hk1 hk2 => ?_⟩, ?_, own_same hri (fun k hk => ?_)⟩
        · have e : gn = k := Option.some.inj hk2
          subst e
          rcases hat with h | h
          · exact HAp.out gn hk1 h
          · have := hlt' gn hk1
            rw [World.size_alloc] at h
            omega
        · refine ((HS1.out.trans (Ks.below ((Below.refl _ _).alloc (Nat.le_refl _) _))).trans (Ks.grown hgr (HY.out.alloc _))).trans ?_
          have hb7 := (hgr.block wb (by rw [World.size_alloc]; omega) (fun e => hnb e.symm)).trans ((Below.heap_alloc _ _ _ lw1).trans HK1.out.b)
          exact Ks.set hb7 (by decide)
        · refine (Below.heap_setCell _ _ _ _ (fun e => own_ty hri HK1.out.b (by decide) (by rw [← show k = wb from e]; exact hk))).trans ((hgr.block k (by rw [World.size_alloc]; have := hlt' k hk; omega) (fun e => HAp.out k hk e.symm)).trans (Below.heap_alloc _ _ _ (hlt' k hk)))
      clear hown hgr hat HK1 HR1 HS1 HAp HSh HY f3 z3 lw1 hnb hbs
      go_wp2
      go_roundw
      case rel => exact ⟨j + 1, by go_num, by omega, HXn⟩
      case measure => simp [intOf]; omega
    · obtain rfl : j = l.length := by omega
      have HF : Hid (∃ yr yc, KX w0 wr wb { p with yr := yr, yc := yc } (shV v l (v.grey ++ l.map Int.ofNat)) L ∧ Ks w wr) := by
        obtain ⟨⟨yr, yc, hk, _⟩, hst, _⟩ := HX.out
        rw [List.take_length] at hk
        exact ⟨yr, yc, hk, hst⟩
      have k1 : ¬ (l.length : Int) < (l.length : Int) := by omega
      go_wp2
      go_ret
      obtain ⟨yr, yc, h1, h2⟩ := HF.out
      exact ⟨rfl, ⟨yr, yc, h1⟩, h2⟩
theorem kshade_any (w0 : Wz) (w : World) (wb B : Nat) (p : Vp) (v : Vw) (L : List Lq) (l : List Nat) (rl : Option Addr) (cl : Nat) (hX : KX w0 w wb p v L) (hrow : w.ownsRow B 3 1 (.slice rl l.length cl) l.length (l.map (fun c => Value.int .i64 (Int.ofNat c)))) (hap : ∀ k, (Value.slice rl l.length cl).ownBlock = some k → (Value.slice p.yr v.grey.length p.yc).ownBlock ≠ some k) (hw : Whites v.h l) (hn : l.Nodup) (hs : v.h.length ≤ 100 ∧ v.grey.length + l.length ≤ 100000) :
    Calls Tryd.prog 84 #[.pointer (some ⟨wb, 0, none⟩), .slice rl l.length cl] w fun e w' => e = .returned (.bool true) ∧ ∃ yr yc, KX w0 w' wb { p with yr := yr, yc := yc } (shV v l (v.grey ++ l.map Int.ofNat)) L :=
  (kshade_step w0 w wb B p v L l rl cl hX hrow hap hw hn hs).mono (fun _ _ ⟨h1, yr, yc, h2, _⟩ => ⟨h1, yr, yc, h2⟩)
end Go.Proofs.YtomdbcddokaagaaDoor

/- A world of one's own: two words are shaded by the collector. -/
namespace Go.Proofs.YtomdbcddokaagaaDoor
open Go.RowKit

/-- What a call of barrier's tells, handed to shade. -/
theorem shade_out (w0 : Wz) (w w1 : World) (wb : Nat) (p : Vp) (v : Vw) (L : List Lq) (l : List Nat) (v' : Value) (hX : KX w0 w wb p v L) (hb : Below w.heap.size w w1) (hrow : w1.ownsRow w.heap.size 3 1 v' ((l.map Int.ofNat).length) ((l.map Int.ofNat).map (Value.int .i64))) (hw : Whites v.h l) (hn : l.Nodup) (hs : v.h.length ≤ 100 ∧ v.grey.length + l.length ≤ 100000) :
    Calls Tryd.prog 84 #[.pointer (some ⟨wb, 0, none⟩), v'] w1 fun e w' => e = .returned (.bool true) ∧ ∃ yr yc, KX w0 w' wb { p with yr := yr, yc := yc } (shV v l (v.grey ++ l.map Int.ofNat)) L := by
  have hl : (l.map Int.ofNat).length = l.length := List.length_map ..
  rw [hl] at hrow
  obtain ⟨rl, cl, rfl⟩ := own_sl hrow
  refine kshade_any w0 w1 wb w.heap.size p v L l rl cl (hX.below hb) (by rw [List.map_map] at hrow; exact hrow) (fun k h1 h2 => ?_) hw hn hs
  have q1 := (hrow.lt k h1).1
  have q2 := (hX.y.lt k h2).2
  omega
/-- Few are shaded at a time. -/
theorem shN1_len {h : List Cl} {out : List Nat} {x : Int} : (shN1 h out x).length ≤ out.length + 1 := by
  unfold shN1
  split
  · omega
  · split <;> (try split) <;> simp <;> omega
theorem shN_len (h : List Cl) (ws : List Int) : (shN h ws).length ≤ ws.length := by
  have key : ∀ (ws : List Int) (out : List Nat), (ws.foldl (shN1 h) out).length ≤ out.length + ws.length := by
    intro ws
    induction ws with
    | nil => intro out; simp
    | cons x r ih =>
      intro out
      have h1 := ih (shN1 h out x)
      have h2 := shN1_len (h := h) (out := out) (x := x)
      simp only [List.foldl_cons, List.length_cons]
      omega
  simpa [shN] using key ws []
set_option maxRecDepth 100000 in
set_option maxHeartbeats 8000000 in
theorem words_any (w0 : Wz) (w : World) (wb : Nat) (p : Vp) (v : Vw) (L : List Lq) (a b : Int) (hX : KX w0 w wb p v L) (hT : Tab w) (ha : Rng a) (hb : Rng b) (hp : v.ph = 1 ∨ v.ph = 2) (hs : v.h.length ≤ 100 ∧ v.grey.length + 2 ≤ 100000) :
    Calls Tryd.prog 80 #[.pointer (some ⟨wb, 0, none⟩), .int .u64 a, .int .u64 b] w fun e w' => e = .returned (.bool true) ∧ ∃ yr yc, KX w0 w' wb { p with yr := yr, yc := yc } (shV v (shN v.h [a, b]) (v.grey ++ (shN v.h [a, b]).map Int.ofNat)) L := by
  have HX : Hid (KX w0 w wb p v L) := hX
  have eM : storeM v.ph false a b v.h = (shN v.h [a, b]).map Int.ofNat := by
    rw [← sh_places]
    unfold storeM onB
    rcases hp with h | h <;> rw [h] <;> rfl
  have HSt : Hid (∀ W : World, Below w.heap.size w W → Calls Tryd.prog 19 #[.int .u8 v.ph, .bool false, .int .u64 a, .int .u64 b, .slice p.cr v.h.length p.cc] W fun e w' => OutI ((shN v.h [a, b]).map Int.ofNat) e W w') := fun W hbw => by
    have h := store_any v.ph false a b v.h p.cr p.cc W (by omega) (hr_own (hX.below hbw).c hX.ok) ha hb (hT.below hbw)
    rw [eM] at h
    exact h
  have HSh : Hid (∀ (w1 : World) (v' : Value), Below w.heap.size w w1 → w1.ownsRow w.heap.size 3 1 v' (((shN v.h [a, b]).map Int.ofNat).length) (((shN v.h [a, b]).map Int.ofNat).map (Value.int .i64)) → Calls Tryd.prog 84 #[.pointer (some ⟨wb, 0, none⟩), v'] w1 fun e w' => e = .returned (.bool true) ∧ ∃ yr yc, KX w0 w' wb { p with yr := yr, yc := yc } (shV v (shN v.h [a, b]) (v.grey ++ (shN v.h [a, b]).map Int.ofNat)) L) := fun w1 v' h1 h2 => shade_out w0 w w1 wb p v L _ v' hX h1 h2 (sh_whites _ _) (sh_nodup _ _) ⟨hs.1, by have := shN_len v.h [a, b]; simp at this; omega⟩
  have f0 : w.cell? ⟨wb, 0, none⟩ = some (.slice p.cr v.h.length p.cc) := heap_cell hX.b rfl
  have f1 : w.cell? ⟨wb, 1, none⟩ = some (.int .u8 v.ph) := heap_cell hX.b rfl
  have lwb := heap_lt hX.b
  have HKp : Hid (∀ wx : World, Below w.heap.size w wx → wx.cell? ⟨wb, 0, none⟩ = some (.slice p.cr v.h.length p.cc) ∧ wx.cell? ⟨wb, 1, none⟩ = some (.int .u8 v.ph) ∧ wb < wx.heap.size) := fun wx hbx => ⟨(hbx.cell (p := ⟨wb, 0, none⟩) lwb).trans f0, (hbx.cell (p := ⟨wb, 1, none⟩) lwb).trans f1, Nat.lt_of_lt_of_le lwb hbx.size⟩
  have hmx : Tryd.prog.follows .mixedOrders = true := by kernel_rfl
  clear hX hT ha hb hp hs eM
  go_enter Tryd.func80, Tryd.ntmps80
  go_wp2_with fail
  go_region_held3 (fun wx : World => wx.cell? ⟨wb, 0, none⟩ = some (.slice p.cr v.h.length p.cc) ∧ wx.cell? ⟨wb, 1, none⟩ = some (.int .u8 v.ph) ∧ wb < wx.heap.size) (first | exact ⟨f0, f1, lwb⟩ | (go_keep; done) | exact HKp.out _ ((Below.refl w.heap.size w).drew.trans hb1)) (first | (go_at_call 19; refine (HSt.out _ (Below.refl w.heap.size w).drew).mono ?_; rintro e w1 ⟨⟨v', rfl, ho⟩, hb1⟩) | fail)
  have HO : Hid (w1.ownsRow w.heap.size 3 1 v' (((shN v.h [a, b]).map Int.ofNat).length) (((shN v.h [a, b]).map Int.ofNat).map (Value.int .i64))) := ho
  have HB1 : Hid (Below w.heap.size w w1) := (Below.refl w.heap.size w).drew.trans hb1
  clear ho hb1 HSt HKp f0 f1
  go_wp2_with fail
  refine (HSh.out w1 v' HB1.out HO.out).mono ?_
  rintro e w2 ⟨rfl, h2⟩
  have HF : Hid _ := h2
  clear h2
  go_wp2_with fail
  go_ret
  exact ⟨rfl, HF.out⟩
end Go.Proofs.YtomdbcddokaagaaDoor

/- A world of one's own: the collector lays a global. -/
namespace Go.Proofs.YtomdbcddokaagaaDoor
open Go.RowKit

theorem below_dN {n : Nat} {w0 : World} {w : World} (h : Below n w0 w) (k : Nat) : Below n w0 (w.drewN k) := by
  induction k generalizing w with
  | zero => exact h
  | succ k ih => exact (ih h).drew
theorem KX.laidX {w0 : Wz} {W : World} {wb : Nat} {p : Vp} {v : Vw} {L : List Lq} (X : KX w0 W wb p v L) (k : Int) : KX w0 (W.setCell ⟨wb, 5, none⟩ (.int .i64 k)) wb p ⟨v.h, v.ph, v.sw, v.grey, v.gl, k, v.lanes⟩ L :=
  X.field 5 _ rfl X.c X.y ⟨rfl, rfl, rfl⟩ ⟨rfl, rfl, rfl⟩ X.ok
/-- The table of words is no block of one's own. -/
theorem tab_far {w : World} {g j : Nat} {u : Value} (h : Tab w) (hg : 0 ≠ g) : Tab (w.setCell ⟨g, j, none⟩ u) := fun t ht =>
  ⟨(World.cell?_of_block (w := w) (a := ⟨0, t * 2, none⟩) (Below.heap_setCell _ _ _ _ hg)).trans (h t ht).1, (World.cell?_of_block (w := w) (a := ⟨0, t * 2 + 1, none⟩) (Below.heap_setCell _ _ _ _ hg)).trans (h t ht).2⟩
/-- What KRoot leaves. -/
def RootR (w0 : Wz) (wb : Nat) (p : Vp) (v : Vw) (L : List Lq) (e : Ending) (w' : World) : Prop :=
  e = .returned (.bool true) ∧ ((¬ v.laid < (v.gl.length : Int) ∧ KX w0 w' wb p v L) ∨ ∃ (g : Int) (yr : Option Addr) (yc : Nat), v.gl[v.laid.toNat]? = some g ∧ v.laid < (v.gl.length : Int) ∧
    KX w0 w' wb { p with yr := yr, yc := yc } (shV ⟨v.h, v.ph, v.sw, v.grey, v.gl, v.laid + 1, v.lanes⟩ (shN v.h [g, g]) (v.grey ++ (shN v.h [g, g]).map Int.ofNat)) L)
set_option maxRecDepth 100000 in
set_option maxHeartbeats 16000000 in
theorem collect_root (w0 : Wz) (w : World) (wb : Nat) (p : Vp) (v : Vw) (L : List Lq) (who a b c : Int) (hX : KX w0 w wb p v L) (hT : Tab w) (hp : v.ph = 1 ∨ v.ph = 2) (hs : v.h.length ≤ 100 ∧ v.grey.length + 2 ≤ 100000) (hl : 0 ≤ v.laid) (hgl : v.gl.length ≤ 2000) (hTl : 0 < w0.heap.size) :
    Calls Tryd.prog 59 #[.pointer (some ⟨wb, 0, none⟩), .agg #[.int .i64 10, .int .i64 who, .int .i64 a, .int .i64 b, .int .i64 c]] w fun e w' => RootR w0 wb p v L e w' := by
  have hB0 := (Below.refl w.heap.size w).alloc (Nat.le_refl _) (.cells #[.int .i64 10, .int .i64 who, .int .i64 a, .int .i64 b, .int .i64 c] 72)
  have HX : Hid (KX w0 (w.alloc (.cells #[.int .i64 10, .int .i64 who, .int .i64 a, .int .i64 b, .int .i64 c] 72)) wb p v L) := hX.below hB0
  have HT : Hid (Tab (w.alloc (.cells #[.int .i64 10, .int .i64 who, .int .i64 a, .int .i64 b, .int .i64 c] 72))) := hT.below hB0
  have HS : Hid ((v.ph = 1 ∨ v.ph = 2) ∧ v.h.length ≤ 100 ∧ v.grey.length + 2 ≤ 100000) := ⟨hp, hs⟩
  have HTl : Hid (0 < w0.heap.size) := hTl
  have hmx : Tryd.prog.follows .mixedOrders = true := by kernel_rfl
  clear hX hT hB0 hp hs
  go_enter Tryd.func59, Tryd.ntmps59
  go_upto_region 3 with fail
  generalize w.alloc (.cells #[.int .i64 10, .int .i64 who, .int .i64 a, .int .i64 b, .int .i64 c] 72) = W at HX HT ⊢
  have f5 : W.cell? ⟨wb, 5, none⟩ = some (.int .i64 v.laid) := heap_cell HX.out.b rfl
  have f4 : W.cell? ⟨wb, 4, none⟩ = some (.slice p.gr v.gl.length p.gc) := heap_cell HX.out.b rfl
  have lwb := heap_lt HX.out.b
  by_cases hlt : v.laid < (v.gl.length : Int)
  · obtain ⟨k, hk⟩ := Int.eq_ofNat_of_zero_le hl
    rw [hk] at f5
    have kk : (k : Int) < (v.gl.length : Int) := by omega
    have kk0 : (0 : Int) ≤ (k : Int) := by omega
    have kk2 : (k : Int) < 3000 := by omega
    obtain ⟨g, hg⟩ : ∃ g, v.gl[k]? = some g := ⟨_, List.getElem?_eq_getElem (by omega)⟩
    obtain ⟨gg, cg, hvg, _, lgg⟩ := World.ownsRow.form HX.out.g (by omega)
    have hpg : p.gr = some ⟨gg, 0, none⟩ := (Value.slice.inj hvg).1
    rw [hpg] at f4
    have og := HX.out.g
    rw [hpg] at og
    have r0 : W.cell? ⟨gg, k, none⟩ = some (.int .u64 g) := own_cell og (by rw [List.getElem?_map, hg]; rfl)
    have HK : Hid (v.laid = (k : Int) ∧ v.gl[k]? = some g ∧ Rng g ∧ v.laid < (v.gl.length : Int)) := ⟨hk, hg, HX.out.rg g (List.mem_of_getElem? hg), hlt⟩
    have HPg : Hid (p.gr = some ⟨gg, 0, none⟩) := hpg
    have HRd : Hid (∀ W' : World, KX w0 W' wb p v L → W'.cell? ⟨wb, 5, none⟩ = some (.int .i64 (k : Int)) ∧ W'.cell? ⟨wb, 4, none⟩ = some (.slice (some ⟨gg, 0, none⟩) v.gl.length p.gc) ∧ W'.cell? ⟨gg, k, none⟩ = some (.int .u64 g) ∧ wb < W'.heap.size ∧ gg < W'.heap.size ∧ W'.frozen? ⟨wb, 5, none⟩ = false) := fun W' X => by
      have o := X.g
      rw [hpg] at o
      refine ⟨?_, ?_, own_cell o (by rw [List.getElem?_map, hg]; rfl), heap_lt X.b, (o.lt gg rfl).2, fz_of X.b 5⟩
      · rw [← hk]; exact heap_cell X.b rfl
      · rw [← hpg]; exact heap_cell X.b rfl
    clear og hvg hg hk hlt hl hpg
    go_quiet (fail)
    have HX1 : Hid (KX w0 (W.drewN nq) wb p v L) := HX.out.below (below_dN (Below.refl _ _) nq)
    have HT1 : Hid (Tab (W.drewN nq)) := HT.out.below (below_dN (Below.refl _ _) nq)
    go_upto_region 4 with fail
    generalize W.drewN nq = W1 at HX1 HT1 ⊢
    clear f5 f4 r0 lwb lgg
    obtain ⟨f5, f4, r0, lwb, lgg, _⟩ := HRd.out W1 HX1.out
    go_quiet (fail)
    have HX2 : Hid (KX w0 (W1.drewN nq) wb p v L) := HX1.out.below (below_dN (Below.refl _ _) nq)
    have HT2 : Hid (Tab (W1.drewN nq)) := HT1.out.below (below_dN (Below.refl _ _) nq)
    go_upto_region 5 with fail
    generalize W1.drewN nq = W2 at HX2 HT2 ⊢
    clear f5 f4 r0 lwb lgg
    obtain ⟨f5, f4, r0, lwb, lgg, z5⟩ := HRd.out W2 HX2.out
    have HX3 : Hid (KX w0 (W2.setCell ⟨wb, 5, none⟩ (.int .i64 ((k : Int) + 1))) wb p ⟨v.h, v.ph, v.sw, v.grey, v.gl, (k : Int) + 1, v.lanes⟩ L) := HX2.out.laidX _
    have HT3 : Hid (Tab (W2.setCell ⟨wb, 5, none⟩ (.int .i64 ((k : Int) + 1)))) := tab_far HT2.out (fun e => by have h1 := HX2.out.lb; have h2 := HTl.out; omega)
    have HWo : Hid (Calls Tryd.prog 80 #[.pointer (some ⟨wb, 0, none⟩), .int .u64 g, .int .u64 g] (W2.setCell ⟨wb, 5, none⟩ (.int .i64 ((k : Int) + 1))) fun e w' => e = .returned (.bool true) ∧ ∃ yr yc, KX w0 w' wb { p with yr := yr, yc := yc } (shV ⟨v.h, v.ph, v.sw, v.grey, v.gl, (k : Int) + 1, v.lanes⟩ (shN v.h [g, g]) (v.grey ++ (shN v.h [g, g]).map Int.ofNat)) L) := words_any w0 _ wb p ⟨v.h, v.ph, v.sw, v.grey, v.gl, (k : Int) + 1, v.lanes⟩ L g g HX3.out HT3.out HK.out.2.2.1 HK.out.2.2.1 HS.out.1 HS.out.2
    clear HX3 HT3
    go_wp2_with fail
    refine Calls.mono HWo.out ?_
    rintro e w3 ⟨rfl, h3⟩
    have HF : Hid (RootR w0 wb p v L (.returned (.bool true)) w3) := by
      obtain ⟨yr, yc, h⟩ := h3
      obtain ⟨q1, q2, q3, q4⟩ := HK.out
      refine ⟨rfl, .inr ⟨g, yr, yc, by rw [q1]; exact q2, q4, ?_⟩⟩
      rw [q1]
      exact h
    clear h3 HWo
    go_wp2_with fail
    go_ret
    exact HF.out
  · have kk : decide (v.laid < (v.gl.length : Int)) = false := decide_eq_false hlt
    have HN : Hid ((v.gl.length : Int) ≤ v.laid) := Int.not_lt.1 hlt
    clear hlt hl
    go_quiet (fail)
    go_wp2
    go_ret
    exact ⟨rfl, .inl ⟨Int.not_lt.2 HN.out, HX.out.below (below_dN (Below.refl _ _) _)⟩⟩
end Go.Proofs.YtomdbcddokaagaaDoor

/- A world of one's own: a word is laid into a cell. -/
namespace Go.Proofs.YtomdbcddokaagaaDoor
open Go.RowKit

theorem cl4_puta : ∀ (l : List Cl) (j : Nat) (x : Cl) (c : Int), l[j]? = some x → cl4 (l.set j ⟨x.k, x.c, c, x.b⟩) = (cl4 l).set (j * 4 + 1 + 1) (.int .u64 c)
  | [], j, x, c, h => by simp at h
  | y :: r, 0, x, c, h => by
    have e : y = x := by simpa using h
    subst e
    rfl
  | y :: r, j + 1, x, c, h => by
    have := cl4_puta r j x c (by simpa using h)
    have e : ∀ M : List Cl, cl4 (y :: M) = .int .u8 y.k :: .int .u8 y.c :: .int .u64 y.a :: .int .u64 y.b :: cl4 M := fun _ => rfl
    rw [List.set_cons_succ, e, e, this, show (j + 1) * 4 + 1 + 1 = j * 4 + 1 + 1 + 1 + 1 + 1 + 1 by omega, List.set_cons_succ, List.set_cons_succ, List.set_cons_succ, List.set_cons_succ]
theorem cl4_putb : ∀ (l : List Cl) (j : Nat) (x : Cl) (c : Int), l[j]? = some x → cl4 (l.set j ⟨x.k, x.c, x.a, c⟩) = (cl4 l).set (j * 4 + 1 + 1 + 1) (.int .u64 c)
  | [], j, x, c, h => by simp at h
  | y :: r, 0, x, c, h => by
    have e : y = x := by simpa using h
    subst e
    rfl
  | y :: r, j + 1, x, c, h => by
    have := cl4_putb r j x c (by simpa using h)
    have e : ∀ M : List Cl, cl4 (y :: M) = .int .u8 y.k :: .int .u8 y.c :: .int .u64 y.a :: .int .u64 y.b :: cl4 M := fun _ => rfl
    rw [List.set_cons_succ, e, e, this, show (j + 1) * 4 + 1 + 1 + 1 = j * 4 + 1 + 1 + 1 + 1 + 1 + 1 + 1 by omega, List.set_cons_succ, List.set_cons_succ, List.set_cons_succ, List.set_cons_succ]
variable {w0 : Wz} {W W' : World} {wb : Nat} {p : Vp} {v : Vw} {L : List Lq}
/-- One place of a cell is another one. -/
theorem KX.putK (X : KX w0 W wb p v L) {c g k : Nat} {y : Cl} {u : Value} (hk : k < v.h.length * 4) (hp : p.cr = some ⟨g, 0, none⟩) (hu : cl4 (v.h.set c y) = (cl4 v.h).set k u) (hy : OkK y) : KX w0 (W.setCell ⟨g, k, none⟩ u) wb p ⟨v.h.set c y, v.ph, v.sw, v.grey, v.gl, v.laid, v.lanes⟩ L := by
  have own0 := X.c
  rw [hp] at own0
  have hg := (own0.lt g rfl).1
  have kp : ∀ q, q ≠ g → (W.setCell ⟨g, k, none⟩ u).heap[q]? = W.heap[q]? := fun q hq => Below.heap_setCell _ _ _ _ hq
  have own : ∀ {e size n : Nat} {u' : Value} {xs : List Value}, W.ownsRow w0.heap.size e size u' n xs → 59 ≠ e → (W.setCell ⟨g, k, none⟩ u).ownsRow w0.heap.size e size u' n xs := fun h hn => own_same h (fun q hq => kp q (fun e => own_ne h own0 hn.symm q hq (by rw [e]; rfl)))
  have hput := own_put own0 (k := k) (by rw [cl4_len]; omega) u
  rw [← hu] at hput
  refine ⟨?_, X.lb, ?_, own X.y (by decide), own X.g (by decide), own X.l (by decide), fun q hq => own (X.q q hq) (by decide), X.ag, X.aq, X.e, ?_, X.rg, X.rl, X.bel.setCell (p := ⟨g, k, none⟩) hg _, w0.st (fun q cs h => kp q (fun e => own_ty own0 h (by decide) (by rw [e]; rfl))) X.bz⟩
  · rw [kp wb (fun e => own_ty own0 X.b (by decide) (by rw [e]; rfl)), X.b]
    unfold Vp.cells
    rw [List.length_set]
  · rw [hp, List.length_set]
    exact hput
  · intro z hz
    rcases List.mem_or_eq_of_mem_set hz with h | rfl
    · exact X.ok z h
    · exact hy
theorem KX.putA (X : KX w0 W wb p v L) {c g : Nat} {x : Cl} (hx : v.h[c]? = some x) (hp : p.cr = some ⟨g, 0, none⟩) (k : Int) (hk : Rng k) : KX w0 (W.setCell ⟨g, c * 4 + 1 + 1, none⟩ (.int .u64 k)) wb p ⟨v.h.set c ⟨x.k, x.c, k, x.b⟩, v.ph, v.sw, v.grey, v.gl, v.laid, v.lanes⟩ L := by
  have hc := (List.getElem?_eq_some_iff.1 hx).1
  have o := X.ok x (List.mem_of_getElem? hx)
  exact X.putK (by omega) hp (cl4_puta v.h c x k hx) ⟨o.k, o.c, hk, o.b⟩
theorem KX.putB (X : KX w0 W wb p v L) {c g : Nat} {x : Cl} (hx : v.h[c]? = some x) (hp : p.cr = some ⟨g, 0, none⟩) (k : Int) (hk : Rng k) : KX w0 (W.setCell ⟨g, c * 4 + 1 + 1 + 1, none⟩ (.int .u64 k)) wb p ⟨v.h.set c ⟨x.k, x.c, x.a, k⟩, v.ph, v.sw, v.grey, v.gl, v.laid, v.lanes⟩ L := by
  have hc := (List.getElem?_eq_some_iff.1 hx).1
  have o := X.ok x (List.mem_of_getElem? hx)
  exact X.putK (by omega) hp (cl4_putb v.h c x k hx) ⟨o.k, o.c, o.a, hk⟩
/-- What a lane's store shades. -/
def layN (h : List Cl) (sc : Bool) (a b : Int) : List Nat := if sc then shN h [a] else shN h [a, b]
theorem lay_is (h : List Cl) (ph : Int) (sc : Bool) (a b : Int) (hp : ph = 1 ∨ ph = 2) : storeM ph sc a b h = (layN h sc a b).map Int.ofNat := by
  have e : onB ph = true := by
    unfold onB
    rcases hp with h | h <;> rw [h] <;> rfl
  unfold storeM layN
  rw [e]
  cases sc <;> simp [sh_places]
theorem lay_len (h : List Cl) (sc : Bool) (a b : Int) : (layN h sc a b).length ≤ 2 := by
  unfold layN
  have h1 := shN_len h [a]
  have h2 := shN_len h [a, b]
  simp at h1 h2
  split <;> omega
theorem lay_whites (h : List Cl) (sc : Bool) (a b : Int) : Whites h (layN h sc a b) := by
  unfold layN
  split
  · exact sh_whites _ _
  · exact sh_whites _ _
theorem lay_nodup (h : List Cl) (sc : Bool) (a b : Int) : (layN h sc a b).Nodup := by
  unfold layN
  split
  · exact sh_nodup _ _
  · exact sh_nodup _ _
/-- Store of a lane's, and what it tells is shaded. -/
theorem lay_store (w0 : Wz) (w : World) (wb : Nat) (p : Vp) (v : Vw) (L : List Lq) (sc : Bool) (a b : Int) (hX : KX w0 w wb p v L) (hT : Tab w) (ha : Rng a) (hb : Rng b) (hp : v.ph = 1 ∨ v.ph = 2) (hs : v.h.length ≤ 100) : ∀ W : World, Below w.heap.size w W → Calls Tryd.prog 19 #[.int .u8 v.ph, .bool sc, .int .u64 a, .int .u64 b, .slice p.cr v.h.length p.cc] W fun e w' => OutI ((layN v.h sc a b).map Int.ofNat) e W w' := fun W hbw => by
  have h := store_any v.ph sc a b v.h p.cr p.cc W (by omega) (hr_own (hX.below hbw).c hX.ok) ha hb (hT.below hbw)
  rw [lay_is v.h v.ph sc a b hp] at h
  exact h
theorem lay_shade (w0 : Wz) (w : World) (wb : Nat) (p : Vp) (v : Vw) (L : List Lq) (sc : Bool) (a b : Int) (hX : KX w0 w wb p v L) (hs : v.h.length ≤ 100 ∧ v.grey.length + 2 ≤ 100000) : ∀ (w1 : World) (v' : Value), Below w.heap.size w w1 → w1.ownsRow w.heap.size 3 1 v' (((layN v.h sc a b).map Int.ofNat).length) (((layN v.h sc a b).map Int.ofNat).map (Value.int .i64)) → Calls Tryd.prog 84 #[.pointer (some ⟨wb, 0, none⟩), v'] w1 fun e w' => e = .returned (.bool true) ∧ ∃ yr yc, KX w0 w' wb { p with yr := yr, yc := yc } (shV v (layN v.h sc a b) (v.grey ++ (layN v.h sc a b).map Int.ofNat)) L ∧ Ks w w' := fun w1 v' h1 hrow => by
  have hl : ((layN v.h sc a b).map Int.ofNat).length = (layN v.h sc a b).length := List.length_map ..
  rw [hl] at hrow
  obtain ⟨rl, cl, rfl⟩ := own_sl hrow
  refine (kshade_step w0 w1 wb w.heap.size p v L (layN v.h sc a b) rl cl (hX.below h1) (by rw [List.map_map] at hrow; exact hrow) (fun k h1 h2 => ?_) (lay_whites _ _ _ _) (lay_nodup _ _ _ _) ⟨hs.1, by have := lay_len v.h sc a b; omega⟩).mono (fun _ _ ⟨h2, yr, yc, h3, h4⟩ => ⟨h2, yr, yc, h3, (Ks.below h1).trans h4⟩)
  have q1 := (hrow.lt k h1).1
  have q2 := (hX.y.lt k h2).2
  omega
theorem val_rng {r : List Int} (h : ∀ x ∈ r, Rng x) (c : Int) : Rng (valM r c) := by
  unfold valM
  split
  · rename_i x hx
    exact h x (List.mem_of_getElem? hx)
  · unfold Rng
    omega
end Go.Proofs.YtomdbcddokaagaaDoor

/- A world of one's own: a cell is set whole; what fill shades. -/
namespace Go.Proofs.YtomdbcddokaagaaDoor
open Go.RowKit

theorem cl4_putk : ∀ (l : List Cl) (j : Nat) (x : Cl) (c : Int), l[j]? = some x → cl4 (l.set j ⟨c, x.c, x.a, x.b⟩) = (cl4 l).set (j * 4) (.int .u8 c)
  | [], j, x, c, h => by simp at h
  | y :: r, 0, x, c, h => by
    have e : y = x := by simpa using h
    subst e
    rfl
  | y :: r, j + 1, x, c, h => by
    have := cl4_putk r j x c (by simpa using h)
    have e : ∀ M : List Cl, cl4 (y :: M) = .int .u8 y.k :: .int .u8 y.c :: .int .u64 y.a :: .int .u64 y.b :: cl4 M := fun _ => rfl
    rw [List.set_cons_succ, e, e, this, show (j + 1) * 4 = j * 4 + 1 + 1 + 1 + 1 by omega, List.set_cons_succ, List.set_cons_succ, List.set_cons_succ, List.set_cons_succ]
variable {w0 : Wz} {W W' : World} {wb : Nat} {p : Vp} {v : Vw} {L : List Lq}
/-- A cell is set whole. -/
theorem KX.putAll (X : KX w0 W wb p v L) {c g : Nat} {x : Cl} (hx : v.h[c]? = some x) (hp : p.cr = some ⟨g, 0, none⟩) (y : Cl) (hy : OkK y) :
    KX w0 ((((W.setCell ⟨g, c * 4, none⟩ (.int .u8 y.k)).setCell ⟨g, c * 4 + 1, none⟩ (.int .u8 y.c)).setCell ⟨g, c * 4 + 1 + 1, none⟩ (.int .u64 y.a)).setCell ⟨g, c * 4 + 1 + 1 + 1, none⟩ (.int .u64 y.b)) wb p ⟨v.h.set c y, v.ph, v.sw, v.grey, v.gl, v.laid, v.lanes⟩ L := by
  have hc := (List.getElem?_eq_some_iff.1 hx).1
  have o := X.ok x (List.mem_of_getElem? hx)
  have X1 := X.putK (c := c) (y := ⟨y.k, x.c, x.a, x.b⟩) (by omega) hp (cl4_putk v.h c x y.k hx) ⟨hy.k, o.c, o.a, o.b⟩
  have g1 : (v.h.set c ⟨y.k, x.c, x.a, x.b⟩)[c]? = some ⟨y.k, x.c, x.a, x.b⟩ := List.getElem?_set_self hc
  have X2 := X1.turnC g1 hp y.c ⟨hy.k, hy.c, o.a, o.b⟩
  dsimp only at X2
  rw [List.set_set] at X2
  have g2 : (v.h.set c ⟨y.k, y.c, x.a, x.b⟩)[c]? = some ⟨y.k, y.c, x.a, x.b⟩ := List.getElem?_set_self hc
  have X3 := X2.putA g2 hp y.a hy.a
  dsimp only at X3
  rw [List.set_set] at X3
  have g3 : (v.h.set c ⟨y.k, y.c, y.a, x.b⟩)[c]? = some ⟨y.k, y.c, y.a, x.b⟩ := List.getElem?_set_self hc
  have X4 := X3.putB g3 hp y.b hy.b
  dsimp only at X4
  rw [List.set_set] at X4
  exact X4
/-- What a lane's fill shades. -/
def filN (h : List Cl) (sc : Bool) (a b : Int) : List Nat := if sc then [] else shN h [a, b]
theorem fil_is (h : List Cl) (ph : Int) (sc : Bool) (a b : Int) (hp : ph = 1 ∨ ph = 2) : fillM ph sc a b h = (filN h sc a b).map Int.ofNat := by
  have e : onB ph = true := by
    unfold onB
    rcases hp with h | h <;> rw [h] <;> rfl
  unfold fillM filN
  rw [e]
  cases sc <;> simp [sh_places]
theorem fil_len (h : List Cl) (sc : Bool) (a b : Int) : (filN h sc a b).length ≤ 2 := by
  unfold filN
  have h2 := shN_len h [a, b]
  simp at h2
  split
  · simp
  · omega
theorem fil_whites (h : List Cl) (sc : Bool) (a b : Int) : Whites h (filN h sc a b) := by
  unfold filN
  split
  · intro c hc
    cases hc
  · exact sh_whites _ _
theorem fil_nodup (h : List Cl) (sc : Bool) (a b : Int) : (filN h sc a b).Nodup := by
  unfold filN
  split
  · exact List.nodup_nil
  · exact sh_nodup _ _
theorem fil_fill (w0 : Wz) (w : World) (wb : Nat) (p : Vp) (v : Vw) (L : List Lq) (sc : Bool) (a b : Int) (hX : KX w0 w wb p v L) (hT : Tab w) (ha : Rng a) (hb : Rng b) (hp : v.ph = 1 ∨ v.ph = 2) (hs : v.h.length ≤ 100) : ∀ W : World, Below w.heap.size w W → Calls Tryd.prog 20 #[.int .u8 v.ph, .bool sc, .int .u64 a, .int .u64 b, .slice p.cr v.h.length p.cc] W fun e w' => OutI ((filN v.h sc a b).map Int.ofNat) e W w' := fun W hbw => by
  have h := fill_any v.ph sc a b v.h p.cr p.cc W (by omega) (hr_own (hX.below hbw).c hX.ok) ha hb (hT.below hbw)
  rw [fil_is v.h v.ph sc a b hp] at h
  exact h
theorem fil_shade (w0 : Wz) (w : World) (wb : Nat) (p : Vp) (v : Vw) (L : List Lq) (sc : Bool) (a b : Int) (hX : KX w0 w wb p v L) (hs : v.h.length ≤ 100 ∧ v.grey.length + 2 ≤ 100000) : ∀ (w1 : World) (v' : Value), Below w.heap.size w w1 → w1.ownsRow w.heap.size 3 1 v' (((filN v.h sc a b).map Int.ofNat).length) (((filN v.h sc a b).map Int.ofNat).map (Value.int .i64)) → Calls Tryd.prog 84 #[.pointer (some ⟨wb, 0, none⟩), v'] w1 fun e w' => e = .returned (.bool true) ∧ ∃ yr yc, KX w0 w' wb { p with yr := yr, yc := yc } (shV v (filN v.h sc a b) (v.grey ++ (filN v.h sc a b).map Int.ofNat)) L ∧ Ks w w' := fun w1 v' h1 hrow => by
  have hl : ((filN v.h sc a b).map Int.ofNat).length = (filN v.h sc a b).length := List.length_map ..
  rw [hl] at hrow
  obtain ⟨rl, cl, rfl⟩ := own_sl hrow
  refine (kshade_step w0 w1 wb w.heap.size p v L (filN v.h sc a b) rl cl (hX.below h1) (by rw [List.map_map] at hrow; exact hrow) (fun k h1 h2 => ?_) (fil_whites _ _ _ _) (fil_nodup _ _ _ _) ⟨hs.1, by have := fil_len v.h sc a b; omega⟩).mono (fun _ _ ⟨h2, yr, yc, h3, h4⟩ => ⟨h2, yr, yc, h3, (Ks.below h1).trans h4⟩)
  have q1 := (hrow.lt k h1).1
  have q2 := (hX.y.lt k h2).2
  omega
theorem birth_on (p c s : Int) (w : World) (hp : p = 1 ∨ p = 2) : Calls Tryd.prog 21 #[.int .u8 p, .int .i64 c, .int .i64 s] w fun e w' => e = .returned (.int .u8 2) ∧ w' = w := by
  have h := birth_any p c s w
  have e : birthC p c s = 2 := by
    unfold birthC
    have e : onB p = true := by
      unfold onB
      rcases hp with h | h <;> rw [h] <;> rfl
    rw [e]
    rfl
  rw [e] at h
  exact h
end Go.Proofs.YtomdbcddokaagaaDoor
