/- The book: data put in, each list of them. -/
import Derived.Test.YtlpdfifjdlfpdaaGreatDoorHDBook
import Derived.Test.YtlpdfifjdlfpdaaGreatDoorGH
namespace Go.Proofs.YtlpdfifjdlfpdaaGreatDoor
open Go.RowKit

theorem bd_set {W : World} {b : Nat} {v : Value} (h : Bd W b v) (u : Value) : Bd (W.setCell ⟨b, 12, none⟩ u) b u := ⟨set_at h.heap _⟩
theorem Bd.cell12 {W : World} {b : Nat} {v : Value} (h : Bd W b v) : W.cell? ⟨b, 12, none⟩ = some v := by simp [World.cell?, h.heap]
theorem Bd.free12 {W : World} {b : Nat} {v : Value} (h : Bd W b v) : W.frozen? ⟨b, 12, none⟩ = false := by simp [World.frozen?, h.heap]
theorem slice_one (ra : Option Addr) (n c : Nat) : ∀ u ∈ [Value.slice ra n c], u.oneCell' = true := by
  intro u hu
  obtain rfl : u = .slice ra n c := by simpa using hu
  rfl
/-- Blocks of data stay. -/
structure DK (w w' : World) : Prop where
  size : w.heap.size ≤ w'.heap.size
  block : ∀ (g : Nat) (cur : Array Value), w.heap[g]? = some (Obj.cells cur 58 (0, 0)) → w'.heap[g]? = w.heap[g]?
theorem DK.refl (w : World) : DK w w := ⟨Nat.le_refl _, fun _ _ _ => rfl⟩
theorem DK.trans {a b c : World} (h : DK a b) (k : DK b c) : DK a c := ⟨Nat.le_trans h.size k.size, fun g cur hg => (k.block g cur ((h.block g cur hg).trans hg)).trans (h.block g cur hg)⟩
theorem DK.of_below {w w' : World} (h : Below w.heap.size w w') : DK w w' := ⟨h.size, fun g _ hg => h.block g (Array.getElem?_eq_some_iff.1 hg).1⟩
theorem own_dk {w w' : World} {base c n : Nat} {v : Value} {xs : List Value} (h : w.ownsRow base 58 c v n xs) (hk : DK w w') : w'.ownsRow base 58 c v n xs := by
  refine ⟨h.1, ?_⟩
  rcases h.2 with h' | ⟨g, cap, cur, hv, hg, hh, r⟩
  · exact .inl h'
  · exact .inr ⟨g, cap, cur, hv, hg, (hk.block g cur hh).trans hh, r⟩
/-- The cells of a row of data, and all lists within, one behind the other. -/
def LV (w : World) (base : Nat) : Fo → List Value → List Value → Prop
  | .nil, cs, vs => cs = [] ∧ vs = []
  | .cons k n t s d r, cs, vs => ∃ kv kcs kvs rcs rvs, cs = .int .u8 k :: .int .i64 n :: S t :: kv :: .bool d :: rcs ∧ vs = kv :: (kvs ++ rvs) ∧ w.ownsRow base 58 5 kv s.len kcs ∧ LV w base s kcs kvs ∧ LV w base r rcs rvs
theorem LV.dk {w w' : World} {base : Nat} (hk : DK w w') : ∀ {f : Fo} {cs vs : List Value}, LV w base f cs vs → LV w' base f cs vs
  | .nil, _, _, h => h
  | .cons _ _ _ _ _ _, _, _, ⟨kv, kcs, kvs, rcs, rvs, hc, hv, ho, hs, hr⟩ => ⟨kv, kcs, kvs, rcs, rvs, hc, hv, own_dk ho hk, LV.dk hk hs, LV.dk hk hr⟩
theorem LV.size {w : World} {base : Nat} : ∀ {f : Fo} {cs vs : List Value}, LV w base f cs vs → vs.length = f.size
  | .nil, _, _, h => by rw [h.2]; rfl
  | .cons _ _ _ _ _ _, _, _, ⟨kv, kcs, kvs, rcs, rvs, hc, hv, ho, hs, hr⟩ => by rw [hv]; simp only [List.length_cons, List.length_append, LV.size hs, LV.size hr, Fo.size]
theorem Row.lv {w : World} {base : Nat} : ∀ {f : Fo} {cs : List Value} {bs : List Nat}, Row w base f cs bs → ∃ vs, LV w base f cs vs ∧ vs.flatMap own1 = bs
  | .nil, cs, bs, h => ⟨[], ⟨h.1, rfl⟩, by rw [h.2]; rfl⟩
  | .cons k n t s d r, cs, bs, ⟨kv, kcs, kbs, rcs, rbs, hc, hb, ho, hs, hr⟩ => by
    obtain ⟨v1, h1, e1⟩ := Row.lv hs
    obtain ⟨v2, h2, e2⟩ := Row.lv hr
    exact ⟨kv :: (v1 ++ v2), ⟨kv, kcs, v1, rcs, v2, hc, rfl, ho, h1, h2⟩, by rw [hb]; simp [e1, e2]⟩

def PutC (b bB N : Nat) : Prop := ∀ (f : Fo) (ra : Option Addr) (cp : Nat) (cs vs : List Value) (k : Nat) (v : Value) (rows : List Value) (base : Nat) (w : World), f.size ≤ N → f.size ≤ 1000000 → w.ownsRow base 58 5 (.slice ra f.len cp) f.len cs → LV w base f cs vs → Bd w b v → w.ownsRow bB 23 1 v k rows → k + vs.length + 1 ≤ 1000000 → b < bB → bB ≤ w.heap.size →
  Calls Tryz.prog 9 #[.pointer (some ⟨b, 0, none⟩), .slice ra f.len cp] w fun e w' => (∃ r, e = .returned r) ∧ ∃ v', Bd w' b v' ∧ w'.ownsRow bB 23 1 v' (k + 1 + vs.length) (rows ++ .slice ra f.len cp :: vs) ∧ DK w w' ∧ Below b w w'
def PutD (b bB N : Nat) : Prop := ∀ (kk n : Int) (t : List UInt8) (d : Bool) (f : Fo) (ra : Option Addr) (cp : Nat) (cs vs : List Value) (k : Nat) (v : Value) (rows : List Value) (base : Nat) (w : World), f.size ≤ N → f.size ≤ 1000000 → w.ownsRow base 58 5 (.slice ra f.len cp) f.len cs → LV w base f cs vs → Bd w b v → w.ownsRow bB 23 1 v k rows → k + vs.length + 1 ≤ 1000000 → b < bB → bB ≤ w.heap.size →
  Calls Tryz.prog 28 #[.pointer (some ⟨b, 0, none⟩), .agg #[.int .u8 kk, .int .i64 n, S t, .slice ra f.len cp, .bool d]] w fun e w' => (∃ r, e = .returned r) ∧ ∃ v', Bd w' b v' ∧ w'.ownsRow bB 23 1 v' (k + 1 + vs.length) (rows ++ .slice ra f.len cp :: vs) ∧ DK w w' ∧ Below b w w'

set_option maxRecDepth 100000 in
set_option maxHeartbeats 4000000 in
theorem putD_of {b bB N : Nat} (h : PutC b bB N) : PutD b bB N := by
  intro kk n t d f ra cp cs vs k v rows base w hN hsz ho hl hbd hrow hk hb hbs
  have HC : Hid (PutC b bB N) := h
  have HO : Hid (w.ownsRow base 58 5 (.slice ra f.len cp) f.len cs) := ho
  have HL : Hid (LV w base f cs vs) := hl
  have HB : Hid (Bd w b v) := hbd
  have HR : Hid (w.ownsRow bB 23 1 v k rows) := hrow
  have hbl := hbd.lt
  clear h ho hl hbd hrow
  go_enter Tryz.func28, Tryz.ntmps28
  go_wp2_with fail
  have hal : ∀ o, Below w.heap.size w (w.alloc o) := fun o => (Below.refl _ w).alloc (Nat.le_refl _) o
  refine (HC.out f ra cp cs vs k v rows base _ hN hsz (HO.out.alloc _) (HL.out.dk (DK.of_below (hal _))) (HB.out.below (hal _) hbl) (HR.out.alloc _) hk hb (by simp; omega)).mono ?_
  rintro e w1 ⟨⟨r, rfl⟩, v', h1, h2, h3, h4⟩
  go_wp2
  go_end0
  exact ⟨⟨_, rfl⟩, v', h1, h2, (DK.of_below (hal _)).trans h3, ((hal _).mono (Nat.le_of_lt hbl)).trans h4⟩

set_option maxRecDepth 100000 in
set_option maxHeartbeats 4000000 in
theorem put_of {b bB N : Nat} (h : ∀ M, M < N → PutD b bB M) : PutC b bB N := by
  intro f ra cp cs vs k v rows base w hN hsz ho hl hbd hrow hk hb hbs
  obtain ⟨i3, hi3, hy0, hy1, hy2⟩ := info_parts infoDats
  have HS : Hid (∀ M, M < N → PutD b bB M) := h
  have HO : Hid (w.ownsRow base 58 5 (.slice ra f.len cp) f.len cs) := ho
  have HL : Hid (LV w base f cs vs) := hl
  have HB : Hid (Bd w b v) := hbd
  have HR : Hid (w.ownsRow bB 23 1 v k rows) := hrow
  have hbl := hbd.lt
  have c12 := hbd.cell12
  have hlen : f.len ≤ 1000000 := by
    have : ∀ g : Fo, g.len ≤ g.size := fun g => by induction g with | nil => exact Nat.le_refl _ | cons _ _ _ _ _ r _ ih => simp only [Fo.len, Fo.size]; omega
    exact Nat.le_trans (this f) hsz
  obtain ⟨ra0, n0, c0, hv0⟩ : ∃ ra0 n0 c0, v = .slice ra0 n0 c0 := by
    rcases hrow.2 with ⟨h, _⟩ | ⟨g, cap, cur, h, _⟩
    · exact ⟨_, _, _, h⟩
    · exact ⟨_, _, _, h⟩
  have Hne : Hid (∀ g, v.ownBlock = some g → bB ≤ g) := fun g hg => (hrow.lt g hg).1
  clear h ho hl hbd hrow
  subst hv0
  go_enter Tryz.func9, Tryz.ntmps9
  go_wp2_with (at_builtin; refine wpList_append_told _ rfl _ _ 40 rfl bB 23 i3 (.slice none 0 0) 1 24 Tryz.underlying40 hi3 hy0 hy1 hy2 rfl (by decide) (.slice ra0 n0 c0) k rows rfl (HR.out.alloc _) _ 1 1 [.slice ra f.len cp] rfl rfl (cell_one_new _ _ _) (slice_one _ _ _) (by unfold maxLen; omega) (by omega) (by simp; omega) (by decide) ?_; intro v1 w1 hown1 hgrow1 hold1 hw1; obtain ⟨g', cap', rfl⟩ := ownsRow_succ hown1; have hB1 : Bd w1 b (.slice ra0 n0 c0) := ⟨(hgrow1.block b (by simp; omega) (fun e => by have := Hne.out b e.symm; omega)).trans ((Below.heap_alloc _ _ _ hbl).trans HB.out.heap)⟩; have hc1 := hB1.cell12; have hf1 := hB1.free12)
  have HB2 : Hid (Bd (w1.setCell ⟨b, 12, none⟩ (.slice (some ⟨g', 0, none⟩) (k + 1) cap')) b (.slice (some ⟨g', 0, none⟩) (k + 1) cap')) := bd_set hB1 _
  have HR2 : Hid ((w1.setCell ⟨b, 12, none⟩ (.slice (some ⟨g', 0, none⟩) (k + 1) cap')).ownsRow bB 23 1 (.slice (some ⟨g', 0, none⟩) (k + 1) cap') (k + 1) (rows ++ [.slice ra f.len cp])) := ownsRow_setCell_below hown1 (by show b < bB; exact hb) _
  have HD2 : Hid (DK w (w1.setCell ⟨b, 12, none⟩ (.slice (some ⟨g', 0, none⟩) (k + 1) cap'))) := by
    refine ⟨by have := hgrow1.size; simp at this; rw [World.size_setCell]; omega, fun g cur hg => ?_⟩
    have hlt := (Array.getElem?_eq_some_iff.1 hg).1
    have hgb : g ≠ b := fun e => by rw [e, HB.out.heap] at hg; simp at hg
    refine (Below.heap_setCell _ _ _ _ hgb).trans ((hgrow1.block g (by simp; omega) (fun e => ?_)).trans (Below.heap_alloc _ _ _ hlt))
    rcases HR.out.2 with ⟨h, _⟩ | ⟨g2, cap2, cur2, h, _, hh, _⟩
    · rw [h] at e; cases e
    · rw [h] at e
      have : g = g2 := by simpa [Value.ownBlock] using e
      subst this
      rw [hg] at hh
      simp at hh
  have HW2 : Hid (Below b w (w1.setCell ⟨b, 12, none⟩ (.slice (some ⟨g', 0, none⟩) (k + 1) cap'))) := by
    refine Below.setCell (((Below.refl b w).alloc (by omega) _).grown hgrow1 (by simp; omega) fun g hg => ?_) (p := ⟨b, 12, none⟩) (Nat.le_refl _) _
    have := Hne.out g hg; omega
  have HX : Hid (f.len ≠ 0 → ∃ g, ra = some ⟨g, 0, none⟩ ∧ (∃ cur, w.heap[g]? = some (.cells cur 58 (0, 0))) ∧ ∀ j u, cs[j]? = some u → w.cell? ⟨g, j, none⟩ = some u) := fun h0 => by
    rcases HO.out.2 with ⟨_, h1⟩ | ⟨g, cap, cur, hv, _, hh, _⟩
    · exact absurd h1 h0
    · cases hv
      refine ⟨g, rfl, ⟨cur, hh⟩, fun j u hj => ?_⟩
      have := HO.out.cells (g := g) rfl j u hj
      have ea : (⟨g, 0, none⟩ : Addr).add j = ⟨g, j, none⟩ := by unfold Addr.add; split <;> simp_all
      rwa [ea] at this
  clear hown1 hgrow1 hold1 hw1 hB1 hc1 hf1 c12
  go_loopw [4] (fun i wr => ∃ (j : Nat) (fi : Fo) (ci vo vi : List Value) (v' : Value), i = .int .i64 j ∧ fi.len + j = f.len ∧ fi.size ≤ f.size ∧ Hid (∀ j' u, ci[j']? = some u → cs[j * 5 + j']? = some u) ∧ Hid (LV w base fi ci vi) ∧ Hid (vs = vo ++ vi) ∧ Hid (Bd wr b v') ∧ Hid (wr.ownsRow bB 23 1 v' (k + 1 + vo.length) (rows ++ .slice ra f.len cp :: vo)) ∧ Hid (DK w wr) ∧ Hid (Below b w wr)) (fun i _ => f.len - (intOf i).toNat)
  case atStart => exact ⟨0, f, cs, [], vs, _, rfl, by simp, Nat.le_refl _, fun j' u h => by simpa using h, HL, rfl, HB2, HR2, HD2, HW2⟩
  case round =>
    obtain ⟨j, fi, ci, vo, vi, v', rfl, hj, hsi, HXi, HLi, HVi, HBi, HRi, HDi, HWi⟩ := hrel
    cases fi with
    | nil =>
      have hj' : j = f.len := by simpa [Fo.len] using hj
      have hjl : ¬ ((j : Int) < (f.len : Int)) := by omega
      have Hv : Hid (vs = vo) := by show _ = _; rw [HVi.out, HLi.out.2, List.append_nil]
      clear hj hj'
      go_wp2
      go_end0
      exact ⟨⟨_, rfl⟩, v', HBi.out, by rw [Hv.out]; exact HRi.out, HDi.out, HWi.out⟩
    | cons k1 n1 t1 s1 d1 r1 =>
      obtain ⟨kv, kcs, kvs, rcs, rvs, hci, hvi, hok, hsl, hrl⟩ := HLi.out
      simp only [Fo.len] at hj
      simp only [Fo.size] at hsi
      obtain ⟨g, hra, ⟨cur, hgc⟩, hcell⟩ := HX.out (by omega)
      subst hra
      obtain ⟨rk, ck, rfl⟩ := own_slice hok
      have i1 : (j : Int) < (f.len : Int) := by omega
      have hg0 : g < wr.heap.size := Nat.lt_of_lt_of_le (Array.getElem?_eq_some_iff.1 hgc).1 HDi.out.size
      have ec : ∀ o, wr.cell? ⟨g, o, none⟩ = w.cell? ⟨g, o, none⟩ := fun o => World.cell?_of_block (HDi.out.block g cur hgc)
      have hx := HXi.out
      rw [hci] at hx
      have f1 := (ec _).trans (hcell _ _ (hx 0 _ rfl))
      have f2 := (ec _).trans (hcell _ _ (hx 1 _ rfl))
      have f3 := (ec _).trans (hcell _ _ (hx 2 _ rfl))
      have f4 := (ec _).trans (hcell _ _ (hx 3 _ rfl))
      have f5 := (ec _).trans (hcell _ _ (hx 4 _ rfl))
      rw [Nat.add_zero] at f1
      have Hxr : Hid (∀ j' u, rcs[j']? = some u → cs[(j + 1) * 5 + j']? = some u) := fun j' u hj' => by
        have := hx (j' + 5) u (by simpa using hj')
        rwa [show j * 5 + (j' + 5) = (j + 1) * 5 + j' by omega] at this
      have hvl : vs.length = vo.length + (kvs.length + rvs.length + 1) := by rw [HVi.out, hvi]; simp
      have HOk : Hid (wr.ownsRow base 58 5 (.slice rk s1.len ck) s1.len kcs) := own_dk hok HDi.out
      have HSl : Hid (LV wr base s1 kcs kvs) := hsl.dk HDi.out
      have HRl : Hid (LV w base r1 rcs rvs) := hrl
      have HVr : Hid (vs = (vo ++ .slice rk s1.len ck :: kvs) ++ rvs) := by show _ = _; rw [HVi.out, hvi]; simp
      have hbr : bB ≤ wr.heap.size := Nat.le_trans hbs HDi.out.size
      clear hci hvi hok hsl hrl hx hcell hgc ec
      go_wp2_with fail
      refine (HS.out s1.size (by omega) k1 n1 t1 d1 s1 rk ck kcs kvs (k + 1 + vo.length) v' _ base wr (Nat.le_refl _) (by omega) HOk.out HSl.out HBi.out HRi.out (by omega) hb hbr).mono ?_
      rintro e w3 ⟨⟨r3, rfl⟩, v3, hb3, hr3, hd3, hw3⟩
      have HB3 : Hid (Bd w3 b v3) := hb3
      have HR3 : Hid (w3.ownsRow bB 23 1 v3 (k + 1 + (vo ++ .slice rk s1.len ck :: kvs).length) (rows ++ .slice (some ⟨g, 0, none⟩) f.len cp :: (vo ++ .slice rk s1.len ck :: kvs))) := by
        show World.ownsRow _ _ _ _ _ _ _
        rw [List.length_append, List.length_cons, show k + 1 + (vo.length + (kvs.length + 1)) = k + 1 + vo.length + 1 + kvs.length by omega]
        simpa using hr3
      have HD3 : Hid (DK w w3) := HDi.out.trans hd3
      have HW3 : Hid (Below b w w3) := HWi.out.trans hw3
      clear hb3 hr3 hd3 hw3 f1 f2 f3 f4 f5
      go_wp2
      go_roundw
      case rel => exact ⟨j + 1, r1, rcs, vo ++ .slice rk s1.len ck :: kvs, rvs, v3, by go_num, by omega, by omega, Hxr, HRl, HVr, HB3, HR3, HD3, HW3⟩
      case measure => simp [intOf]; omega
theorem put_all (b bB : Nat) : ∀ N, PutC b bB N := fun N => by
  induction N using Nat.strongRecOn with
  | _ N ih => exact put_of (fun M hM => putD_of (ih M hM))
end Go.Proofs.YtlpdfifjdlfpdaaGreatDoor
