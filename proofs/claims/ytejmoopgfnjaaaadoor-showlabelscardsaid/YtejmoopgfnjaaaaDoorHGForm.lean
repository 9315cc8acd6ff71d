/- Form. -/
import Derived.Test.YtejmoopgfnjaaaaDoorHGFormed
namespace Go.Proofs.YtejmoopgfnjaaaaDoor
open Go.RowKit

theorem goM_ok {h : List Cl} {s : Bool} (hh : ∀ x ∈ h, okCl h.length x = true) : ∀ (f a : Nat) (r : St), OkS h.length r → OkS h.length (goM h s f a r)
  | 0, _, _, hr => hr
  | f + 1, a, r, hr => by
    rcases Nat.lt_or_ge a r.length with ha | ha
    · rw [goM_step hr ha]; exact goM_ok hh f (a + 1) _ (hr.round hh)
    · rw [goM_end ha]; exact hr
theorem walk_ok {h : List Cl} {l : List Int} (s : Bool) (hok : heapB h l = true) : OkS h.length (walkM h s l) := by
  obtain ⟨h1, h2⟩ := heap_ok hok
  exact goM_ok h1 _ _ _ (OkS.roots l (OkS.nil _) h2)
def clCells : List Cl → List Value
  | [] => []
  | x :: l => .int .u8 x.k :: .int .u8 x.c :: .int .u64 x.a :: .int .u64 x.b :: clCells l
theorem clCells_at : ∀ (l : List Cl) (j : Nat) (x : Cl), l[j]? = some x → (clCells l)[j * 4]? = some (.int .u8 x.k) ∧ (clCells l)[j * 4 + 1]? = some (.int .u8 x.c) ∧ (clCells l)[j * 4 + 1 + 1]? = some (.int .u64 x.a) ∧ (clCells l)[j * 4 + 1 + 1 + 1]? = some (.int .u64 x.b)
  | [], _, _, h => by simp at h
  | y :: l, 0, x, h => by simp at h; subst h; exact ⟨rfl, rfl, rfl, rfl⟩
  | y :: l, j + 1, x, h => by
    have := clCells_at l j x (by simpa using h)
    rw [show (j + 1) * 4 = j * 4 + 1 + 1 + 1 + 1 by omega]
    exact this
theorem clCells_len : ∀ l : List Cl, (clCells l).length = l.length * 4
  | [] => rfl
  | x :: l => by simp only [clCells, List.length_cons, clCells_len l]; omega
/-- What is reached as a heap of its own. -/
def formH (h : List Cl) (r : St) : List Cl := r.map (fun p => formedM (r.map (·.1)) (h.getD p.1 ⟨0, 0, 0, 0⟩))
theorem infoCl : (Tryd.prog.info? 39).map (fun i => (i.zero, i.size, i.bytes)) = some (some (.agg #[.int .u8 0, .int .u8 0, .int .u64 0, .int .u64 0]), 4, 24) := by kernel_rfl
theorem infoW : (Tryd.prog.info? 25).map (fun i => (i.zero, i.size, i.bytes)) = some (some (.int .u64 0), 1, 8) := by kernel_rfl
theorem dr_own {W : World} {base g n t sz : Nat} {xs : List Value} (h : W.ownsRow base t sz (.slice (some ⟨g, 0, none⟩) n n) n xs) : DR W t g (n * sz) (fun _ _ => True) := by
  rcases h.2 with ⟨h0, _⟩ | ⟨g', cap', cur, hv, _, hh, _, _, hsz, ht⟩
  · cases h0
  · cases hv
    exact ⟨cur, hh, hsz, fun _ _ _ => trivial⟩
/-- What Form tells. -/
def FormR (h : List Cl) (l : List Int) (B : Nat) (e : Ending) (w' : World) : Prop :=
  (heapB h l = false ∧ e = .returned (.tuple #[.slice none 0 0, .slice none 0 0, .int .i64 100])) ∨ (heapB h l = true ∧ ∃ g1 g2, (B ≤ g1 ∧ g1 < g2) ∧ e = .returned (.tuple #[.slice (some ⟨g1, 0, none⟩) (walkM h false l).length (walkM h false l).length, .slice (some ⟨g2, 0, none⟩) l.length l.length, .int .i64 0])
    ∧ DR w' 39 g1 ((walkM h false l).length * 4) (fun k u => (clCells (formH h (walkM h false l)))[k]? = some u) ∧ DR w' 25 g2 l.length (fun k u => ∀ x, l[k]? = some x → u = .int .u64 (movedM ((walkM h false l).map (·.1)) x)))
set_option maxRecDepth 100000 in
set_option maxHeartbeats 16000000 in
theorem form_any (h : List Cl) (l : List Int) (ra rb : Option Addr) (ca cb : Nat) (w : World) (hH : HR w ra h) (hR : WR w rb l) (hT : Tab w) (hn : h.length ≤ 1000000) (hl : l.length ≤ 1000000) :
    Calls Tryd.prog 28 #[.slice ra h.length ca, .slice rb l.length cb] w fun e w' => FormR h l w.heap.size e w' ∧ Below w.heap.size w w' := by
  have HOr : Hid (Calls Tryd.prog 43 #[.slice ra h.length ca, .slice rb l.length cb] w fun e w' => OrderR h l w.heap.size e w' ∧ Below w.heap.size w w') := order_any h l ra rb ca cb w hH hR hT hn hl
  have HT : Hid (Tab w) := hT
  obtain ⟨bh, oh, h1, h2⟩ := hH
  have H1 : Hid (h.length ≠ 0 → ra = some ⟨bh, oh, none⟩) := fun q => h1.resolve_left q
  have H2 : Hid (∀ (j : Nat) (x : Cl), h[j]? = some x → bh < w.heap.size ∧ (w.cell? ⟨bh, oh + j * 4, none⟩ = some (.int .u8 x.k) ∧ w.cell? ⟨bh, oh + j * 4 + 1, none⟩ = some (.int .u8 x.c) ∧ w.cell? ⟨bh, oh + j * 4 + 1 + 1, none⟩ = some (.int .u64 x.a) ∧ w.cell? ⟨bh, oh + j * 4 + 1 + 1 + 1, none⟩ = some (.int .u64 x.b)) ∧ OkK x) := h2
  obtain ⟨bl, ol, q1, q2⟩ := hR
  have Q1 : Hid (l.length ≠ 0 → rb = some ⟨bl, ol, none⟩) := fun q => q1.resolve_left q
  have Q2 : Hid (∀ (j : Nat) (x : Int), l[j]? = some x → bl < w.heap.size ∧ w.cell? ⟨bl, ol + j, none⟩ = some (.int .u64 x) ∧ Rng x) := q2
  obtain ⟨i0, hi0, hz0, hz1, hz2⟩ := info_parts infoCl
  obtain ⟨i1, hi1, hy0, hy1, hy2⟩ := info_parts infoW
  clear hT h1 h2 q1 q2
  go_enter Tryd.func28, Tryd.ntmps28
  go_wp2_with fail
  refine Calls.mono HOr.out ?_
  rintro e w1 ⟨hor, hb1⟩
  have HB1 : Hid (Below w.heap.size w w1) := hb1
  have s1 := hb1.size
  rcases hor with ⟨hk, rfl⟩ | ⟨hk, rv, cv, rfl, hro⟩
  · have Hk : Hid (heapB h l = false) := hk
    clear hk hb1
    go_wp2
    go_ret3
    exact ⟨.inl ⟨Hk.out, rfl⟩, HB1.out⟩
  have Hk : Hid (heapB h l = true) := hk
  have hok := walk_ok false hk
  have hrl := hok.len
  obtain ⟨hh1, hh2⟩ := heap_ok hk
  have HC : Hid (∀ x ∈ h, okCl h.length x = true) := hh1
  have HF : Hid (∀ x ∈ l, fitsW h.length x = true) := hh2
  have HRw : Hid (∀ (j : Nat) (p : Nat × Int), (walkM h false l)[j]? = some p → ∃ b, rv = some ⟨b, 0, none⟩ ∧ b < w1.heap.size ∧ w1.cell? ⟨b, j, none⟩ = some (.int .i64 p.1) ∧ p.1 < h.length) := fun j p hp => by
    obtain ⟨g, e1, e2, e3⟩ := own_at0 hro (List.getElem?_eq_some_iff.1 hp).1 hp
    exact ⟨g, e1, e3, e2, hok.lt p (List.mem_of_getElem? hp)⟩
  have HMv : Hid (Calls Tryd.prog 44 #[.slice rv (walkM h false l).length cv, .int .i64 h.length] w1 fun e w' => (∃ pb g, (w1.heap.size ≤ pb ∧ w1.heap.size ≤ g) ∧ e = .returned (.func (.func 59) #[] #[.pointer (some ⟨pb, 0, none⟩)]) ∧ MV w' pb g h.length ((walkM h false l).map (·.1))) ∧ Below w1.heap.size w1 w') := by
    have := mover_any ((walkM h false l).map (·.1)) rv cv h.length w1 (fun j c hc => by
      rw [List.getElem?_map] at hc
      obtain ⟨p, hp, e⟩ := Option.map_eq_some_iff.1 hc
      obtain ⟨b, e1, e2, e3, e4⟩ := HRw.out j p hp
      subst e
      exact ⟨b, e1, e2, e3, e4⟩) (by simp; omega) hn
    rwa [List.length_map] at this
  clear hk hb1 hro hok hh1 hh2 HOr
  generalize hrr : (walkM h false l) = r at *
  have Hrr : Hid ((walkM h false l) = r) := hrr
  clear hrr
  go_wp2_with fail
  refine Calls.mono HMv.out ?_
  rintro e w2 ⟨⟨pb, g, ⟨gp1, gp2⟩, rfl, hmv⟩, hb2⟩
  have HMV : Hid (MV w2 pb g h.length (r.map (·.1))) := hmv
  have HB2 : Hid (Below w1.heap.size w1 w2) := hb2
  have s2 := hb2.size
  have lpb := heap_lt hmv.v
  have lgg := hmv.d.lt
  clear hmv hb2 HMv
  go_wp2_with (at_make; refine stop_of ?_)
  unfold Hid
  refine wpList_make_full _ rfl _ _ 22 rfl w2.heap.size 39 i0 (.agg #[.int .u8 0, .int .u8 0, .int .u64 0, .int .u64 0]) 4 Tryd.underlying22 hi0 hz0 hz1 .i64 .i64 _ _ r.length rfl rfl rfl rfl (by rw [hz2]; omega) (by unfold maxLen; omega) (Nat.le_refl _) ?_
  intro w3 hown hgr
  have HD3 : Hid (DR w3 39 w2.heap.size (r.length * 4) (fun _ _ => True)) := dr_own hown
  have HB3 : Hid (Below w2.heap.size w2 w3) := grown_low hgr (fun g hg => by cases hg) (Nat.le_refl _)
  clear hown hgr
  go_wp2
  go_loopw [34, 11, 12] (fun i _ _ wr => ∃ j : Nat, i = .int .i64 j ∧ j ≤ r.length ∧ Hid (DR wr 39 w2.heap.size (r.length * 4) (fun k u => k < j * 4 → (clCells (formH h r))[k]? = some u)) ∧ Hid (Below w2.heap.size w2 wr)) (fun i _ _ _ => r.length - (intOf i).toNat)
  case atStart => exact ⟨0, rfl, Nat.zero_le _, HD3.out.mono (fun k u _ _ hk => by omega), HB3⟩
  case round =>
    obtain ⟨j, rfl, hj, HD, HB⟩ := hrel
    have HBw : Hid (Below w.heap.size w wr) := HB1.out.trans ((HB2.out.mono s1).trans (HB.out.mono (by omega)))
    by_cases hlt : j < r.length
    · have j1 : (j : Int) < (r.length : Int) := by omega
      obtain ⟨p, hp⟩ : ∃ p, r[j]? = some p := ⟨_, List.getElem?_eq_getElem hlt⟩
      obtain ⟨b, e1, e2, e3, e4⟩ := HRw.out j p hp
      subst e1
      have c0 := ((HB2.out.mono (Nat.le_refl _)).cell (p := ⟨b, j, none⟩) e2).trans e3
      have c1 := (HB.out.cell (p := ⟨b, j, none⟩) (by show b < w2.heap.size; omega)).trans c0
      have l1 : b < wr.heap.size := Nat.lt_of_lt_of_le e2 (Nat.le_trans s2 HB.out.size)
      obtain ⟨x, hx⟩ : ∃ x, h[p.1]? = some x := ⟨_, List.getElem?_eq_getElem e4⟩
      have hra := H1.out (by omega)
      subst hra
      obtain ⟨gg, ⟨a0, a1, a2, a3⟩, k⟩ := H2.out p.1 x hx
      have e := fun q => HBw.out.cell (p := ⟨bh, q, none⟩) gg
      have d0 := (e _).trans a0
      have d1 := (e _).trans a1
      have d2 := (e _).trans a2
      have d3 := (e _).trans a3
      have l2 : bh < wr.heap.size := Nat.lt_of_lt_of_le gg HBw.out.size
      have j2 : (p.1 : Int) < (h.length : Int) := by omega
      have hmv : MV wr pb g h.length (r.map (·.1)) := ⟨(HB.out.block _ lpb).trans HMV.out.v, HMV.out.d.kept (HB.out.block _ lgg)⟩
      obtain ⟨y, hy⟩ : ∃ y, y = formedM (r.map (·.1)) x := ⟨_, rfl⟩
      have HFo : Hid (Calls Tryd.prog 45 #[.agg #[.int .u8 x.k, .int .u8 x.c, .int .u64 x.a, .int .u64 x.b], .func (.func 59) #[] #[.pointer (some ⟨pb, 0, none⟩)]] wr fun e w' => e = .returned (.agg #[.int .u8 y.k, .int .u8 y.c, .int .u64 y.a, .int .u64 y.b]) ∧ Below wr.heap.size wr w') := by
        rw [hy]; exact formed_any (r.map (·.1)) x wr hmv k (HC.out x (List.mem_of_getElem? hx)) (HT.out.below HBw.out)
      have HCl : Hid ((clCells (formH h r))[j * 4]? = some (.int .u8 y.k) ∧ (clCells (formH h r))[j * 4 + 1]? = some (.int .u8 y.c) ∧ (clCells (formH h r))[j * 4 + 1 + 1]? = some (.int .u64 y.a) ∧ (clCells (formH h r))[j * 4 + 1 + 1 + 1]? = some (.int .u64 y.b)) := clCells_at _ j y (by
        unfold formH
        rw [List.getElem?_map, hp, Option.map_some, List.getD_eq_getElem?_getD, hx, hy]; rfl)
      clear hp e2 e3 c0 hx gg a0 a1 a2 a3 k e hmv hy
      go_wp2_with fail
      refine Calls.mono HFo.out ?_
      rintro e w4 ⟨rfl, hb4⟩
      have hg4 := HD.out.lt
      have HD4 : Hid (DR w4 39 w2.heap.size (r.length * 4) (fun k u => k < j * 4 → (clCells (formH h r))[k]? = some u)) := HD.out.kept (hb4.block _ hg4)
      have HB4 : Hid (Below w2.heap.size w2 w4) := HB.out.trans (hb4.mono (by omega))
      have s4 : w2.heap.size < w4.heap.size := Nat.lt_of_lt_of_le hg4 hb4.size
      obtain ⟨u0, hu0, _⟩ := HD4.out.cell (j := j * 4) (by omega)
      obtain ⟨u1, hu1, _⟩ := HD4.out.cell (j := j * 4 + 1) (by omega)
      obtain ⟨u2, hu2, _⟩ := HD4.out.cell (j := j * 4 + 1 + 1) (by omega)
      obtain ⟨u3, hu3, _⟩ := HD4.out.cell (j := j * 4 + 1 + 1 + 1) (by omega)
      have z0 := HD4.out.fz (j * 4)
      have z1 := HD4.out.fz (j * 4 + 1)
      have z2 := HD4.out.fz (j * 4 + 1 + 1)
      have z3 := HD4.out.fz (j * 4 + 1 + 1 + 1)
      have HD5 : Hid (DR ((((w4.setCell ⟨w2.heap.size, j * 4, none⟩ (.int .u8 y.k)).setCell ⟨w2.heap.size, j * 4 + 1, none⟩ (.int .u8 y.c)).setCell ⟨w2.heap.size, j * 4 + 1 + 1, none⟩ (.int .u64 y.a)).setCell ⟨w2.heap.size, j * 4 + 1 + 1 + 1, none⟩ (.int .u64 y.b)) 39 w2.heap.size (r.length * 4) (fun k u => k < (j + 1) * 4 → (clCells (formH h r))[k]? = some u)) := by
        obtain ⟨t0, t1, t2, t3⟩ := HCl.out
        have q1 := HD4.out.set (j := j * 4) (P' := fun k u => k < j * 4 + 1 → (clCells (formH h r))[k]? = some u) (v := .int .u8 y.k) (fun k u hk hh hl => hh (by omega)) (fun _ => t0)
        have q2 := q1.set (j := j * 4 + 1) (P' := fun k u => k < j * 4 + 1 + 1 → (clCells (formH h r))[k]? = some u) (v := .int .u8 y.c) (fun k u hk hh hl => hh (by omega)) (fun _ => t1)
        have q3 := q2.set (j := j * 4 + 1 + 1) (P' := fun k u => k < j * 4 + 1 + 1 + 1 → (clCells (formH h r))[k]? = some u) (v := .int .u64 y.a) (fun k u hk hh hl => hh (by omega)) (fun _ => t2)
        exact q3.set (j := j * 4 + 1 + 1 + 1) (v := .int .u64 y.b) (fun k u hk hh hl => hh (by omega)) (fun _ => t3)
      have HB5 : Hid (Below w2.heap.size w2 ((((w4.setCell ⟨w2.heap.size, j * 4, none⟩ (.int .u8 y.k)).setCell ⟨w2.heap.size, j * 4 + 1, none⟩ (.int .u8 y.c)).setCell ⟨w2.heap.size, j * 4 + 1 + 1, none⟩ (.int .u64 y.a)).setCell ⟨w2.heap.size, j * 4 + 1 + 1 + 1, none⟩ (.int .u64 y.b))) := (((HB4.out.setCell (p := ⟨w2.heap.size, j * 4, none⟩) (Nat.le_refl _) _).setCell (p := ⟨w2.heap.size, j * 4 + 1, none⟩) (Nat.le_refl _) _).setCell (p := ⟨w2.heap.size, j * 4 + 1 + 1, none⟩) (Nat.le_refl _) _).setCell (p := ⟨w2.heap.size, j * 4 + 1 + 1 + 1, none⟩) (Nat.le_refl _) _
      clear hb4 HFo c1 d0 d1 d2 d3 hg4
      go_wp2
      go_roundw
      case rel => exact ⟨j + 1, by go_num, by omega, HD5, HB5⟩
      case measure => simp [intOf]; omega
    · have j1 : ¬ (j : Int) < (r.length : Int) := by omega
      have hje : j = r.length := by omega
      subst hje
      have HDe : Hid (DR wr 39 w2.heap.size (r.length * 4) (fun k u => (clCells (formH h r))[k]? = some u)) := HD.out.mono (fun k u hk hh => hh hk)
      have lge := HD.out.lt
      clear HD HD3 HB3 hlt hj
      obtain ⟨wA, rfl⟩ : ∃ wA, wA = wr := ⟨_, rfl⟩
      go_wp2_with (at_make; refine stop_of ?_)
      unfold Hid
      refine wpList_make_full _ rfl _ _ 42 rfl wA.heap.size 25 i1 (.int .u64 0) 1 Tryd.underlying42 hi1 hy0 hy1 .i64 .i64 _ _ l.length rfl rfl rfl rfl (by rw [hy2]; omega) (by unfold maxLen; omega) (Nat.le_refl _) ?_
      intro w5 hown hgr
      have hd5 := dr_own hown
      rw [Nat.mul_one] at hd5
      have HD5 : Hid (DR w5 25 wA.heap.size l.length (fun _ _ => True)) := hd5
      have HB5 : Hid (Below wA.heap.size wA w5) := grown_low hgr (fun g hg => by cases hg) (Nat.le_refl _)
      clear hown hgr hd5
      go_wp2
      go_loopw [54, 14, 15] (fun i _ _ wr => ∃ j : Nat, i = .int .i64 j ∧ j ≤ l.length ∧ Hid (DR wr 25 wA.heap.size l.length (fun k u => k < j → ∀ x, l[k]? = some x → u = .int .u64 (movedM (r.map (·.1)) x))) ∧ Hid (Below wA.heap.size wA wr)) (fun i _ _ _ => l.length - (intOf i).toNat)
      case atStart => exact ⟨0, rfl, Nat.zero_le _, HD5.out.mono (fun k u _ _ hk => by omega), HB5⟩
      case round =>
        obtain ⟨j, rfl, hj, HDr, HBr⟩ := hrel
        have HBx : Hid (Below w.heap.size w wr) := HBw.out.trans (HBr.out.mono HBw.out.size)
        by_cases hlt : j < l.length
        · have k1 : (j : Int) < (l.length : Int) := by omega
          obtain ⟨x, hx⟩ : ∃ x, l[j]? = some x := ⟨_, List.getElem?_eq_getElem hlt⟩
          obtain ⟨g1, g2, g3⟩ := Q2.out j x hx
          have hrb := Q1.out (by omega)
          subst hrb
          have c0 := (HBx.out.cell (p := ⟨bl, ol + j, none⟩) g1).trans g2
          have l1 : bl < wr.heap.size := Nat.lt_of_lt_of_le g1 HBx.out.size
          have sA := HB.out.size
          have hmv : MV wr pb g h.length (r.map (·.1)) := ⟨(HBr.out.block _ (by omega)).trans ((HB.out.block _ lpb).trans HMV.out.v), HMV.out.d.kept ((HBr.out.block _ (by omega)).trans (HB.out.block _ lgg))⟩
          have HMo : Hid (Calls Tryd.prog 59 #[.int .u64 x, .pointer (some ⟨pb, 0, none⟩)] wr fun e w' => e = .returned (.int .u64 (movedM (r.map (·.1)) x)) ∧ w' = wr) := by
            have hmo := mover1_any _ x wr hmv (HF.out x (List.mem_of_getElem? hx)) g3 (HT.out.below HBx.out)
            exact hmo
          obtain ⟨u0, hu0, _⟩ := HDr.out.cell hlt
          have z0 := HDr.out.fz j
          have s4 := HDr.out.lt
          have HD6 : Hid (DR (wr.setCell ⟨wA.heap.size, j, none⟩ (.int .u64 (movedM (r.map (·.1)) x))) 25 wA.heap.size l.length (fun k u => k < j + 1 → ∀ x, l[k]? = some x → u = .int .u64 (movedM (r.map (·.1)) x))) := HDr.out.set (fun k u hk hh hl => hh (by omega)) (fun _ x' hx' => by rw [hx] at hx'; cases hx'; rfl)
          have HB6 : Hid (Below wA.heap.size wA (wr.setCell ⟨wA.heap.size, j, none⟩ (.int .u64 (movedM (r.map (·.1)) x)))) := HBr.out.setCell (p := ⟨wA.heap.size, j, none⟩) (Nat.le_refl _) _
          clear hx g1 g2 g3 hmv
          generalize movedM (r.map (·.1)) x = mx at *
          go_wp2_with fail
          refine Calls.mono HMo.out ?_
          rintro e w6 ⟨rfl, hw6⟩
          rw [hw6]
          clear hw6 HMo
          go_wp2
          go_roundw
          case rel => exact ⟨j + 1, by go_num, by omega, HD6, HB6⟩
          case measure => simp [intOf]; omega
        · have k1 : ¬ (j : Int) < (l.length : Int) := by omega
          have hje : j = l.length := by omega
          subst hje
          have HR : Hid (FormR h l w.heap.size (.returned (.tuple #[.slice (some ⟨w2.heap.size, 0, none⟩) r.length r.length, .slice (some ⟨wA.heap.size, 0, none⟩) l.length l.length, .int .i64 0])) wr) := by
            refine .inr ⟨Hk.out, w2.heap.size, wA.heap.size, ⟨by omega, lge⟩, ?_, ?_, ?_⟩
            · rw [Hrr.out]
            · rw [Hrr.out]; exact HDe.out.kept (HBr.out.block _ lge)
            · rw [Hrr.out]; exact HDr.out.mono (fun k u hk hh => hh hk)
          clear HDr hlt hj
          go_wp2
          go_ret3
          exact ⟨HR.out, HBx.out⟩
end Go.Proofs.YtejmoopgfnjaaaaDoor
