/- The other heap of ShowTurned in memory. -/
import Derived.Test.YtejmoopgfnjaaaaDoorHSTurnM
namespace Go.Proofs.YtejmoopgfnjaaaaDoor
open Go.RowKit

theorem al_below (w : World) (o : Obj) : Below w.heap.size w (w.alloc o) := (Below.refl _ w).alloc (Nat.le_refl _) _
theorem dr_set4 {W : World} {t g N : Nat} {P : Nat → Value → Prop} (m : Nat) (x : Cl) (h : DR W t g N P) : DR ((((W.setCell ⟨g, m * 4, none⟩ (.int .u8 x.k)).setCell ⟨g, m * 4 + 1, none⟩ (.int .u8 x.c)).setCell ⟨g, m * 4 + 1 + 1, none⟩ (.int .u64 x.a)).setCell ⟨g, m * 4 + 1 + 1 + 1, none⟩ (.int .u64 x.b)) t g N (fun k u => (k / 4 = m → (cells4 x)[k % 4]? = some u) ∧ (k / 4 ≠ m → P k u)) := by
  have q1 := h.set (j := m * 4) (P' := fun k u => (k / 4 = m → k % 4 < 1 → (cells4 x)[k % 4]? = some u) ∧ (k / 4 ≠ m → P k u)) (v := .int .u8 x.k) (fun k u hk hh => ⟨fun h1 h2 => by omega, fun _ => hh⟩) ⟨fun h1 h2 => by rw [show m * 4 % 4 = 0 by omega]; rfl, fun h1 => absurd (by omega) h1⟩
  have q2 := q1.set (j := m * 4 + 1) (P' := fun k u => (k / 4 = m → k % 4 < 2 → (cells4 x)[k % 4]? = some u) ∧ (k / 4 ≠ m → P k u)) (v := .int .u8 x.c) (fun k u hk hh => ⟨fun h1 h2 => hh.1 h1 (by omega), hh.2⟩) ⟨fun h1 h2 => by rw [show (m * 4 + 1) % 4 = 1 by omega]; rfl, fun h1 => absurd (by omega) h1⟩
  have q3 := q2.set (j := m * 4 + 1 + 1) (P' := fun k u => (k / 4 = m → k % 4 < 3 → (cells4 x)[k % 4]? = some u) ∧ (k / 4 ≠ m → P k u)) (v := .int .u64 x.a) (fun k u hk hh => ⟨fun h1 h2 => hh.1 h1 (by omega), hh.2⟩) ⟨fun h1 h2 => by rw [show (m * 4 + 1 + 1) % 4 = 2 by omega]; rfl, fun h1 => absurd (by omega) h1⟩
  exact q3.set (j := m * 4 + 1 + 1 + 1) (v := .int .u64 x.b) (fun k u hk hh => ⟨fun h1 => hh.1 h1 (by omega), hh.2⟩) ⟨fun h1 => by rw [show (m * 4 + 1 + 1 + 1) % 4 = 3 by omega]; rfl, fun h1 => absurd (by omega) h1⟩
theorem below_set4 {B : Nat} {w0 W : World} (g m : Nat) (x : Cl) (h : Below B w0 W) (hg : B ≤ g) : Below B w0 ((((W.setCell ⟨g, m * 4, none⟩ (.int .u8 x.k)).setCell ⟨g, m * 4 + 1, none⟩ (.int .u8 x.c)).setCell ⟨g, m * 4 + 1 + 1, none⟩ (.int .u64 x.a)).setCell ⟨g, m * 4 + 1 + 1 + 1, none⟩ (.int .u64 x.b)) :=
  (((h.setCell (p := ⟨g, m * 4, none⟩) hg _).setCell (p := ⟨g, m * 4 + 1, none⟩) hg _).setCell (p := ⟨g, m * 4 + 1 + 1, none⟩) hg _).setCell (p := ⟨g, m * 4 + 1 + 1 + 1, none⟩) hg _
theorem cell_far4 {W : World} {g a b c d k o : Nat} {va vb vc vd : Value} (h : ¬ k = g) : ((((W.setCell ⟨g, a, none⟩ va).setCell ⟨g, b, none⟩ vb).setCell ⟨g, c, none⟩ vc).setCell ⟨g, d, none⟩ vd).drew.cell? ⟨k, o, none⟩ = W.cell? ⟨k, o, none⟩ := by
  have e : ((((W.setCell ⟨g, a, none⟩ va).setCell ⟨g, b, none⟩ vb).setCell ⟨g, c, none⟩ vc).setCell ⟨g, d, none⟩ vd).drew.heap[k]? = W.heap[k]? := (Below.heap_setCell _ _ _ k h).trans ((Below.heap_setCell _ _ _ k h).trans ((Below.heap_setCell _ _ _ k h).trans (Below.heap_setCell _ _ _ k h)))
  simp only [World.cell?, e]
theorem dr_made4 {W : World} {base g n t : Nat} (h : W.ownsRow base t 4 (.slice (some ⟨g, 0, none⟩) n n) n (madeCells (Value.agg #[.int .u8 0, .int .u8 0, .int .u64 0, .int .u64 0]).cells (n * 4)).toList) : DR W t g (n * 4) (fun k u => (cells4 zCl)[k % 4]? = some u) := by
  rcases h.2 with ⟨h0, _⟩ | ⟨g', cap', cur, hv, _, hh, _, _, hsz, ht⟩
  · cases h0
  · cases hv
    refine ⟨cur, hh, hsz, fun k u hk => ?_⟩
    have hk2 : k < cur.size := (Array.getElem?_eq_some_iff.1 hk).1
    rw [List.take_of_length_le (by simp; omega)] at ht
    have h1 : cur.toList[k]? = some u := by rw [Array.getElem?_toList]; exact hk
    rw [ht] at h1
    unfold madeCells at h1
    rw [Array.toList_map, List.getElem?_map] at h1
    obtain ⟨i, hi, hu⟩ := Option.map_eq_some_iff.1 h1
    rw [Array.getElem?_toList] at hi
    have hik : i = k := by
      have := Array.getElem?_eq_some_iff.1 hi
      obtain ⟨h3, h4⟩ := this
      rw [Array.getElem_range] at h4
      exact h4.symm
    subst hik
    rw [← hu]
    have e : (Value.agg #[.int .u8 0, .int .u8 0, .int .u64 0, .int .u64 0]).cells = #[.int .u8 0, .int .u8 0, .int .u64 0, .int .u64 0] := rfl
    rw [e]
    show (cells4 zCl)[i % 4]? = some (#[Value.int .u8 0, .int .u8 0, .int .u64 0, .int .u64 0][i % 4]!)
    have hm : i % 4 = 0 ∨ i % 4 = 1 ∨ i % 4 = 2 ∨ i % 4 = 3 := by omega
    rcases hm with h | h | h | h <;> rw [h] <;> rfl
/-- The other heap, as far as it is written: its first j cells; the others are noughts. -/
def TurD (w : World) (g : Nat) (h : List Cl) (n : Nat) (τ : Nat → Nat) (j : Nat) : Prop := DR w 39 g (n * 4) (fun k u => (∀ i, i < j → k / 4 = τ i → (cells4 (turAt h n τ i))[k % 4]? = some u) ∧ ((∀ i, i < j → k / 4 ≠ τ i) → (cells4 zCl)[k % 4]? = some u))
theorem TurD.step {W : World} {g : Nat} {h : List Cl} {n : Nat} {τ ρ : Nat → Nat} {j : Nat} (hp : Perm n τ ρ) (hj : j < n) (hd : TurD W g h n τ j) {x : Cl} (hx : turAt h n τ j = x) : TurD ((((W.setCell ⟨g, τ j * 4, none⟩ (.int .u8 x.k)).setCell ⟨g, τ j * 4 + 1, none⟩ (.int .u8 x.c)).setCell ⟨g, τ j * 4 + 1 + 1, none⟩ (.int .u64 x.a)).setCell ⟨g, τ j * 4 + 1 + 1 + 1, none⟩ (.int .u64 x.b)) g h n τ (j + 1) := by
  refine (dr_set4 (τ j) x hd).mono (fun k u _ hh => ⟨fun i hi hk => ?_, fun hk => ?_⟩)
  · by_cases he : i = j
    · subst he; rw [hx]; exact hh.1 hk
    · refine (hh.2 (fun e => he ?_)).1 i (by omega) hk
      have h1 := hp.back i (by omega)
      have h2 := hp.back j (by omega)
      rw [← hk, e, h2] at h1
      exact h1.symm
  · exact (hh.2 (hk j (by omega))).2 (fun i hi => hk i (by omega))
theorem TurD.hx {w : World} {g : Nat} {h : List Cl} {n : Nat} {τ ρ : Nat → Nat} (hp : Perm n τ ρ) (hl : h.length ≤ n) (hd : TurD w g h n τ h.length) : HX w (some ⟨g, 0, none⟩) (turH h n τ ρ) := by
  refine ⟨g, 0, .inr rfl, fun j x hx => ⟨DR.lt hd, ?_⟩⟩
  have hj := (List.getElem?_eq_some_iff.1 hx).1
  rw [tur_len] at hj
  have h1 := tur_get (h := h) hp (hp.lt' j hj)
  rw [hp.there j hj, hx] at h1
  have hxe := Option.some.inj h1
  have e := fun (q : Nat) (v : Value) (hq : q < 4) (hv : (cells4 x)[q]? = some v) => show w.cell? ⟨g, j * 4 + q, none⟩ = some v by
    obtain ⟨u, hu, hu2⟩ := DR.cell hd (j := j * 4 + q) (by omega)
    have h4 : (j * 4 + q) / 4 = j := by omega
    have h5 : (j * 4 + q) % 4 = q := by omega
    rw [h4, h5] at hu2
    by_cases hr : ρ j < h.length
    · have := hu2.1 (ρ j) hr (hp.there j hj).symm
      rw [← hxe, hv] at this
      rw [hu, Option.some.inj this]
    · have := hu2.2 (fun i hi e => hr (by rw [e, hp.back i (by omega)]; exact hi))
      have hz : x = zCl := by rw [hxe]; unfold turAt; rw [List.getElem?_eq_none (by omega)]; rfl
      rw [hz] at hv
      rw [hv] at this
      rw [hu, Option.some.inj this]
  simp only [Nat.zero_add]
  exact ⟨e 0 _ (by omega) rfl, e 1 _ (by omega) rfl, e 2 _ (by omega) rfl, e 3 _ (by omega) rfl⟩
/-- A cell in a block of its own. -/
def K4 (W : World) (b : Nat) (x : Cl) : Prop := W.heap[b]? = some (.cells #[.int .u8 x.k, .int .u8 x.c, .int .u64 x.a, .int .u64 x.b] 39 (0, 0))
theorem K4.setA {W : World} {b : Nat} {x : Cl} (h : K4 W b x) (a : Int) : K4 (W.setCell ⟨b, 2, none⟩ (.int .u64 a)) b ⟨x.k, x.c, a, x.b⟩ := set_atC (j := 2) h _
theorem K4.setB {W : World} {b : Nat} {x : Cl} (h : K4 W b x) (a : Int) : K4 (W.setCell ⟨b, 3, none⟩ (.int .u64 a)) b ⟨x.k, x.c, x.a, a⟩ := set_atC (j := 3) h _
theorem K4.setC {W : World} {b : Nat} {x : Cl} (h : K4 W b x) (a : Int) : K4 (W.setCell ⟨b, 1, none⟩ (.int .u8 a)) b ⟨x.k, a, x.a, x.b⟩ := set_atC (j := 1) h _
theorem K4.cells {W : World} {b : Nat} {x : Cl} (h : K4 W b x) : (W.cell? ⟨b, 0, none⟩ = some (.int .u8 x.k) ∧ W.cell? ⟨b, 1, none⟩ = some (.int .u8 x.c) ∧ W.cell? ⟨b, 2, none⟩ = some (.int .u64 x.a) ∧ W.cell? ⟨b, 3, none⟩ = some (.int .u64 x.b)) ∧ b < W.heap.size :=
  ⟨⟨heap_cell (j := 0) h rfl, heap_cell (j := 1) h rfl, heap_cell (j := 2) h rfl, heap_cell (j := 3) h rfl⟩, heap_lt h⟩
theorem K4.fz {W : World} {b : Nat} {x : Cl} (h : K4 W b x) (j : Nat) : W.frozen? ⟨b, j, none⟩ = false := by
  unfold K4 at h
  simp [World.frozen?, h]
theorem blk_set {W : World} {b j k : Nat} {v : Value} (h : k ≠ b) : (W.setCell ⟨b, j, none⟩ v).heap[k]? = W.heap[k]? := Below.heap_setCell _ _ _ k h
set_option maxRecDepth 100000 in
set_option maxHeartbeats 4000000 in
theorem movedT_any (n g : Nat) (τ : Nat → Nat) (x : Int) (w : World) (hd : DR w 3 g n (fun k u => u = .int .i64 (τ k : Nat))) (hx : Rng x) (hT : Tab w) :
    Calls Tryd.prog 11 #[.int .u64 x, .slice (some ⟨g, 0, none⟩) n n] w fun e w' => e = .returned (.int .u64 (mvM n τ x)) ∧ w' = w := by
  have HC : Hid (Calls Tryd.prog 12 #[.int .u64 x] w fun e w' => e = .returned (.tuple #[.int .i64 (cellV x), .bool (refB x)]) ∧ w' = w) := cell_any x w hx hT
  cases hr : refB x
  · have HM : Hid (mvM n τ x = x) := by show _ = _; unfold mvM; rw [ref_none (by unfold refB at hr; simpa using hr)]
    rw [hr] at HC
    rw [HM.out]
    clear hd hT hr
    go_enter Tryd.func11, Tryd.ntmps11
    go_wp2_with fail
    refine Calls.mono HC.out ?_
    rintro e w1 ⟨rfl, hw1⟩
    rw [hw1]
    clear hw1
    go_wp2
    go_ret
    exact ⟨rfl, rfl⟩
  · obtain ⟨c, hc, hv⟩ := ref_nat hr
    rw [hr, hv] at HC
    have i0 : ¬ (c : Int) < 0 := by omega
    by_cases hlt : c < n
    · obtain ⟨u, hu, rfl⟩ := hd.cell hlt
      have lg := hd.lt
      have i1 : (c : Int) < (n : Int) := by omega
      have i2 : ¬ (c : Int) ≥ (n : Int) := by omega
      have HM : Hid (mvM n τ x = mkW 8 (τ c : Nat)) := by show _ = _; unfold mvM; rw [hc]; exact if_pos hlt
      have HR : Hid (Calls Tryd.prog 15 #[.int .i64 (τ c : Nat)] w fun e w' => e = .returned (.int .u64 (mkW 8 (τ c : Nat))) ∧ w' = w) := ref_any _ w hT
      rw [HM.out]
      clear hd HM hT hr
      generalize mkW 8 (τ c : Nat) = m at *
      go_enter Tryd.func11, Tryd.ntmps11
      go_wp2_with fail
      refine Calls.mono HC.out ?_
      rintro e w1 ⟨rfl, hw1⟩
      rw [hw1]
      clear hw1
      go_wp2_with fail
      refine Calls.mono HR.out ?_
      rintro e w1 ⟨rfl, hw1⟩
      rw [hw1]
      clear hw1
      go_wp2
      go_ret
      exact ⟨rfl, rfl⟩
    · have i1 : (c : Int) ≥ (n : Int) := by omega
      have HM : Hid (mvM n τ x = x) := by show _ = _; unfold mvM; rw [hc]; exact if_neg hlt
      rw [HM.out]
      clear hd hT hr
      go_enter Tryd.func11, Tryd.ntmps11
      go_wp2_with fail
      refine Calls.mono HC.out ?_
      rintro e w1 ⟨rfl, hw1⟩
      rw [hw1]
      clear hw1
      go_wp2
      go_ret
      exact ⟨rfl, rfl⟩
end Go.Proofs.YtejmoopgfnjaaaaDoor
