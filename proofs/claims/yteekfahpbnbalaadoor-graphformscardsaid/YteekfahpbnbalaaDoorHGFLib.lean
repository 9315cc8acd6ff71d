/- What GraphForms does with a heap: pick, moved; Form, as it is read; a heap whose cells are numbered otherwise. -/
import Derived.Test.YteekfahpbnbalaaDoorHGKnownW
import Derived.Test.YteekfahpbnbalaaDoorHGIsoG
namespace Go.Proofs.YteekfahpbnbalaaDoor
open Go.RowKit

theorem mod_pick {a n : Int} (ha : 0 ≤ a) (hn : 0 < n) : ∃ k : Nat, (k : Int) < n ∧ a.tmod n = k := by
  refine ⟨(a.tmod n).toNat, ?_, ?_⟩
  · have h1 := Int.tmod_nonneg n ha
    have h2 := Int.tmod_lt_of_pos a hn
    omega
  · have h1 := Int.tmod_nonneg n ha
    omega
set_option maxHeartbeats 4000000 in
theorem pick_fix (a : Int) (n : Nat) (ha : -9223372036854775808 ≤ a ∧ a ≤ 9223372036854775807) (hn : 0 < n) (hn' : n ≤ 281474976710656) :
    ∃ k : Nat, k < n ∧ ∀ w : World, Calls Tryd.prog 15 #[.int .i64 a, .int .i64 n] w fun e w' => e = .returned (.int .i64 k) ∧ w' = w := by
  have i2 : ((n : Int) == 0) = false := by simp; omega
  have hn1 : (0 : Int) < (n : Int) := by omega
  obtain ⟨a1, a2⟩ := ha
  by_cases h : a < 0
  · obtain ⟨k, hk, he⟩ := mod_pick (a := -(a + 1)) (n := (n : Int)) (by omega) hn1
    refine ⟨k, by omega, fun w => ?_⟩
    have i3 : a + 1 ≤ 9223372036854775807 := by omega
    have i4 : -9223372036854775808 ≤ a + 1 := by omega
    clear hk
    go_enter Tryd.func15, Tryd.ntmps15
    go_wp2
    go_ret
    exact ⟨by rw [← he]; rfl, rfl⟩
  · obtain ⟨k, hk, he⟩ := mod_pick (a := a) (n := (n : Int)) (by omega) hn1
    refine ⟨k, by omega, fun w => ?_⟩
    clear hk
    go_enter Tryd.func15, Tryd.ntmps15
    go_wp2
    go_ret
    exact ⟨by rw [← he]; rfl, rfl⟩
/-- A word whose cell stands elsewhere. -/
def mvM (n : Nat) (τ : Nat → Nat) (x : Int) : Int := match refN x with
  | none => x
  | some c => if c < n then mkW 8 (τ c : Nat) else x
theorem ref_nat {x : Int} (h : refB x = true) : ∃ c : Nat, refN x = some c ∧ cellV x = c := by
  have h1 := ofN_ref h
  have h2 : ofT x = 8 := by unfold refB at h; simpa using h
  refine ⟨(ofN x).toNat, by unfold refN; rw [if_pos h2], ?_⟩
  unfold cellV; rw [if_pos h2]; omega
theorem ref_none {x : Int} (h : refB x = false) : refN x = none := by
  have h2 : ¬ ofT x = 8 := by unfold refB at h; simpa using h
  unfold refN; rw [if_neg h2]
set_option maxRecDepth 100000 in
set_option maxHeartbeats 4000000 in
theorem movedL_any (n g : Nat) (τ : Nat → Nat) (x : Int) (w : World) (hd : DR w 3 g n (fun k u => u = .int .i64 (τ k : Nat))) (hx : Rng x) :
    Calls Tryd.prog 16 #[.int .u64 x, .slice (some ⟨g, 0, none⟩) n n] w fun e w' => e = .returned (.int .u64 (mvM n τ x)) ∧ w' = w := by
  have HC : Hid (∀ w, Calls Tryd.prog 9 #[.int .u64 x] w fun e w' => e = .returned (.tuple #[.int .i64 (cellV x), .bool (refB x)]) ∧ w' = w) := fun w => by
    have := refCell_any x w hx
    rwa [cellN_is, isRef_is] at this
  cases hr : refB x
  · have HM : Hid (mvM n τ x = x) := by show _ = _; unfold mvM; rw [ref_none hr]
    rw [hr] at HC
    rw [HM.out]
    clear hd
    go_enter Tryd.func16, Tryd.ntmps16
    go_wp2_with fail
    refine Calls.mono (HC.out _) ?_
    rintro e w1 ⟨rfl, hw1⟩
    rw [hw1]
    clear hw1
    go_wp2
    go_ret
    exact ⟨rfl, rfl⟩
  · obtain ⟨c, hc, hv⟩ := ref_nat hr
    rw [hr, hv] at HC
    by_cases hlt : c < n
    · obtain ⟨u, hu, rfl⟩ := hd.cell hlt
      have lg := hd.lt
      have i1 : (c : Int) < (n : Int) := by omega
      have HM : Hid (mvM n τ x = mkW 8 (τ c : Nat)) := by show _ = _; unfold mvM; rw [hc]; exact if_pos hlt
      have HR : Hid (∀ w, Calls Tryd.prog 18 #[.int .i64 (τ c : Nat)] w fun e w' => e = .returned (.int .u64 (mkW 8 (τ c : Nat))) ∧ w' = w) := fun w => refRef_any _ w
      rw [HM.out]
      clear hd HM
      generalize mkW 8 (τ c : Nat) = m at *
      go_enter Tryd.func16, Tryd.ntmps16
      go_wp2_with fail
      refine Calls.mono (HC.out _) ?_
      rintro e w1 ⟨rfl, hw1⟩
      rw [hw1]
      clear hw1
      go_wp2_with fail
      refine Calls.mono (HR.out _) ?_
      rintro e w1 ⟨rfl, hw1⟩
      rw [hw1]
      clear hw1
      go_wp2
      go_ret
      exact ⟨rfl, rfl⟩
    · have i1 : ¬ (c : Int) < (n : Int) := by omega
      have HM : Hid (mvM n τ x = x) := by show _ = _; unfold mvM; rw [hc]; exact if_neg hlt
      rw [HM.out]
      clear hd
      go_enter Tryd.func16, Tryd.ntmps16
      go_wp2_with fail
      refine Calls.mono (HC.out _) ?_
      rintro e w1 ⟨rfl, hw1⟩
      rw [hw1]
      clear hw1
      go_wp2
      go_ret
      exact ⟨rfl, rfl⟩
theorem moved_rng {row : List Nat} {x : Int} (hx : Rng x) : Rng (movedM row x) := by
  unfold movedM
  split
  · exact mkW_rng ..
  · exact hx
theorem mv_rng {n : Nat} {τ : Nat → Nat} {x : Int} (hx : Rng x) : Rng (mvM n τ x) := by
  unfold mvM
  split
  · exact hx
  · split
    · exact mkW_rng ..
    · exact hx
theorem formed_ok {row : List Nat} {x : Cl} (hx : OkK x) : OkK (formedM row x) := by
  unfold formedM
  split
  · exact ⟨by decide, by decide, by unfold Rng; decide, by unfold Rng; decide⟩
  · exact ⟨hx.k, ⟨Int.le_refl 0, (by omega : (0 : Int) ≤ 255)⟩, moved_rng hx.a, moved_rng hx.b⟩
theorem hr_ok {w : World} {ra : Option Addr} {l : List Cl} (h : HR w ra l) : ∀ x ∈ l, OkK x := fun x hx => by
  obtain ⟨j, hj⟩ := List.getElem?_of_mem hx
  obtain ⟨b, o, _, h2⟩ := h
  exact (h2 j x hj).2.2
theorem formH_ok {h : List Cl} {r : St} (hk : ∀ x ∈ h, OkK x) : ∀ x ∈ formH h r, OkK x := fun x hx => by
  unfold formH at hx
  obtain ⟨p, _, rfl⟩ := List.mem_map.1 hx
  refine formed_ok ?_
  rw [List.getD_eq_getElem?_getD]
  cases hc : h[p.1]? with
  | none => exact ⟨by decide, by decide, by unfold Rng; decide, by unfold Rng; decide⟩
  | some x => exact hk x (List.mem_of_getElem? hc)
/-- Form's heap and roots of a heap and its roots. -/
def fH (h : List Cl) (l : List Int) : List Cl := formH h (walkM h false l)
def fR (h : List Cl) (l : List Int) : List Int := l.map (movedM ((walkM h false l).map (·.1)))
theorem fH_len (h : List Cl) (l : List Int) : (fH h l).length = (walkM h false l).length := by unfold fH formH; simp
theorem fR_len (h : List Cl) (l : List Int) : (fR h l).length = l.length := by unfold fR; simp
theorem dr_hx {w : World} {t g n : Nat} {l : List Cl} (hd : DR w t g n (fun k u => (clCells l)[k]? = some u)) (hn : l.length * 4 = n) : HX w (some ⟨g, 0, none⟩) l := by
  refine ⟨g, 0, .inr rfl, fun j x hx => ⟨hd.lt, ?_⟩⟩
  obtain ⟨h0, h1, h2, h3⟩ := clCells_at l j x hx
  simp only [Nat.zero_add]
  have e := fun q (v : Value) (hq : (clCells l)[q]? = some v) => show w.cell? ⟨g, q, none⟩ = some v by
    obtain ⟨u, hu, hu2⟩ := hd.cell (j := q) (by have := (List.getElem?_eq_some_iff.1 hq).1; rw [clCells_len] at this; omega)
    rw [hu]; rw [hq] at hu2; exact hu2.symm
  exact ⟨e _ _ h0, e _ _ h1, e _ _ h2, e _ _ h3⟩
theorem form_ok (h : List Cl) (l : List Int) (ra rb : Option Addr) (ca cb : Nat) (w : World) (hH : HR w ra h) (hR : WR w rb l) (hT : Tab w) (hn : h.length ≤ 1000000) (hl : l.length ≤ 1000000) (hB : heapB h l = true) :
    Calls Tryd.prog 12 #[.slice ra h.length ca, .slice rb l.length cb] w fun e w' => (∃ g1 g2, e = .returned (.tuple #[.slice (some ⟨g1, 0, none⟩) (fH h l).length (fH h l).length, .slice (some ⟨g2, 0, none⟩) (fR h l).length (fR h l).length, .int .i64 0]) ∧ HR w' (some ⟨g1, 0, none⟩) (fH h l) ∧ WR w' (some ⟨g2, 0, none⟩) (fR h l)) ∧ Below w.heap.size w w' := by
  refine (form_any h l ra rb ca cb w hH hR hT hn hl).mono ?_
  rintro e w' ⟨hr, hb⟩
  refine ⟨?_, hb⟩
  rcases hr with ⟨h1, _⟩ | ⟨_, g1, g2, _, rfl, hd1, hd2⟩
  · rw [hB] at h1; cases h1
  · rw [fH_len, fR_len]
    refine ⟨g1, g2, rfl, (dr_hx hd1 (by rw [← fH_len]; rfl)).hr (formH_ok (hr_ok hH)), ?_⟩
    refine ⟨g2, 0, .inr rfl, fun j x hx => ?_⟩
    have hj := (List.getElem?_eq_some_iff.1 hx).1
    rw [fR_len] at hj
    unfold fR at hx
    rw [List.getElem?_map] at hx
    obtain ⟨y, hy, rfl⟩ := Option.map_eq_some_iff.1 hx
    obtain ⟨u, hu, hu2⟩ := hd2.cell hj
    refine ⟨hd2.lt, ?_, moved_rng (wr_rng hR y (List.mem_of_getElem? hy))⟩
    rw [Nat.zero_add, hu, hu2 y hy]
theorem form_bad (h : List Cl) (l : List Int) (ra rb : Option Addr) (ca cb : Nat) (w : World) (hH : HR w ra h) (hR : WR w rb l) (hT : Tab w) (hn : h.length ≤ 1000000) (hl : l.length ≤ 1000000) (hB : heapB h l = false) :
    Calls Tryd.prog 12 #[.slice ra h.length ca, .slice rb l.length cb] w fun e w' => e = .returned (.tuple #[.slice none 0 0, .slice none 0 0, .int .i64 100]) ∧ Below w.heap.size w w' := by
  refine (form_any h l ra rb ca cb w hH hR hT hn hl).mono ?_
  rintro e w' ⟨hr, hb⟩
  refine ⟨?_, hb⟩
  rcases hr with ⟨_, h1⟩ | ⟨h1, _⟩
  · exact h1
  · rw [hB] at h1; cases h1
/-- Cells that change places: who stands where, and back. -/
structure Perm (n : Nat) (τ ρ : Nat → Nat) : Prop where
  lt : ∀ k, k < n → τ k < n
  lt' : ∀ k, k < n → ρ k < n
  back : ∀ k, k < n → ρ (τ k) = k
  there : ∀ k, k < n → τ (ρ k) = k
def sw (a b k : Nat) : Nat := if k = a then b else if k = b then a else k
theorem sw_sw (a b k : Nat) : sw a b (sw a b k) = k := by
  unfold sw
  by_cases h1 : k = a
  · subst h1; simp only [ite_true]; split <;> omega
  · simp only [if_neg h1]
    by_cases h2 : k = b
    · subst h2; simp
    · simp only [if_neg h2, if_neg h1]
theorem sw_lt {a b k n : Nat} (ha : a < n) (hb : b < n) (hk : k < n) : sw a b k < n := by
  unfold sw; split
  · exact hb
  · split <;> assumption
theorem Perm.id (n : Nat) : Perm n (fun k => k) (fun k => k) := ⟨fun _ h => h, fun _ h => h, fun _ _ => rfl, fun _ _ => rfl⟩
theorem Perm.swap {n : Nat} {τ ρ : Nat → Nat} (h : Perm n τ ρ) {a b : Nat} (ha : a < n) (hb : b < n) : Perm n (fun k => τ (sw a b k)) (fun k => sw a b (ρ k)) :=
  ⟨fun _ hk => h.lt _ (sw_lt ha hb hk), fun _ hk => sw_lt ha hb (h.lt' _ hk), fun k hk => by rw [h.back _ (sw_lt ha hb hk), sw_sw], fun k hk => by rw [sw_sw, h.there _ hk]⟩
/-- The i-th cell as it stands in the other heap. -/
def othAt (h : List Cl) (τ : Nat → Nat) (i : Nat) : Cl := match h[i]? with
  | some x => ⟨x.k, (i % 3 : Nat), mvM (h.length + 1) τ x.a, mvM (h.length + 1) τ x.b⟩
  | none => ⟨1, 0, 8, mkW 8 (h.length : Nat)⟩
def othH (h : List Cl) (τ ρ : Nat → Nat) : List Cl := (List.range (h.length + 1)).map (fun m => othAt h τ (ρ m))
def othR (h : List Cl) (τ : Nat → Nat) (l : List Int) : List Int := l.map (mvM (h.length + 1) τ)
theorem oth_len (h : List Cl) (τ ρ : Nat → Nat) : (othH h τ ρ).length = h.length + 1 := by unfold othH; simp
theorem oth_get {h : List Cl} {τ ρ : Nat → Nat} (hp : Perm (h.length + 1) τ ρ) {i : Nat} (hi : i < h.length + 1) : (othH h τ ρ)[τ i]? = some (othAt h τ i) := by
  unfold othH
  rw [List.getElem?_map, List.getElem?_range (hp.lt i hi)]
  show some (othAt h τ (ρ (τ i))) = _
  rw [hp.back i hi]
theorem mv_mv {n : Nat} {τ : Nat → Nat} (hn : n ≤ 1000000) (ht : ∀ k, k < n + 1 → τ k < n + 1) {x : Int} (hx : ∀ d, refN x = some d → d < n) : Mv τ x (mvM (n + 1) τ x) := by
  unfold Mv mvM
  cases hc : refN x with
  | none => exact ⟨hc, fun _ => rfl⟩
  | some c =>
    have h1 := hx c hc
    have h2 := ht c (by omega)
    show refN (if c < n + 1 then mkW 8 (τ c : Nat) else x) = some (τ c) ∧ _
    rw [if_pos (by omega)]
    exact ⟨refN_mk (by omega), fun h => by cases h⟩
theorem mv_fits {n : Nat} {τ : Nat → Nat} (hn : n ≤ 1000000) (ht : ∀ k, k < n + 1 → τ k < n + 1) {x : Int} (hx : fitsW n x = true) : fitsW (n + 1) (mvM (n + 1) τ x) = true := by
  cases hc : refN x with
  | none =>
    have : mvM (n + 1) τ x = x := by unfold mvM; rw [hc]
    rw [this]
    unfold fitsW at hx ⊢
    rw [hc] at hx ⊢; exact hx
  | some c =>
    have h1 := ref_fits hx hc
    have h2 := ht c (by omega)
    have : mvM (n + 1) τ x = mkW 8 (τ c : Nat) := by unfold mvM; rw [hc]; exact if_pos (by omega)
    rw [this]
    exact fits_mk8 (by omega) h2
/-- The other heap has the same Form. -/
theorem oth_iso {h : List Cl} {l : List Int} {τ ρ : Nat → Nat} (hp : Perm (h.length + 1) τ ρ) (hn : h.length ≤ 1000000) (hh : heapB h l = true) :
    heapB (othH h τ ρ) (othR h τ l) = true ∧ fH (othH h τ ρ) (othR h τ l) = fH h l ∧ fR (othH h τ ρ) (othR h τ l) = fR h l := by
  obtain ⟨h1, h2⟩ := heap_ok hh
  have hB : heapB (othH h τ ρ) (othR h τ l) = true := by
    refine heapB_of (fun x hx => ?_) (fun x hx => ?_)
    · rw [oth_len]
      unfold othH at hx
      obtain ⟨m, _, rfl⟩ := List.mem_map.1 hx
      unfold othAt
      split
      · rename_i x hx
        have hk := okCl_parts (h1 _ (List.mem_of_getElem? hx))
        refine okCl_of ⟨⟨hk.1.1, by show ((ρ m % 3 : Nat) : Int) ≤ 2; omega⟩, ?_⟩
        rcases hk.2 with h0 | ⟨f1, f2⟩
        · exact .inl h0
        · exact .inr ⟨mv_fits hn hp.lt f1, mv_fits hn hp.lt f2⟩
      · exact okCl_of ⟨⟨by show (1 : Int) ≤ 3; omega, by show (0 : Int) ≤ 2; omega⟩, .inr ⟨fits_mk8 (n := 0) (by omega) (by omega), fits_mk8 (by omega) (by omega)⟩⟩
    · rw [oth_len]
      unfold othR at hx
      obtain ⟨z, hz, rfl⟩ := List.mem_map.1 hx
      exact mv_fits hn hp.lt (h2 z hz)
  have hi : Iso h (othH h τ ρ) l (othR h τ l) τ (fun c => c < h.length) := by
    refine ⟨fun c d hc hd e => ?_, fun c hc => ?_, by unfold othR; simp, fun j x hx => ?_⟩
    · have := hp.back c (by omega)
      rw [e, hp.back d (by omega)] at this
      exact this.symm
    · have hx := List.getElem?_eq_getElem hc
      refine ⟨_, _, hx, oth_get hp (by omega), ?_, fun hk => ?_⟩
      · unfold othAt; rw [hx]
      · obtain ⟨f1, f2⟩ := (okCl_parts (h1 _ (List.mem_of_getElem? hx))).2.resolve_left hk
        have e : othAt h τ c = ⟨h[c].k, (c % 3 : Nat), mvM (h.length + 1) τ h[c].a, mvM (h.length + 1) τ h[c].b⟩ := by unfold othAt; rw [hx]
        rw [e]
        exact ⟨⟨mv_mv hn hp.lt (fun d hd => ref_fits f1 hd), mv_mv hn hp.lt (fun d hd => ref_fits f2 hd)⟩, fun d hd => ref_fits f1 hd, fun d hd => ref_fits f2 hd⟩
    · have hf := h2 x (List.mem_of_getElem? hx)
      exact ⟨_, by unfold othR; rw [List.getElem?_map, hx]; rfl, mv_mv hn hp.lt (fun d hd => ref_fits hf hd), fun d hd => ref_fits hf hd⟩
  have hw := hi.walk hh hB
  exact ⟨hB, hi.form hw, hi.rootsF hw⟩
theorem oth_ok {h : List Cl} {τ ρ : Nat → Nat} (hk : ∀ x ∈ h, OkK x) : ∀ x ∈ othH h τ ρ, OkK x := fun x hx => by
  unfold othH at hx
  obtain ⟨m, _, rfl⟩ := List.mem_map.1 hx
  unfold othAt
  split
  · rename_i x hx
    have := hk x (List.mem_of_getElem? hx)
    exact ⟨this.k, ⟨by show (0 : Int) ≤ ((ρ m % 3 : Nat) : Int); omega, by show ((ρ m % 3 : Nat) : Int) ≤ 255; omega⟩, mv_rng this.a, mv_rng this.b⟩
  · exact ⟨⟨(by omega : (0 : Int) ≤ 1), (by omega : (1 : Int) ≤ 255)⟩, ⟨Int.le_refl 0, (by omega : (0 : Int) ≤ 255)⟩, ⟨(by omega : (0 : Int) ≤ 8), (by omega : (8 : Int) ≤ 18446744073709551615)⟩, mkW_rng 8 (h.length : Nat)⟩
end Go.Proofs.YteekfahpbnbalaaDoor
