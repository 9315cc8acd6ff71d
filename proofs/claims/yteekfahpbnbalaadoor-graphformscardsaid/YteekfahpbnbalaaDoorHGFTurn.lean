/- A cell that has another word. -/
import Derived.Test.YteekfahpbnbalaaDoorHGFMem
namespace Go.Proofs.YteekfahpbnbalaaDoor
open Go.RowKit

theorem othR_len (h : List Cl) (τ : Nat → Nat) (l : List Int) : (othR h τ l).length = l.length := by unfold othR; simp
theorem int_no {v : Int} (hv : v = 117 ∨ v = 133) : (refN v = none ∧ wd v = true) ∧ v % 16 = 5 ∧ Rng v := by
  rcases hv with rfl | rfl
  · exact ⟨⟨by kernel_rfl, by kernel_rfl⟩, by decide, by unfold Rng; decide⟩
  · exact ⟨⟨by kernel_rfl, by kernel_rfl⟩, by decide, by unfold Rng; decide⟩
theorem int_fits {v : Int} (hv : v = 117 ∨ v = 133) (n : Nat) : fitsW n v = true := by
  have h := (int_no hv).1
  unfold fitsW
  rw [h.1, h.2]; rfl
theorem turn_ok {h : List Cl} {l : List Int} {c i : Nat} {x : Cl} {v q : Int} (hh : heapB h l = true) (hx : h[c]? = some x) (hk : x.k ≠ 0) (hv : v = 117 ∨ v = 133) (hne : x.a ≠ v) (hi : (walkM h false l)[i]? = some (c, q)) :
    heapB (h.set c ⟨x.k, x.c, v, x.b⟩) l = true ∧ fH (h.set c ⟨x.k, x.c, v, x.b⟩) l ≠ fH h l := by
  obtain ⟨h1, h2⟩ := heap_ok hh
  have hc := (List.getElem?_eq_some_iff.1 hx).1
  obtain ⟨⟨hv1, _⟩, hv3, _⟩ := int_no hv
  constructor
  · refine heapB_of (fun y hy => ?_) (fun y hy => by rw [List.length_set]; exact h2 y hy)
    rw [List.length_set]
    obtain ⟨j, hj⟩ := List.getElem?_of_mem hy
    rw [List.getElem?_set] at hj
    split at hj
    · have e : y = ⟨x.k, x.c, v, x.b⟩ := (Option.some.inj hj).symm
      have hp := okCl_parts (h1 x (List.mem_of_getElem? hx))
      rw [e]
      exact okCl_of ⟨hp.1, .inr ⟨int_fits hv _, (hp.2.resolve_left hk).2⟩⟩
    · exact h1 y (List.mem_of_getElem? hj)
  · refine form_ne (x := x) (x' := ⟨x.k, x.c, v, x.b⟩) hh (by rw [List.length_set]) (fun d hd => ?_) hx ?_ hk hk hi hv1 hne hv3
    · rw [List.getElem?_set, if_neg (fun e => hd e.symm)]
    · rw [List.getElem?_set, if_pos rfl, if_pos hc]
theorem turn_k {h : List Cl} {c : Nat} {x : Cl} {v : Int} (hk : ∀ x ∈ h, OkK x) (hx : h[c]? = some x) (hv : Rng v) : ∀ y ∈ h.set c ⟨x.k, x.c, v, x.b⟩, OkK y := fun y hy => by
  obtain ⟨j, hj⟩ := List.getElem?_of_mem hy
  rw [List.getElem?_set] at hj
  split at hj
  · have e : y = ⟨x.k, x.c, v, x.b⟩ := by
      split at hj
      · exact (Option.some.inj hj).symm
      · cases hj
    have := hk x (List.mem_of_getElem? hx)
    rw [e]; exact ⟨this.k, this.c, hv, this.b⟩
  · exact hk y (List.mem_of_getElem? hj)
theorem oth_form (h : List Cl) (l : List Int) {τ ρ : Nat → Nat} {N g cs : Nat} {rs : Option Addr} {w : World} (hN : N = h.length + 1) (hp : Perm N τ ρ) (hn : h.length ≤ 2000) (hl : l.length ≤ 1000) (hh : heapB h l = true) (hH : HR w (some ⟨g, 0, none⟩) (othH h τ ρ)) (hR : WR w rs (othR h τ l)) (hT : Tab w) :
    Calls Tryd.prog 12 #[.slice (some ⟨g, 0, none⟩) N N, .slice rs l.length cs] w fun e w' => (∃ g1 g2, e = .returned (.tuple #[.slice (some ⟨g1, 0, none⟩) (fH h l).length (fH h l).length, .slice (some ⟨g2, 0, none⟩) (fR h l).length (fR h l).length, .int .i64 0]) ∧ HR w' (some ⟨g1, 0, none⟩) (fH h l) ∧ WR w' (some ⟨g2, 0, none⟩) (fR h l)) ∧ Below w.heap.size w w' := by
  subst hN
  obtain ⟨h1, h2, h3⟩ := oth_iso hp (by omega) hh
  have := form_ok (othH h τ ρ) (othR h τ l) _ rs (h.length + 1) cs w hH hR hT (by rw [oth_len]; omega) (by rw [othR_len]; omega) h1
  rwa [oth_len, othR_len, h2, h3] at this
theorem turn_form (h : List Cl) (l : List Int) {c : Nat} {x : Cl} {v : Int} {g n cs cb : Nat} {rb : Option Addr} {w : World} (hn : h.length ≤ 2000) (hl : l.length ≤ 1000) (hh : heapB (h.set c ⟨x.k, x.c, v, x.b⟩) l = true) (hH : HR w (some ⟨g, 0, none⟩) (h.set c ⟨x.k, x.c, v, x.b⟩)) (hR : WR w rb l) (hT : Tab w) (he : n = h.length) :
    Calls Tryd.prog 12 #[.slice (some ⟨g, 0, none⟩) n cs, .slice rb l.length cb] w fun e w' => (∃ g1 g2, e = .returned (.tuple #[.slice (some ⟨g1, 0, none⟩) (fH (h.set c ⟨x.k, x.c, v, x.b⟩) l).length (fH (h.set c ⟨x.k, x.c, v, x.b⟩) l).length, .slice (some ⟨g2, 0, none⟩) (fR (h.set c ⟨x.k, x.c, v, x.b⟩) l).length (fR (h.set c ⟨x.k, x.c, v, x.b⟩) l).length, .int .i64 0]) ∧ HR w' (some ⟨g1, 0, none⟩) (fH (h.set c ⟨x.k, x.c, v, x.b⟩) l) ∧ WR w' (some ⟨g2, 0, none⟩) (fR (h.set c ⟨x.k, x.c, v, x.b⟩) l)) ∧ Below w.heap.size w w' := by
  have := form_ok (h.set c ⟨x.k, x.c, v, x.b⟩) l _ rb cs cb w hH hR hT (by rw [List.length_set]; omega) (by omega) hh
  rw [List.length_set] at this
  rw [he]; exact this
theorem order_ok2 (h : List Cl) (l : List Int) (ra rb : Option Addr) (ca cb : Nat) (w : World) (hH : HR w ra h) (hR : WR w rb l) (hT : Tab w) (hn : h.length ≤ 2000) (hl : l.length ≤ 1000) (hB : heapB h l = true) :
    Calls Tryd.prog 8 #[.slice ra h.length ca, .slice rb l.length cb] w fun e w' => (∃ rv cv, e = .returned (.tuple #[.slice rv (walkM h false l).length cv, .int .i64 0]) ∧ RX (Value.int .i64) w' rv ((walkM h false l).map (fun p => (p.1 : Int)))) ∧ Below w.heap.size w w' := by
  refine (order_any h l ra rb ca cb w hH hR hT (by omega) (by omega)).mono ?_
  rintro e w' ⟨hr, hb⟩
  refine ⟨?_, hb⟩
  rcases hr with ⟨h1, _⟩ | ⟨_, rv, cv, rfl, ho⟩
  · rw [hB] at h1; cases h1
  · exact ⟨rv, cv, rfl, own_rx (B := w.heap.size) (t := 3) (n := (walkM h false l).length) (c := cv) (l := (walkM h false l).map (fun p => (p.1 : Int))) (by rw [List.map_map]; exact ho) (by simp)⟩
end Go.Proofs.YteekfahpbnbalaaDoor
