/- The document's heap of cells, in memory; is, used, field. -/
import Derived.Test.YtiglmffnhbegiaaDoorHMWorksW
namespace Go.Proofs.YtiglmffnhbegiaaDoor
open Go.RowKit

/-- A row of values. -/
def VR (w : World) (t g : Nat) (vs : List Value) : Prop := DR w t g vs.length (fun k u => vs[k]? = some u)
theorem VR.set {w : World} {t g m : Nat} {vs : List Value} (h : VR w t g vs) (hm : m < vs.length) (u : Value) : VR (w.setCell ⟨g, m, none⟩ u) t g (vs.set m u) := by
  unfold VR
  rw [List.length_set]
  refine DR.set h (fun k v hk hv => ?_) ?_
  · rw [List.getElem?_set_ne (fun e => hk e.symm)]; exact hv
  · rw [List.getElem?_set_self hm]
theorem VR.cell {w : World} {t g k : Nat} {vs : List Value} {u : Value} (h : VR w t g vs) (hk : vs[k]? = some u) : w.cell? ⟨g, k, none⟩ = some u := by
  obtain ⟨v, h1, h2⟩ := DR.cell h (List.getElem?_eq_some_iff.1 hk).1
  rw [hk] at h2
  cases h2
  exact h1
theorem cl_set4 : ∀ (h : List Cl) (k : Nat) (y : Cl), k < h.length → clCells (h.set k y) = ((((clCells h).set (k * 4) (.int .u8 y.k)).set (k * 4 + 1) (.int .u8 y.c)).set (k * 4 + 1 + 1) (.int .u64 y.a)).set (k * 4 + 1 + 1 + 1) (.int .u64 y.b)
  | [], _, _, h => by simp at h
  | x :: l, 0, y, _ => rfl
  | x :: l, k + 1, y, h => by
    rw [show (k + 1) * 4 = k * 4 + 1 + 1 + 1 + 1 by omega]
    simp only [List.set_cons_succ, clCells]
    rw [cl_set4 l k y (by simpa using h)]
theorem cl_setC : ∀ (h : List Cl) (k : Nat) (x : Cl) (c : Int), h[k]? = some x → clCells (h.set k ⟨x.k, c, x.a, x.b⟩) = (clCells h).set (k * 4 + 1) (.int .u8 c)
  | [], _, _, _, h => by simp at h
  | x :: l, 0, y, c, h => by simp at h; subst h; rfl
  | x :: l, k + 1, y, c, h => by
    rw [show (k + 1) * 4 = k * 4 + 1 + 1 + 1 + 1 by omega]
    simp only [List.set_cons_succ, clCells]
    rw [cl_setC l k y c (by simpa using h)]
theorem cl_setA : ∀ (h : List Cl) (k : Nat) (x : Cl) (a : Int), h[k]? = some x → clCells (h.set k ⟨x.k, x.c, a, x.b⟩) = (clCells h).set (k * 4 + 1 + 1) (.int .u64 a)
  | [], _, _, _, h => by simp at h
  | x :: l, 0, y, c, h => by simp at h; subst h; rfl
  | x :: l, k + 1, y, c, h => by
    rw [show (k + 1) * 4 = k * 4 + 1 + 1 + 1 + 1 by omega]
    simp only [List.set_cons_succ, clCells]
    rw [cl_setA l k y c (by simpa using h)]
/-- How the document's heap lies. -/
structure RH (w : World) (rb g : Nat) (h : List Cl) : Prop where
  v : w.heap[rb]? = some (.cells #[.slice (some ⟨g, 0, none⟩) h.length h.length] 103 (0, 0))
  r : VR w 86 g (clCells h)
  ok : ∀ x ∈ h, OkK x
  len : h.length ≤ 4096
def RhR (rb g : Nat) (h : List Cl) (w w' : World) : Prop := RH w' rb g h ∧ Fr (fun k => k ≠ g) w w'
theorem RH.ne {w : World} {rb g : Nat} {h : List Cl} (H : RH w rb g h) : rb ≠ g := by
  obtain ⟨cs, r1, _⟩ := H.r
  exact ty_ne H.v r1 (by decide)
theorem RH.kept {w w' : World} {rb g : Nat} {h : List Cl} (H : RH w rb g h) (h1 : w'.heap[rb]? = w.heap[rb]?) (h2 : w'.heap[g]? = w.heap[g]?) : RH w' rb g h := ⟨h1.trans H.v, DR.kept H.r h2, H.ok, H.len⟩
theorem RH.lt {w : World} {rb g : Nat} {h : List Cl} (H : RH w rb g h) : rb < w.heap.size ∧ g < w.heap.size := ⟨heap_lt H.v, DR.lt H.r⟩
theorem RH.at {w : World} {rb g k : Nat} {h : List Cl} {x : Cl} (H : RH w rb g h) (hx : h[k]? = some x) : w.cell? ⟨rb, 0, none⟩ = some (.slice (some ⟨g, 0, none⟩) h.length h.length) ∧ (w.cell? ⟨g, k * 4, none⟩ = some (.int .u8 x.k) ∧ w.cell? ⟨g, k * 4 + 1, none⟩ = some (.int .u8 x.c) ∧ w.cell? ⟨g, k * 4 + 1 + 1, none⟩ = some (.int .u64 x.a) ∧ w.cell? ⟨g, k * 4 + 1 + 1 + 1, none⟩ = some (.int .u64 x.b)) ∧ ∀ j, w.frozen? ⟨g, j, none⟩ = false := by
  obtain ⟨a0, a1, a2, a3⟩ := clCells_at h k x hx
  exact ⟨heap_cell H.v rfl, ⟨H.r.cell a0, H.r.cell a1, H.r.cell a2, H.r.cell a3⟩, DR.fz H.r⟩
theorem RH.put {w W : World} {rb g : Nat} {h h' : List Cl} (H : RH w rb g h) (hr : VR W 86 g (clCells h')) (hF : Fr (fun k => k ≠ g) w W) (hl : h'.length = h.length) (ho : ∀ x ∈ h', OkK x) : RhR rb g h' w W :=
  ⟨⟨by rw [hF.2 _ H.ne H.lt.1, hl]; exact H.v, hr, ho, hl ▸ H.len⟩, hF⟩
theorem ok_set {h : List Cl} {k : Nat} {y : Cl} (ho : ∀ x ∈ h, OkK x) (hy : OkK y) : ∀ x ∈ h.set k y, OkK x := fun x hx => by
  rcases List.mem_or_eq_of_mem_set hx with h1 | h1
  · exact ho x h1
  · exact h1 ▸ hy
theorem fr_one {g k : Nat} {w : World} {v : Value} : Fr (fun j => j ≠ g) w (w.setCell ⟨g, k, none⟩ v) := ⟨(Below.refl 0 w).setCell (p := ⟨g, k, none⟩) (Nat.zero_le _) _, fun _ hj _ => Below.heap_setCell _ _ _ _ hj⟩
theorem RH.setC {w : World} {rb g k : Nat} {h : List Cl} {x : Cl} (H : RH w rb g h) (hx : h[k]? = some x) {c : Int} (hc : 0 ≤ c ∧ c ≤ 255) : RhR rb g (h.set k ⟨x.k, c, x.a, x.b⟩) w (w.setCell ⟨g, k * 4 + 1, none⟩ (.int .u8 c)) := by
  have hk : k < h.length := (List.getElem?_eq_some_iff.1 hx).1
  have hx0 := H.ok x (List.mem_of_getElem? hx)
  refine H.put ?_ fr_one (by simp) (ok_set H.ok ⟨hx0.k, hc, hx0.a, hx0.b⟩)
  rw [cl_setC h k x c hx]
  exact H.r.set (by rw [clCells_len]; omega) _
theorem RH.setA {w : World} {rb g k : Nat} {h : List Cl} {x : Cl} (H : RH w rb g h) (hx : h[k]? = some x) {a : Int} (ha : Rng a) : RhR rb g (h.set k ⟨x.k, x.c, a, x.b⟩) w (w.setCell ⟨g, k * 4 + 1 + 1, none⟩ (.int .u64 a)) := by
  have hk : k < h.length := (List.getElem?_eq_some_iff.1 hx).1
  have hx0 := H.ok x (List.mem_of_getElem? hx)
  refine H.put ?_ fr_one (by simp) (ok_set H.ok ⟨hx0.k, hx0.c, ha, hx0.b⟩)
  rw [cl_setA h k x a hx]
  exact H.r.set (by rw [clCells_len]; omega) _
theorem RH.set4 {w : World} {rb g k : Nat} {h : List Cl} {y : Cl} (H : RH w rb g h) (hk : k < h.length) (hy : OkK y) : RhR rb g (h.set k y) w ((((w.setCell ⟨g, k * 4, none⟩ (.int .u8 y.k)).setCell ⟨g, k * 4 + 1, none⟩ (.int .u8 y.c)).setCell ⟨g, k * 4 + 1 + 1, none⟩ (.int .u64 y.a)).setCell ⟨g, k * 4 + 1 + 1 + 1, none⟩ (.int .u64 y.b)) := by
  refine H.put ?_ (((fr_one.trans fr_one).trans fr_one).trans fr_one) (by simp) (ok_set H.ok hy)
  rw [cl_set4 h k y hk]
  have hl := clCells_len h
  exact (((H.r.set (by omega) _).set (by simp; omega) _).set (by simp; omega) _).set (by simp; omega) _
set_option maxRecDepth 100000 in
set_option maxHeartbeats 4000000 in
theorem ris_any {rb g : Nat} {h : List Cl} (i : Int) (w : World) (H : RH w rb g h) : Calls Tryd.prog 76 #[.pointer (some ⟨rb, 0, none⟩), .int .i64 i] w fun e w' => e = .returned (.bool (inB h.length i)) ∧ w' = w := by
  have c1 : w.cell? ⟨rb, 0, none⟩ = some (.slice (some ⟨g, 0, none⟩) h.length h.length) := heap_cell H.v rfl
  unfold inB
  clear H
  by_cases h1 : 0 ≤ i
  · have z1 : decide (0 ≤ i) = true := by simpa using h1
    have z2 : decide (i ≥ 0) = true := by simpa using h1
    rw [z1, Bool.true_and]
    go_enter Tryd.func76, Tryd.ntmps76
    go_wp2
    go_ret
    exact ⟨rfl, rfl⟩
  · have z1 : decide (0 ≤ i) = false := by simpa using h1
    have z2 : decide (i ≥ 0) = false := by simpa using h1
    rw [z1, Bool.false_and]
    go_enter Tryd.func76, Tryd.ntmps76
    go_wp2
    go_ret
    exact ⟨rfl, rfl⟩
def usedV (h : List Cl) (i : Int) : Bool := match getC h i with
  | some x => x.k != 0
  | none => false
set_option maxRecDepth 100000 in
set_option maxHeartbeats 4000000 in
theorem rused_any {rb g : Nat} {h : List Cl} (i : Int) (w : World) (H : RH w rb g h) : Calls Tryd.prog 85 #[.pointer (some ⟨rb, 0, none⟩), .int .i64 i] w fun e w' => e = .returned (.bool (usedV h i)) ∧ w' = w := by
  have HI : Hid (Calls Tryd.prog 76 #[.pointer (some ⟨rb, 0, none⟩), .int .i64 i] w fun e w' => e = .returned (.bool (inB h.length i)) ∧ w' = w) := ris_any i w H
  cases hi : inB h.length i
  · have E : Hid (usedV h i = false) := by show _ = _; unfold usedV; rw [getC_none hi]
    rw [E.out]
    rw [hi] at HI
    clear H hi E
    go_enter Tryd.func85, Tryd.ntmps85
    go_wp2_with fail
    refine Calls.mono HI.out ?_
    rintro e w' ⟨rfl, hw'⟩
    rw [hw']
    clear hw'
    go_wp2_with fail
    go_ret
    exact ⟨rfl, rfl⟩
  · obtain ⟨k, x, rfl, hx, hg, hk⟩ := getC_some hi
    have E : Hid (usedV h k = (x.k != 0)) := by show _ = _; unfold usedV; rw [hg]
    rw [E.out]
    rw [hi] at HI
    obtain ⟨a0, ⟨a1, a2, a3, a4⟩, af⟩ := H.at hx
    have i1 : (k : Int) < (h.length : Int) := by have := (List.getElem?_eq_some_iff.1 hx).1; omega
    clear H hi E hx hg
    go_enter Tryd.func85, Tryd.ntmps85
    go_wp2_with fail
    refine Calls.mono HI.out ?_
    rintro e w' ⟨rfl, hw'⟩
    rw [hw']
    clear hw'
    go_wp2_with fail
    go_ret
    exact ⟨rfl, rfl⟩
end Go.Proofs.YtiglmffnhbegiaaDoor
