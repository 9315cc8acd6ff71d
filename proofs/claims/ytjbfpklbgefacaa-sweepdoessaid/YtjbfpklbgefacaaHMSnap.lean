/- Snapshot. -/
import Derived.Test.YtjbfpklbgefacaaHMNew
import Derived.BigRegion
namespace Go.Proofs.Ytjbfpklbgefacaa
open Go.RowKit

theorem infoK : (Try.prog.info? 39).map (fun i => (i.zero, i.size, i.bytes)) = some (some (.agg #[.int .u8 0, .int .u8 0, .int .u64 0, .int .u64 0]), 4, 24) := by kernel_rfl
def clCells : List Cl → List Value
  | [] => []
  | x :: l => .int .u8 x.k :: .int .u8 x.c :: .int .u64 x.a :: .int .u64 x.b :: clCells l
theorem clCells_at : ∀ (l : List Cl) (j : Nat) (x : Cl), l[j]? = some x → (clCells l)[j * 4]? = some (.int .u8 x.k) ∧ (clCells l)[j * 4 + 1]? = some (.int .u8 x.c) ∧ (clCells l)[j * 4 + 1 + 1]? = some (.int .u64 x.a) ∧ (clCells l)[j * 4 + 1 + 1 + 1]? = some (.int .u64 x.b)
  | [], _, _, h => by simp at h
  | y :: l, 0, x, h => by simp at h; subst h; exact ⟨rfl, rfl, rfl, rfl⟩
  | y :: l, j + 1, x, h => by
    have := clCells_at l j x (by simpa using h)
    rw [show (j + 1) * 4 = j * 4 + 1 + 1 + 1 + 1 by omega]
    exact this
theorem clCells_len : ∀ l : List Cl, (clCells l).length = l.length * 4
  | [] => rfl
  | x :: l => by simp only [clCells, List.length_cons, clCells_len l]; omega
/-- A row of cells that is being laid. -/
def KR (w : World) (g : Nat) (h : List Cl) (j : Nat) : Prop := DR w 39 g (h.length * 4) (fun k u => k < j * 4 → (clCells h)[k]? = some u)
theorem KR.next {W : World} {g j : Nat} {h : List Cl} {x : Cl} (hd : KR W g h j) (hx : h[j]? = some x) : KR ((((W.setCell ⟨g, j * 4, none⟩ (.int .u8 x.k)).setCell ⟨g, j * 4 + 1, none⟩ (.int .u8 x.c)).setCell ⟨g, j * 4 + 1 + 1, none⟩ (.int .u64 x.a)).setCell ⟨g, j * 4 + 1 + 1 + 1, none⟩ (.int .u64 x.b)) g h (j + 1) := by
  obtain ⟨a0, a1, a2, a3⟩ := clCells_at h j x hx
  have e1 := hd.set (j := j * 4) (P' := fun k u => k < j * 4 + 1 → (clCells h)[k]? = some u) (fun k u hk h hl => h (by omega)) (fun _ => a0)
  have e2 := e1.set (j := j * 4 + 1) (P' := fun k u => k < j * 4 + 1 + 1 → (clCells h)[k]? = some u) (fun k u hk h hl => h (by omega)) (fun _ => a1)
  have e3 := e2.set (j := j * 4 + 1 + 1) (P' := fun k u => k < j * 4 + 1 + 1 + 1 → (clCells h)[k]? = some u) (fun k u hk h hl => h (by omega)) (fun _ => a2)
  exact e3.set (j := j * 4 + 1 + 1 + 1) (P' := fun k u => k < (j + 1) * 4 → (clCells h)[k]? = some u) (fun k u hk h hl => h (by omega)) (fun _ => a3)
def SnR (h : List Cl) (w : World) (e : Ending) (w' : World) : Prop := ∃ g : Nat, e = .returned (.slice (some ⟨g, 0, none⟩) h.length h.length) ∧ KR w' g h h.length ∧ Below w.heap.size w w' ∧ w.heap.size ≤ g
theorem KR.hr {w : World} {g : Nat} {h : List Cl} (H : KR w g h h.length) (hok : ∀ x ∈ h, OkK x) : HR w (some ⟨g, 0, none⟩) h := by
  refine ⟨g, 0, .inr rfl, fun j x hx => ⟨H.lt, ?_, hok x (List.mem_of_getElem? hx)⟩⟩
  have hj : j < h.length := (List.getElem?_eq_some_iff.1 hx).1
  obtain ⟨a0, a1, a2, a3⟩ := clCells_at h j x hx
  have F : ∀ k v, k < h.length * 4 → (clCells h)[k]? = some v → w.cell? ⟨g, k, none⟩ = some v := fun k v hk hv => by
    obtain ⟨u, u1, u2⟩ := H.cell hk
    have := u2 hk
    rw [hv] at this
    cases this
    exact u1
  rw [Nat.zero_add]
  exact ⟨F _ _ (by omega) a0, F _ _ (by omega) a1, F _ _ (by omega) a2, F _ _ (by omega) a3⟩
structure SnI (w0 w : World) (hb ab g : Nat) (h : List Cl) (j : Nat) : Prop where
  b : Below w0.heap.size w0 w
  r : KR w g h j
  g : w0.heap.size ≤ g
set_option maxRecDepth 100000 in
set_option maxHeartbeats 16000000 in
theorem snapshot_any {hb ab : Nat} {h : List Cl} {w : World} (H : CH w hb ab h) : Calls Try.prog 14 #[.pointer (some ⟨hb, 0, none⟩)] w fun e w' => SnR h w e w' := by
  have hlen := H.len
  obtain ⟨i0, hi0, hz0, hz1, hz2⟩ := info_parts infoK
  obtain ⟨w2, hrun, hown, hgr⟩ := run_make_full (P := Try.prog) w w.heap.size 23 39 i0 (.agg #[.int .u8 0, .int .u8 0, .int .u64 0, .int .u64 0]) 4 Try.underlying23 hi0 hz0 hz1 .i64 .i64 h.length (by rw [hz2]; omega) (by unfold maxLen; omega) (Nat.le_refl _)
  obtain ⟨cs, r1, r2, _⟩ := own_out hown
  have b2 : Below w.heap.size w w2 := grown_low hgr (fun g hg => by cases hg) (Nat.le_refl _)
  have HN : Hid (SnI w w2 hb ab w.heap.size h 0) := ⟨b2, ⟨cs, r1, r2, fun k u _ hk => absurd hk (by omega)⟩, Nat.le_refl _⟩
  have HH : Hid (CH w hb ab h) := H
  have v0 : w.cell? ⟨hb, 0, none⟩ = some (.slice (some ⟨ab, 0, none⟩) h.length h.length) := heap_cell H.v rfl
  have v2 : w2.cell? ⟨hb, 0, none⟩ = some (.slice (some ⟨ab, 0, none⟩) h.length h.length) := (b2.cell (p := ⟨hb, 0, none⟩) H.lt.1).trans v0
  clear hown hgr r1 r2 b2 hi0 hz0 hz1 hz2 H
  go_enter Try.func14, Try.ntmps14
  go_wp2_with fail
  clear v0 v2 hrun
  go_loopw [17, 4, 5] (fun i _ _ wr => ∃ j : Nat, i = .int .i64 j ∧ j ≤ h.length ∧ Hid (SnI w wr hb ab w.heap.size h j)) (fun i _ _ _ => h.length - (intOf i).toNat)
  case atStart => exact ⟨0, rfl, Nat.zero_le _, HN⟩
  case round =>
    clear HN
    obtain ⟨j, rfl, hj, HI⟩ := hrel
    by_cases hjl : j < h.length
    · have k1 : (j : Int) < (h.length : Int) := by omega
      obtain ⟨x, hx⟩ : ∃ x, h[j]? = some x := ⟨_, List.getElem?_eq_getElem hjl⟩
      have Hr := HH.out.below HI.out.b
      obtain ⟨a1, a2, q, a3, a4⟩ := Hr.at hx
      have HL : Hid (Calls Try.prog 29 #[.pointer (some ⟨ab, j, none⟩)] wr fun e w' => e = .returned (.pointer (some ⟨q, 0, none⟩)) ∧ w' = wr) := pload_any a3 a4
      obtain ⟨d0, d1, d2, d3⟩ := a4.cell
      have lq := a4.lt
      have lg := HI.out.r.lt
      obtain ⟨u0, m0, _⟩ := HI.out.r.cell (j := j * 4) (by omega)
      obtain ⟨u1, m1, _⟩ := HI.out.r.cell (j := j * 4 + 1) (by omega)
      obtain ⟨u2, m2, _⟩ := HI.out.r.cell (j := j * 4 + 1 + 1) (by omega)
      obtain ⟨u3, m3, _⟩ := HI.out.r.cell (j := j * 4 + 1 + 1 + 1) (by omega)
      have mf := HI.out.r.fz
      have HE : Hid (SnI w ((((wr.setCell ⟨w.heap.size, j * 4, none⟩ (.int .u8 x.k)).setCell ⟨w.heap.size, j * 4 + 1, none⟩ (.int .u8 x.c)).setCell ⟨w.heap.size, j * 4 + 1 + 1, none⟩ (.int .u64 x.a)).setCell ⟨w.heap.size, j * 4 + 1 + 1 + 1, none⟩ (.int .u64 x.b)) hb ab w.heap.size h (j + 1)) :=
        ⟨(((HI.out.b.setCell (p := ⟨w.heap.size, j * 4, none⟩) (Nat.le_refl _) _).setCell (p := ⟨w.heap.size, j * 4 + 1, none⟩) (Nat.le_refl _) _).setCell (p := ⟨w.heap.size, j * 4 + 1 + 1, none⟩) (Nat.le_refl _) _).setCell (p := ⟨w.heap.size, j * 4 + 1 + 1 + 1, none⟩) (Nat.le_refl _) _, HI.out.r.next hx, Nat.le_refl _⟩
      clear Hr a2 a3 a4 hx
      go_wp2_with fail
      refine Calls.mono HL.out ?_
      rintro e w' ⟨rfl, hw'⟩
      rw [hw']
      clear hw'
      go_wp2_with fail
      go_region
      go_wp2_with fail
      refine ⟨⟨j + 1, by go_num, by omega, ?_⟩, by simp [intOf]; omega⟩
      exact ⟨HE.out.b.drew, HE.out.r, HE.out.g⟩
    · have e : j = h.length := by omega
      subst e
      have k1 : ¬ ((h.length : Int) < (h.length : Int)) := by omega
      go_wp2_with fail
      go_ret
      exact ⟨_, rfl, HI.out.r, HI.out.b, HI.out.g⟩
end Go.Proofs.Ytjbfpklbgefacaa
