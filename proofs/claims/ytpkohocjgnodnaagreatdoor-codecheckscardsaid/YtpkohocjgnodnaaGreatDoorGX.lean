/- What was lent is as it was: words, texts, instructions.; What was lent is as it was: code. -/
import Derived.Test.YtpkohocjgnodnaaGreatDoorGQ
import Derived.Test.YtpkohocjgnodnaaGreatDoorGR
import Derived.Test.YtpkohocjgnodnaaGreatDoorGT
import Derived.Test.YtpkohocjgnodnaaGreatDoorHZCheck
/- What was lent is as it was: words, texts, instructions. -/
namespace Go.Proofs.YtpkohocjgnodnaaGreatDoor
open Go.RowKit

theorem wr_own {w : World} {B g : Nat} {l : List Int} {rb : Option Addr} {ys : List Value} {n cap : Nat} (ho : w.ownsRow B 70 1 (.slice (some ⟨g, 0, none⟩) n cap) n (wordCells l ++ ys)) (hR : WR w rb l) : WR w (some ⟨g, 0, none⟩) l := by
  obtain ⟨_, _, _, a1⟩ := hR
  refine ⟨g, 0, .inr rfl, fun j x hx => ⟨(ho.lt g rfl).2, ?_, (a1 j x hx).2.2⟩⟩
  rw [Nat.zero_add]
  exact own_at ho j _ (get_app (by unfold wordCells; rw [List.getElem?_map, hx]; rfl))
theorem xr_own {w : World} {B g : Nat} {l : List (List UInt8)} {rb : Option Addr} {ys : List Value} {n cap : Nat} (ho : w.ownsRow B 9 1 (.slice (some ⟨g, 0, none⟩) n cap) n (l.map S ++ ys)) (hR : XR w rb l) : XR w (some ⟨g, 0, none⟩) l := by
  obtain ⟨_, _, _, a1⟩ := hR
  refine ⟨g, 0, .inr rfl, fun j x hx => ⟨(ho.lt g rfl).2, ?_, (a1 j x hx).2.2⟩⟩
  rw [Nat.zero_add]
  exact own_at ho j _ (get_app (by rw [List.getElem?_map, hx]; rfl))
theorem nr_own {w : World} {B g : Nat} {l : List Ins} {rb : Option Addr} {ys : List Value} {n cap : Nat} (ho : w.ownsRow B 79 2 (.slice (some ⟨g, 0, none⟩) n cap) n (insCells l ++ ys)) (hR : NR w rb l) : NR w (some ⟨g, 0, none⟩) l := by
  obtain ⟨_, _, _, a1⟩ := hR
  refine ⟨g, 0, .inr rfl, fun j x hx => ?_⟩
  obtain ⟨i1, i2⟩ := insCells_at _ j x hx
  exact ⟨(ho.lt g rfl).2, by rw [Nat.zero_add]; exact own_at ho _ _ (get_app i1), by rw [Nat.zero_add]; exact own_at ho _ _ (get_app i2), (a1 j x hx).2.2.2⟩
theorem last_at {l m : List Value} {n : Nat} (h : l.length = n) (k : Nat) : (l ++ m)[n + k]? = m[k]? := by
  rw [List.getElem?_append_right (by omega)]
  congr 1
  omega
set_option maxRecDepth 100000 in
set_option maxHeartbeats 8000000 in
theorem wholeW_any (l : List Int) (g B : Nat) (rb : Option Addr) (cb : Nat) (w : World) (hl : l.length ≤ 1000000000) (h : w.ownsRow B 70 1 (.slice (some ⟨g, 0, none⟩) (l.length + 2) (l.length + 2)) (l.length + 2) (wordCells l ++ [.int .u64 77777771, .int .u64 77777772])) (hR : WR w rb l) :
    Calls Tryz.prog 35 #[.slice (some ⟨g, 0, none⟩) l.length (l.length + 2), .slice rb l.length cb] w fun e w' => e = .returned (.bool true) ∧ Below w.heap.size w w' := by
  have HS : Hid _ := sameW_any l l (some ⟨g, 0, none⟩) rb (l.length + 2) cb w (by unfold maxLen; omega) (by unfold maxLen; omega) (wr_own h hR) hR
  rw [decide_eq_true rfl] at HS
  have m0 : w.cell? ⟨g, l.length, none⟩ = some (.int .u64 77777771) := own_at h _ _ (last_at (k := 0) (by simp [wordCells]))
  have m1 : w.cell? ⟨g, l.length + 1, none⟩ = some (.int .u64 77777772) := own_at h _ _ (last_at (k := 1) (by simp [wordCells]))
  have lg : g < w.heap.size := (h.lt g rfl).2
  clear h hR
  go_enter Tryz.func35, Tryz.ntmps35
  go_wp2_with fail
  refine Calls.mono HS.out ?_
  rintro e w1 ⟨rfl, hb⟩
  have HB : Hid (Below w.heap.size w w1) := hb
  clear hb HS
  go_wp2
  go_ret
  exact ⟨rfl, HB.out⟩
set_option maxRecDepth 100000 in
set_option maxHeartbeats 8000000 in
theorem wholeX_any (l : List (List UInt8)) (g B : Nat) (rb : Option Addr) (cb : Nat) (w : World) (hl : l.length ≤ 1000000000) (h : w.ownsRow B 9 1 (.slice (some ⟨g, 0, none⟩) (l.length + 2) (l.length + 2)) (l.length + 2) (l.map S ++ [S ownT, S ownT])) (hR : XR w rb l) :
    Calls Tryz.prog 36 #[.slice (some ⟨g, 0, none⟩) l.length (l.length + 2), .slice rb l.length cb] w fun e w' => e = .returned (.bool true) ∧ Below w.heap.size w w' := by
  have HS : Hid _ := sameX_any l l (some ⟨g, 0, none⟩) rb (l.length + 2) cb w (by unfold maxLen; omega) (by unfold maxLen; omega) (xr_own h hR) hR
  rw [decide_eq_true rfl] at HS
  have m0 : w.cell? ⟨g, l.length, none⟩ = some (S ownT) := own_at h _ _ (last_at (k := 0) (by simp))
  have m1 : w.cell? ⟨g, l.length + 1, none⟩ = some (S ownT) := own_at h _ _ (last_at (k := 1) (by simp))
  have lg : g < w.heap.size := (h.lt g rfl).2
  unfold ownT at m0 m1
  clear h hR
  go_enter Tryz.func36, Tryz.ntmps36
  go_wp2_with fail
  refine Calls.mono HS.out ?_
  rintro e w1 ⟨rfl, hb⟩
  have HB : Hid (Below w.heap.size w w1) := hb
  clear hb HS
  go_wp2
  go_ret
  exact ⟨rfl, HB.out⟩
set_option maxRecDepth 100000 in
set_option maxHeartbeats 8000000 in
theorem wholeN_any (l : List Ins) (g B : Nat) (rb : Option Addr) (cb : Nat) (w : World) (hl : l.length ≤ 1000000000) (h : w.ownsRow B 79 2 (.slice (some ⟨g, 0, none⟩) (l.length + 2) (l.length + 2)) (l.length + 2) (insCells l ++ insM)) (hR : NR w rb l) :
    Calls Tryz.prog 37 #[.slice (some ⟨g, 0, none⟩) l.length (l.length + 2), .slice rb l.length cb] w fun e w' => e = .returned (.bool true) ∧ Below w.heap.size w w' := by
  have HS : Hid (∀ w5, Below w.heap.size w w5 → Calls Tryz.prog 89 #[.slice (some ⟨g, 0, none⟩) l.length (l.length + 2), .slice rb l.length cb] w5 fun e w' => e = .returned (.bool true) ∧ Below w5.heap.size w5 w') := fun w5 h5 => by
    have := sameN_any l l (some ⟨g, 0, none⟩) rb (l.length + 2) cb w5 (by unfold maxLen; omega) (by unfold maxLen; omega) ((nr_own h hR).below h5) (hR.below h5)
    rwa [(sameN_iff l l).2 rfl] at this
  have m0 : w.cell? ⟨g, l.length * 2, none⟩ = some (.int .u8 0) := own_at h _ _ (last_at (k := 0) (insCells_len l))
  have m1 : w.cell? ⟨g, l.length * 2 + 1, none⟩ = some (.int .i64 (-71)) := own_at h _ _ (last_at (k := 1) (insCells_len l))
  have m2 : w.cell? ⟨g, (l.length + 1) * 2, none⟩ = some (.int .u8 0) := by rw [Nat.add_mul]; exact own_at h _ _ (last_at (k := 2) (insCells_len l))
  have m3 : w.cell? ⟨g, (l.length + 1) * 2 + 1, none⟩ = some (.int .i64 (-72)) := by rw [Nat.add_mul]; exact own_at h _ _ (last_at (k := 3) (insCells_len l))
  have lg : g < w.heap.size := (h.lt g rfl).2
  clear h hR
  go_enter Tryz.func37, Tryz.ntmps37
  go_wp2_with fail
  refine (HS.out _ (Below.refl _ _)).mono ?_
  rintro e w1 ⟨rfl, hb⟩
  have HB : Hid (Below w.heap.size w w1) := hb
  clear hb HS
  go_wp2
  go_ret
  exact ⟨rfl, HB.out⟩
end Go.Proofs.YtpkohocjgnodnaaGreatDoor

/- What was lent is as it was: code. -/
namespace Go.Proofs.YtpkohocjgnodnaaGreatDoor
open Go.RowKit

theorem own_kept {w w' : World} {base e size n : Nat} {v : Value} {xs : List Value} (h : w.ownsRow base e size v n xs) (hb : Below w.heap.size w w') : w'.ownsRow base e size v n xs := own_same h (fun g hg => hb.block g (h.lt g hg).2)
set_option maxRecDepth 100000 in
set_option maxHeartbeats 8000000 in
theorem wholeCode_any (c : Cd) (v u : Value) (B : Nat) (w : World) (h : LCd w B v c) (hu : CV w u c) (hz : c.consts.length ≤ 1000000000 ∧ c.procs.length ≤ 1000000000 ∧ c.globals.length ≤ 1000000000) (hk : ∀ p ∈ c.procs, p.code.length ≤ 1000000000) :
    Calls Tryz.prog 12 #[v, u] w fun e w' => e = .returned (.bool true) ∧ Below w.heap.size w w' := by
  obtain ⟨g1, g2, g3, vs, rfl, o1, o2, o3, hp⟩ := h
  obtain ⟨⟨s1, d1, s2, d2, s3, d3, rfl, hw, hpr, hx, _⟩, hl⟩ := hu
  obtain ⟨z1, z2, z3⟩ := hz
  have HWW : Hid (∀ w5, Below w.heap.size w w5 → Calls Tryz.prog 35 #[.slice (some ⟨g1, 0, none⟩) c.consts.length (c.consts.length + 2), .slice s1 c.consts.length d1] w5 fun e w' => e = .returned (.bool true) ∧ Below w5.heap.size w5 w') := fun w5 h5 => wholeW_any c.consts g1 B s1 d1 w5 z1 (own_kept o1 h5) (hw.below h5)
  have HWX : Hid (∀ w5, Below w.heap.size w w5 → Calls Tryz.prog 36 #[.slice (some ⟨g3, 0, none⟩) c.globals.length (c.globals.length + 2), .slice s3 c.globals.length d3] w5 fun e w' => e = .returned (.bool true) ∧ Below w5.heap.size w5 w') := fun w5 h5 => wholeX_any c.globals g3 B s3 d3 w5 z3 (own_kept o3 h5) (hx.below h5)
  have HMk : Hid (∀ w5, Below w.heap.size w w5 → w5.cell? ⟨g2, c.procs.length * 2, none⟩ = some (.int .i64 (-77)) ∧ w5.cell? ⟨g2, c.procs.length * 2 + 1, none⟩ = some (.slice none 0 0) ∧ g2 < w5.heap.size) := fun w5 h5 => by
    have q := own_kept o2 h5
    exact ⟨own_at q _ _ (last_at (k := 0) (prcCells_len _ _ hp.len)), own_at q _ _ (last_at (k := 1) (prcCells_len _ _ hp.len)), (q.lt g2 rfl).2⟩
  have HPj : Hid (∀ j x, c.procs[j]? = some x → ∃ gj rc cc b2 p2, s2 = some ⟨b2, p2, none⟩ ∧ x.code.length ≤ 1000000000 ∧ ∀ w5, Below w.heap.size w w5 → (w5.cell? ⟨g2, j * 2, none⟩ = some (.int .i64 x.params) ∧ w5.cell? ⟨g2, j * 2 + 1, none⟩ = some (.slice (some ⟨gj, 0, none⟩) x.code.length (x.code.length + 2)) ∧ g2 < w5.heap.size) ∧ (w5.cell? ⟨b2, p2 + j * 2, none⟩ = some (.int .i64 x.params) ∧ w5.cell? ⟨b2, p2 + j * 2 + 1, none⟩ = some (.slice rc x.code.length cc) ∧ b2 < w5.heap.size) ∧ Calls Tryz.prog 37 #[.slice (some ⟨gj, 0, none⟩) x.code.length (x.code.length + 2), .slice rc x.code.length cc] w5 fun e w' => e = .returned (.bool true) ∧ Below w5.heap.size w5 w') := fun j x hx => by
    have hjl := (List.getElem?_eq_some_iff.1 hx).1
    have hv : vs[j]? = some (vs[j]'(by rw [hp.len]; exact hjl)) := List.getElem?_eq_getElem _
    obtain ⟨q1, q2⟩ := prcCells_at _ _ j x _ hx hv
    obtain ⟨gj, e, ho⟩ := hp.row j x _ hx hv
    rw [e] at q2
    obtain ⟨b2, p2, e1, e2⟩ := PR.at hpr
    obtain ⟨k0, k1, ⟨rc, cc, k2, k3⟩, k4⟩ := e2 j x hx
    have hc := hk x (List.mem_of_getElem? hx)
    refine ⟨gj, rc, cc, b2, p2, e1 (by omega), hc, fun w5 h5 => ?_⟩
    have q := own_kept o2 h5
    exact ⟨⟨own_at q _ _ (get_app q1), own_at q _ _ (get_app q2), (q.lt g2 rfl).2⟩, ⟨(h5.cell (p := ⟨b2, p2 + j * 2, none⟩) k0).trans k1, (h5.cell (p := ⟨b2, p2 + j * 2 + 1, none⟩) k0).trans k2, Nat.lt_of_lt_of_le k0 h5.size⟩, wholeN_any x.code gj B rc cc w5 hc (own_kept ho h5) (k3.below h5)⟩
  have HX0 : Hid (CX w ((w.alloc (.cells #[.slice (some ⟨g1, 0, none⟩) c.consts.length (c.consts.length + 2), .slice (some ⟨g2, 0, none⟩) c.procs.length (c.procs.length + 1), .slice (some ⟨g3, 0, none⟩) c.globals.length (c.globals.length + 2)] 26)).alloc (.cells #[.slice s1 c.consts.length d1, .slice s2 c.procs.length d2, .slice s3 c.globals.length d3] 26)) w.heap.size (some ⟨g1, 0, none⟩) (some ⟨g2, 0, none⟩) (some ⟨g3, 0, none⟩) c.consts.length c.procs.length c.globals.length (c.consts.length + 2) (c.procs.length + 1) (c.globals.length + 2)) :=
    CX.below (W := w.alloc (.cells #[.slice (some ⟨g1, 0, none⟩) c.consts.length (c.consts.length + 2), .slice (some ⟨g2, 0, none⟩) c.procs.length (c.procs.length + 1), .slice (some ⟨g3, 0, none⟩) c.globals.length (c.globals.length + 2)] 26)) ⟨heap_alloc_new _ _, (Below.refl _ w).alloc (Nat.le_refl _) _⟩ ((Below.refl _ _).alloc (Nat.le_refl _) _)
  have HY0 : Hid (CX w ((w.alloc (.cells #[.slice (some ⟨g1, 0, none⟩) c.consts.length (c.consts.length + 2), .slice (some ⟨g2, 0, none⟩) c.procs.length (c.procs.length + 1), .slice (some ⟨g3, 0, none⟩) c.globals.length (c.globals.length + 2)] 26)).alloc (.cells #[.slice s1 c.consts.length d1, .slice s2 c.procs.length d2, .slice s3 c.globals.length d3] 26)) (w.heap.size + 1) s1 s2 s3 c.consts.length c.procs.length c.globals.length d1 d2 d3) := by
    refine ⟨?_, HX0.out.b⟩
    have := heap_alloc_new (w.alloc (.cells #[.slice (some ⟨g1, 0, none⟩) c.consts.length (c.consts.length + 2), .slice (some ⟨g2, 0, none⟩) c.procs.length (c.procs.length + 1), .slice (some ⟨g3, 0, none⟩) c.globals.length (c.globals.length + 2)] 26)) (.cells #[.slice s1 c.consts.length d1, .slice s2 c.procs.length d2, .slice s3 c.globals.length d3] 26)
    rwa [World.size_alloc] at this
  clear hw hpr hx o1 o2 o3 hp hl hk
  go_enter Tryz.func12, Tryz.ntmps12
  go_wp2_with fail
  refine (HWW.out _ HX0.out.b).mono ?_
  rintro e w1 ⟨rfl, hb1⟩
  have HX1 := HX0.out.below hb1
  have HY1 := HY0.out.below hb1
  clear hb1 HX0 HY0
  obtain ⟨bx, hbx⟩ : ∃ bx, bx = w.heap.size := ⟨_, rfl⟩
  rw [← hbx] at HX1 HY1 ⊢
  obtain ⟨bd, hbd⟩ : ∃ bd, bd = bx + 1 := ⟨_, rfl⟩
  rw [← hbd] at HY1 ⊢
  clear hbd
  have Hbx : Hid (bx = w.heap.size) := hbx
  clear hbx
  obtain ⟨u0, u1, u2, lu⟩ := HX1.at
  obtain ⟨y0, y1, y2, ly⟩ := HY1.at
  have HX : Hid (CX w w1 bx (some ⟨g1, 0, none⟩) (some ⟨g2, 0, none⟩) (some ⟨g3, 0, none⟩) c.consts.length c.procs.length c.globals.length (c.consts.length + 2) (c.procs.length + 1) (c.globals.length + 2)) := HX1
  have HY : Hid (CX w w1 bd s1 s2 s3 c.consts.length c.procs.length c.globals.length d1 d2 d3) := HY1
  clear HX1 HY1
  go_wp2_with fail
  refine (HWX.out _ HX.out.b).mono ?_
  rintro e w2 ⟨rfl, hb2⟩
  have HX2 : Hid (CX w w2 bx (some ⟨g1, 0, none⟩) (some ⟨g2, 0, none⟩) (some ⟨g3, 0, none⟩) c.consts.length c.procs.length c.globals.length (c.consts.length + 2) (c.procs.length + 1) (c.globals.length + 2)) := HX.out.below hb2
  have HY2 : Hid (CX w w2 bd s1 s2 s3 c.consts.length c.procs.length c.globals.length d1 d2 d3) := HY.out.below hb2
  clear hb2 HX HY u0 u1 u2 lu y0 y1 y2 ly
  obtain ⟨u0, u1, u2, lu⟩ := HX2.out.at
  obtain ⟨y0, y1, y2, ly⟩ := HY2.out.at
  obtain ⟨m0, m1, lg⟩ := HMk.out _ HX2.out.b
  go_wp2_with fail
  clear u0 u1 u2 lu y0 y1 y2 ly m0 m1 lg HMk HWW HWX
  go_loopw [6] (fun i wr => ∃ j : Nat, i = .int .i64 j ∧ j ≤ c.procs.length ∧ Hid (CX w wr bx (some ⟨g1, 0, none⟩) (some ⟨g2, 0, none⟩) (some ⟨g3, 0, none⟩) c.consts.length c.procs.length c.globals.length (c.consts.length + 2) (c.procs.length + 1) (c.globals.length + 2)) ∧ Hid (CX w wr bd s1 s2 s3 c.consts.length c.procs.length c.globals.length d1 d2 d3)) (fun i _ => c.procs.length - (intOf i).toNat)
  case atStart => exact ⟨0, rfl, Nat.zero_le _, HX2, HY2⟩
  case round =>
    clear HX2 HY2
    obtain ⟨j, rfl, hj, HX, HY⟩ := hrel
    obtain ⟨u0, u1, u2, lu⟩ := HX.out.at
    obtain ⟨y0, y1, y2, ly⟩ := HY.out.at
    by_cases hlt : j < c.procs.length
    · have i1 : (j : Int) < (c.procs.length : Int) := by omega
      have hx : c.procs[j]? = some c.procs[j] := List.getElem?_eq_getElem hlt
      generalize c.procs[j] = x at hx
      obtain ⟨gj, rc, cc, b2, p2, hs2, hc, hj5⟩ := HPj.out j x hx
      subst hs2
      obtain ⟨⟨a0, a1, la⟩, ⟨e0, e1, le⟩, _⟩ := hj5 wr HX.out.b
      have HCl : Hid (∀ w5, Below w.heap.size w w5 → Calls Tryz.prog 37 #[.slice (some ⟨gj, 0, none⟩) x.code.length (x.code.length + 2), .slice rc x.code.length cc] w5 fun e w' => e = .returned (.bool true) ∧ Below w5.heap.size w5 w') := fun w5 h5 => (hj5 w5 h5).2.2
      have HKp : Hid (∀ wx : World, Below wr.heap.size wr wx → (wx.cell? ⟨bx, 1, none⟩ = some (.slice (some ⟨g2, 0, none⟩) c.procs.length (c.procs.length + 1)) ∧ bx < wx.heap.size) ∧ (wx.cell? ⟨bd, 1, none⟩ = some (.slice (some ⟨b2, p2, none⟩) c.procs.length d2) ∧ bd < wx.heap.size) ∧ (wx.cell? ⟨g2, j * 2, none⟩ = some (.int .i64 x.params) ∧ wx.cell? ⟨g2, j * 2 + 1, none⟩ = some (.slice (some ⟨gj, 0, none⟩) x.code.length (x.code.length + 2)) ∧ g2 < wx.heap.size) ∧ (wx.cell? ⟨b2, p2 + j * 2, none⟩ = some (.int .i64 x.params) ∧ wx.cell? ⟨b2, p2 + j * 2 + 1, none⟩ = some (.slice rc x.code.length cc) ∧ b2 < wx.heap.size)) := fun wx h5 =>
        ⟨⟨(HX.out.below h5).at.2.1, (HX.out.below h5).at.2.2.2⟩, ⟨(HY.out.below h5).at.2.1, (HY.out.below h5).at.2.2.2⟩, (hj5 wx (HX.out.below h5).b).1, (hj5 wx (HX.out.below h5).b).2.1⟩
      have zp : (x.params != x.params) = false := by simp
      have hmx : Tryz.prog.follows .mixedOrders = true := by kernel_rfl
      clear hx hj5
      go_wp2_with fail
      first | go_region_held3 (fun wx : World => (wx.cell? ⟨bx, 1, none⟩ = some (.slice (some ⟨g2, 0, none⟩) c.procs.length (c.procs.length + 1)) ∧ bx < wx.heap.size) ∧ (wx.cell? ⟨bd, 1, none⟩ = some (.slice (some ⟨b2, p2, none⟩) c.procs.length d2) ∧ bd < wx.heap.size) ∧ (wx.cell? ⟨g2, j * 2, none⟩ = some (.int .i64 x.params) ∧ wx.cell? ⟨g2, j * 2 + 1, none⟩ = some (.slice (some ⟨gj, 0, none⟩) x.code.length (x.code.length + 2)) ∧ g2 < wx.heap.size) ∧ (wx.cell? ⟨b2, p2 + j * 2, none⟩ = some (.int .i64 x.params) ∧ wx.cell? ⟨b2, p2 + j * 2 + 1, none⟩ = some (.slice rc x.code.length cc) ∧ b2 < wx.heap.size)) (first | exact ⟨⟨u1, lu⟩, ⟨y1, ly⟩, ⟨a0, a1, la⟩, ⟨e0, e1, le⟩⟩ | (go_keep; done) | exact HKp.out _ ((Below.refl _ wr).drew.trans hb3))
        (first | (go_at_call 37; refine (HCl.out _ HX.out.b.drew).mono ?_; rintro e w3 ⟨rfl, hb3⟩)) | fail
      have HX3 : Hid (CX w w3 bx (some ⟨g1, 0, none⟩) (some ⟨g2, 0, none⟩) (some ⟨g3, 0, none⟩) c.consts.length c.procs.length c.globals.length (c.consts.length + 2) (c.procs.length + 1) (c.globals.length + 2)) := HX.out.below ((Below.refl _ wr).drew.trans hb3)
      have HY3 : Hid (CX w w3 bd s1 (some ⟨b2, p2, none⟩) s3 c.consts.length c.procs.length c.globals.length d1 d2 d3) := HY.out.below ((Below.refl _ wr).drew.trans hb3)
      clear hb3 HCl HKp
      go_wp2_with fail
      go_roundw
      case rel => exact ⟨j + 1, by go_num, by omega, HX3, HY3⟩
      case measure => simp [intOf]; omega
    · have i1 : ¬ (j : Int) < (c.procs.length : Int) := by omega
      go_wp2
      go_ret
      exact ⟨rfl, HX.out.b⟩
end Go.Proofs.YtpkohocjgnodnaaGreatDoor
