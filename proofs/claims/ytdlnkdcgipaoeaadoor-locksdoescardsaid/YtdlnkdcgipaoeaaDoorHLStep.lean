/- A step of both books. -/
import Derived.Test.YtdlnkdcgipaoeaaDoorHLStep0
import Derived.Test.YtdlnkdcgipaoeaaDoorGL
namespace Go.Proofs.YtdlnkdcgipaoeaaDoor
open Go.RowKit

/-- What a step does. -/
def stepB (B : Bk) (o : Sp) : Bk := if o.k = 1 then (startM B).2 else if o.k = 2 then (endM B o.t o.w o.e).2 else if o.k = 3 then (joinM B o.t o.n).2 else if o.k = 4 then (lockM B o.t o.n).2 else if o.k = 5 then (unlockM B o.t o.n).2 else if o.k = 7 then (setM B o.n o.w).2 else B
def StQ (b r k : Nat) (B' B2' : Bk) (M : Nat) (same : Prop) (U : Nat → Prop) (w : World) (e : Ending) (w' : World) : Prop := ∃ v, e = .returned (.bool v) ∧ (same → v = true) ∧ ∃ D' U', PX w' b r k B' D' (M + 1) U' ∧ Sim B2' D' ∧ Chg U U' w w'
theorem PX.more {w : World} {b r k M : Nat} {B : Bk} {D : Dk} {U : Nat → Prop} (h : PX w b r k B D M U) : PX w b r k B D (M + 1) U := by
  obtain ⟨F1, F2, G, h, rfl⟩ := h
  exact ⟨F1, F2, G, ⟨h.p, h.d, h.k.mono (by omega), h.d12, h.d13, h.d23⟩, rfl⟩

set_option maxRecDepth 100000 in
set_option maxHeartbeats 8000000 in
theorem step_start {w : World} {b r k M : Nat} {B B2 : Bk} {D : Dk} {U : Nat → Prop} (h : PX w b r k B D M U) (hs : Sim B2 D) (hI : Iv B) (hI2 : Iv B2) (o : Sp) (hk : o.k = 1) :
    Calls Tryd.prog 10 #[.pointer (some ⟨b, 0, none⟩), .pointer (some ⟨r, 0, none⟩), .agg #[.int .i64 o.k, .int .i64 o.t, .int .i64 o.n, .int .u64 o.w, .int .i64 o.e], .pointer (some ⟨k, 0, none⟩)] w fun e w' => StQ b r k (stepB B o) (stepB B2 o) M (B2 = B) U w e w' := by
  have hE : stepB B o = (startM B).2 := by unfold stepB; simp [hk]
  have hE2 : stepB B2 o = (startM B2).2 := by unfold stepB; simp [hk]
  rw [hE, hE2]
  have hS := hs.start hI2
  have hSh := hI.sh
  have hSd := hs.sd hI2
  have hb1 : Below w.heap.size w (w.alloc (.cells #[.int .i64 o.k, .int .i64 o.t, .int .i64 o.n, .int .u64 o.w, .int .i64 o.e] 58)) := (Below.refl _ _).alloc (Nat.le_refl _) _
  have hP1 := h.quiet hb1
  have hnU : ¬ U w.heap.size := fun e => by have := h.lt _ e; omega
  have hO1 : (w.alloc (.cells #[.int .i64 o.k, .int .i64 o.t, .int .i64 o.n, .int .u64 o.w, .int .i64 o.e] 58)).heap[w.heap.size]? = some (.cells #[.int .i64 o.k, .int .i64 o.t, .int .i64 o.n, .int .u64 o.w, .int .i64 o.e] 58 (0, 0)) := heap_alloc_new w _
  have lob : w.heap.size < (w.alloc (.cells #[.int .i64 o.k, .int .i64 o.t, .int .i64 o.n, .int .u64 o.w, .int .i64 o.e] 58)).heap.size := by rw [World.size_alloc]; omega
  obtain ⟨a, c, hv⟩ : ∃ a c, (startM B).1 = (a, c) := ⟨_, _, rfl⟩
  obtain ⟨a2, c2, hv2⟩ : ∃ a2 c2, (dstartM D).1 = (a2, c2) := ⟨_, _, rfl⟩
  have HEq : Hid (B2 = B → a = a2 ∧ c = c2) := fun e => by
    have h1 := hS.1
    rw [hv2, e, hv] at h1
    cases h1
    exact ⟨rfl, rfl⟩
  have H1 : Hid (Calls Tryd.prog 13 #[.pointer (some ⟨b, 0, none⟩)] (w.alloc (.cells #[.int .i64 o.k, .int .i64 o.t, .int .i64 o.n, .int .u64 o.w, .int .i64 o.e] 58)) fun e w' => e = .returned (.tuple #[.int .i64 a, .int .i64 c]) ∧ ∃ U', PX w' b r k (startM B).2 D M U' ∧ Chg U U' (w.alloc (.cells #[.int .i64 o.k, .int .i64 o.t, .int .i64 o.n, .int .u64 o.w, .int .i64 o.e] 58)) w') := hP1.onProg (fun F hF => by
    have := start_any hF
    rw [hv] at this
    exact this)
  obtain ⟨w1, hw1⟩ : ∃ w1, w1 = (w.alloc (.cells #[.int .i64 o.k, .int .i64 o.t, .int .i64 o.n, .int .u64 o.w, .int .i64 o.e] 58)) := ⟨_, rfl⟩
  rw [← hw1] at H1 hb1 hO1 lob
  have HW1 : Hid (w1 = (w.alloc (.cells #[.int .i64 o.k, .int .i64 o.t, .int .i64 o.n, .int .u64 o.w, .int .i64 o.e] 58))) := hw1
  have HC1 : Hid (Chg U U w w1) := Chg.quiet U hb1
  have HSS : Hid (Sim (startM B2).2 (dstartM D).2) := hS.2
  have HD : Hid (∀ (W : World) (F : Nat → Prop), DB W r D F → Calls Tryd.prog 32 #[.pointer (some ⟨r, 0, none⟩)] W fun e w' => e = .returned (.tuple #[.int .i64 a2, .int .i64 c2]) ∧ DR2 r (dstartM D).2 F W w') := fun W F hF => by
    have := dStart_any hF
    rw [hv2] at this
    exact this
  have HO1 : Hid _ := hO1
  have HU : Hid (¬ U w.heap.size) := hnU
  generalize hB2' : (startM B2).2 = B2' at HSS ⊢
  generalize hB' : (startM B).2 = B' at H1 ⊢
  generalize hD' : (dstartM D).2 = D' at HSS HD
  have o0 := heap_cell (j := 0) hO1 rfl
  have o1 := heap_cell (j := 1) hO1 rfl
  have o2 := heap_cell (j := 2) hO1 rfl
  have o3 := heap_cell (j := 3) hO1 rfl
  have o4 := heap_cell (j := 4) hO1 rfl
  obtain ⟨ok, ot, on, ow, oe⟩ := o
  dsimp only at hk o0 o1 o2 o3 o4 H1 HD HW1 ⊢
  subst hk
  clear hE hE2 hS hSh hSd hP1 hv hv2 hB' hB2' hD' h hs hI hI2 hb1 hO1 hnU hw1
  go_enter Tryd.func10, Tryd.ntmps10
  go_upto_region 1 with fail
  rw [← HW1.out]
  go_wp2_with fail
  refine Calls.mono H1.out ?_
  rintro e w2 ⟨rfl, U2, hP2, hC2⟩
  have hO2 := (hC2.1 w.heap.size lob HU.out).trans HO1.out
  have lob2 := heap_lt hO2
  have o02 := heap_cell (j := 0) hO2 rfl
  have o12 := heap_cell (j := 1) hO2 rfl
  have o22 := heap_cell (j := 2) hO2 rfl
  have o32 := heap_cell (j := 3) hO2 rfl
  have o42 := heap_cell (j := 4) hO2 rfl
  have H2 : Hid (Calls Tryd.prog 32 #[.pointer (some ⟨r, 0, none⟩)] w2 fun e w' => e = .returned (.tuple #[.int .i64 a2, .int .i64 c2]) ∧ ∃ U', PX w' b r k B' D' M U' ∧ Chg U2 U' w2 w') := hP2.onDoc (fun F hF => HD.out w2 F hF)
  have HC2 : Hid (Chg U U2 w w2) := HC1.out.trans hC2
  clear hO2 hP2 hC2 H1 HD HC1 HO1 HU o0 o1 o2 o3 o4 lob
  go_wp2_with fail
  refine Calls.mono H2.out ?_
  rintro e w3 ⟨rfl, U3', hP3, hC3⟩
  have HP3 : Hid (PX w3 b r k B' D' M U3') := hP3
  have HC3 : Hid (Chg U U3' w w3) := HC2.out.trans hC3
  clear hP3 hC3 H2 HC2 o02 o12 o22 o32 o42 lob2
  by_cases ha : a = a2
  · subst ha
    by_cases hc : c = c2
    · subst hc
      have HF : Hid (StQ b r k B' B2' M (B2 = B) U w (.returned (.bool true)) w3) := ⟨true, rfl, fun _ => rfl, D', U3', HP3.out.more, HSS.out, HC3.out⟩
      clear HP3 HC3 HSS HEq
      go_wp2
      go_ret
      exact HF.out
    · have hcb : (c == c2) = false := beq_false_of_ne hc
      have HF : Hid (StQ b r k B' B2' M (B2 = B) U w (.returned (.bool false)) w3) := ⟨false, rfl, fun e => absurd (HEq.out e).2 hc, D', U3', HP3.out.more, HSS.out, HC3.out⟩
      clear HP3 HC3 HSS HEq hc
      go_wp2
      go_ret
      exact HF.out
  · have hab : (a == a2) = false := beq_false_of_ne ha
    have HF : Hid (StQ b r k B' B2' M (B2 = B) U w (.returned (.bool false)) w3) := ⟨false, rfl, fun e => absurd (HEq.out e).1 ha, D', U3', HP3.out.more, HSS.out, HC3.out⟩
    clear HP3 HC3 HSS HEq ha
    go_wp2
    go_ret
    exact HF.out

set_option maxRecDepth 100000 in
set_option maxHeartbeats 8000000 in
theorem step_join {w : World} {b r k M : Nat} {B B2 : Bk} {D : Dk} {U : Nat → Prop} (h : PX w b r k B D M U) (hs : Sim B2 D) (hI : Iv B) (hI2 : Iv B2) (o : Sp) (hk : o.k = 3) :
    Calls Tryd.prog 10 #[.pointer (some ⟨b, 0, none⟩), .pointer (some ⟨r, 0, none⟩), .agg #[.int .i64 o.k, .int .i64 o.t, .int .i64 o.n, .int .u64 o.w, .int .i64 o.e], .pointer (some ⟨k, 0, none⟩)] w fun e w' => StQ b r k (stepB B o) (stepB B2 o) M (B2 = B) U w e w' := by
  have hE : stepB B o = (joinM B o.t o.n).2 := by unfold stepB; simp [hk]
  have hE2 : stepB B2 o = (joinM B2 o.t o.n).2 := by unfold stepB; simp [hk]
  rw [hE, hE2]
  have hS := hs.join hI2 o.t o.n
  have hSh := hI.sh
  have hSd := hs.sd hI2
  have hb1 : Below w.heap.size w (w.alloc (.cells #[.int .i64 o.k, .int .i64 o.t, .int .i64 o.n, .int .u64 o.w, .int .i64 o.e] 58)) := (Below.refl _ _).alloc (Nat.le_refl _) _
  have hP1 := h.quiet hb1
  have hnU : ¬ U w.heap.size := fun e => by have := h.lt _ e; omega
  have hO1 : (w.alloc (.cells #[.int .i64 o.k, .int .i64 o.t, .int .i64 o.n, .int .u64 o.w, .int .i64 o.e] 58)).heap[w.heap.size]? = some (.cells #[.int .i64 o.k, .int .i64 o.t, .int .i64 o.n, .int .u64 o.w, .int .i64 o.e] 58 (0, 0)) := heap_alloc_new w _
  have lob : w.heap.size < (w.alloc (.cells #[.int .i64 o.k, .int .i64 o.t, .int .i64 o.n, .int .u64 o.w, .int .i64 o.e] 58)).heap.size := by rw [World.size_alloc]; omega
  obtain ⟨a, c, f, hv⟩ : ∃ a c f, (joinM B o.t o.n).1 = (a, c, f) := ⟨_, _, _, rfl⟩
  obtain ⟨a2, c2, f2, hv2⟩ : ∃ a2 c2 f2, (djoinM D o.t o.n).1 = (a2, c2, f2) := ⟨_, _, _, rfl⟩
  have HEq : Hid (B2 = B → a = a2 ∧ c = c2 ∧ f = f2) := fun e => by
    have h1 := hS.1
    rw [hv2, e, hv] at h1
    cases h1
    exact ⟨rfl, rfl, rfl⟩
  have H1 : Hid (Calls Tryd.prog 20 #[.pointer (some ⟨b, 0, none⟩), .int .i64 o.t, .int .i64 o.n] (w.alloc (.cells #[.int .i64 o.k, .int .i64 o.t, .int .i64 o.n, .int .u64 o.w, .int .i64 o.e] 58)) fun e w' => e = .returned (.tuple #[.int .u64 a, .bool c, .int .i64 f]) ∧ ∃ U', PX w' b r k (joinM B o.t o.n).2 D M U' ∧ Chg U U' (w.alloc (.cells #[.int .i64 o.k, .int .i64 o.t, .int .i64 o.n, .int .u64 o.w, .int .i64 o.e] 58)) w') := hP1.onProg (fun F hF => by
    have := join_any hF hSh o.t o.n
    rw [hv] at this
    exact this)
  obtain ⟨w1, hw1⟩ : ∃ w1, w1 = (w.alloc (.cells #[.int .i64 o.k, .int .i64 o.t, .int .i64 o.n, .int .u64 o.w, .int .i64 o.e] 58)) := ⟨_, rfl⟩
  rw [← hw1] at H1 hb1 hO1 lob
  have HW1 : Hid (w1 = (w.alloc (.cells #[.int .i64 o.k, .int .i64 o.t, .int .i64 o.n, .int .u64 o.w, .int .i64 o.e] 58))) := hw1
  have HC1 : Hid (Chg U U w w1) := Chg.quiet U hb1
  have HSS : Hid (Sim (joinM B2 o.t o.n).2 (djoinM D o.t o.n).2) := hS.2
  have HD : Hid (∀ (W : World) (F : Nat → Prop), DB W r D F → Calls Tryd.prog 35 #[.pointer (some ⟨r, 0, none⟩), .int .i64 o.t, .int .i64 o.n] W fun e w' => e = .returned (.tuple #[.int .u64 a2, .bool c2, .int .i64 f2]) ∧ DR2 r (djoinM D o.t o.n).2 F W w') := fun W F hF => by
    have := dJoin_any hF o.t o.n
    rw [hv2] at this
    exact this
  have HO1 : Hid _ := hO1
  have HU : Hid (¬ U w.heap.size) := hnU
  generalize hB2' : (joinM B2 o.t o.n).2 = B2' at HSS ⊢
  generalize hB' : (joinM B o.t o.n).2 = B' at H1 ⊢
  generalize hD' : (djoinM D o.t o.n).2 = D' at HSS HD
  have o0 := heap_cell (j := 0) hO1 rfl
  have o1 := heap_cell (j := 1) hO1 rfl
  have o2 := heap_cell (j := 2) hO1 rfl
  have o3 := heap_cell (j := 3) hO1 rfl
  have o4 := heap_cell (j := 4) hO1 rfl
  obtain ⟨ok, ot, on, ow, oe⟩ := o
  dsimp only at hk o0 o1 o2 o3 o4 H1 HD HW1 ⊢
  subst hk
  clear hE hE2 hS hSh hSd hP1 hv hv2 hB' hB2' hD' h hs hI hI2 hb1 hO1 hnU hw1
  go_enter Tryd.func10, Tryd.ntmps10
  go_upto_region 1 with fail
  rw [← HW1.out]
  go_wp2_with fail
  refine Calls.mono H1.out ?_
  rintro e w2 ⟨rfl, U2, hP2, hC2⟩
  have hO2 := (hC2.1 w.heap.size lob HU.out).trans HO1.out
  have lob2 := heap_lt hO2
  have o02 := heap_cell (j := 0) hO2 rfl
  have o12 := heap_cell (j := 1) hO2 rfl
  have o22 := heap_cell (j := 2) hO2 rfl
  have o32 := heap_cell (j := 3) hO2 rfl
  have o42 := heap_cell (j := 4) hO2 rfl
  have H2 : Hid (Calls Tryd.prog 35 #[.pointer (some ⟨r, 0, none⟩), .int .i64 ot, .int .i64 on] w2 fun e w' => e = .returned (.tuple #[.int .u64 a2, .bool c2, .int .i64 f2]) ∧ ∃ U', PX w' b r k B' D' M U' ∧ Chg U2 U' w2 w') := hP2.onDoc (fun F hF => HD.out w2 F hF)
  have HC2 : Hid (Chg U U2 w w2) := HC1.out.trans hC2
  clear hO2 hP2 hC2 H1 HD HC1 HO1 HU o0 o1 o2 o3 o4 lob
  go_wp2_with fail
  refine Calls.mono H2.out ?_
  rintro e w3 ⟨rfl, U3', hP3, hC3⟩
  have HP3 : Hid (PX w3 b r k B' D' M U3') := hP3
  have HC3 : Hid (Chg U U3' w w3) := HC2.out.trans hC3
  clear hP3 hC3 H2 HC2 o02 o12 o22 o32 o42 lob2
  by_cases ha : a = a2
  · subst ha
    by_cases hc : c = c2
    · subst hc
      by_cases hf : f = f2
      · subst hf
        have HF : Hid (StQ b r k B' B2' M (B2 = B) U w (.returned (.bool true)) w3) := ⟨true, rfl, fun _ => rfl, D', U3', HP3.out.more, HSS.out, HC3.out⟩
        clear HP3 HC3 HSS HEq
        go_wp2
        go_ret
        exact HF.out
      · have hfb : (f == f2) = false := beq_false_of_ne hf
        have HF : Hid (StQ b r k B' B2' M (B2 = B) U w (.returned (.bool false)) w3) := ⟨false, rfl, fun e => absurd (HEq.out e).2.2 hf, D', U3', HP3.out.more, HSS.out, HC3.out⟩
        clear HP3 HC3 HSS HEq hf
        go_wp2
        go_ret
        exact HF.out
    · have hcb : (c == c2) = false := beq_false_of_ne hc
      have HF : Hid (StQ b r k B' B2' M (B2 = B) U w (.returned (.bool false)) w3) := ⟨false, rfl, fun e => absurd (HEq.out e).2.1 hc, D', U3', HP3.out.more, HSS.out, HC3.out⟩
      clear HP3 HC3 HSS HEq hc
      go_wp2
      go_ret
      exact HF.out
  · have hab : (a == a2) = false := beq_false_of_ne ha
    have HF : Hid (StQ b r k B' B2' M (B2 = B) U w (.returned (.bool false)) w3) := ⟨false, rfl, fun e => absurd (HEq.out e).1 ha, D', U3', HP3.out.more, HSS.out, HC3.out⟩
    clear HP3 HC3 HSS HEq ha
    go_wp2
    go_ret
    exact HF.out

set_option maxRecDepth 100000 in
set_option maxHeartbeats 8000000 in
theorem step_lock {w : World} {b r k M : Nat} {B B2 : Bk} {D : Dk} {U : Nat → Prop} (h : PX w b r k B D M U) (hs : Sim B2 D) (hI : Iv B) (hI2 : Iv B2) (o : Sp) (hk : o.k = 4) :
    Calls Tryd.prog 10 #[.pointer (some ⟨b, 0, none⟩), .pointer (some ⟨r, 0, none⟩), .agg #[.int .i64 o.k, .int .i64 o.t, .int .i64 o.n, .int .u64 o.w, .int .i64 o.e], .pointer (some ⟨k, 0, none⟩)] w fun e w' => StQ b r k (stepB B o) (stepB B2 o) M (B2 = B) U w e w' := by
  have hE : stepB B o = (lockM B o.t o.n).2 := by unfold stepB; simp [hk]
  have hE2 : stepB B2 o = (lockM B2 o.t o.n).2 := by unfold stepB; simp [hk]
  rw [hE, hE2]
  have hS := hs.lock hI2 o.t o.n
  have hSh := hI.sh
  have hSd := hs.sd hI2
  have hb1 : Below w.heap.size w (w.alloc (.cells #[.int .i64 o.k, .int .i64 o.t, .int .i64 o.n, .int .u64 o.w, .int .i64 o.e] 58)) := (Below.refl _ _).alloc (Nat.le_refl _) _
  have hP1 := h.quiet hb1
  have hnU : ¬ U w.heap.size := fun e => by have := h.lt _ e; omega
  have hO1 : (w.alloc (.cells #[.int .i64 o.k, .int .i64 o.t, .int .i64 o.n, .int .u64 o.w, .int .i64 o.e] 58)).heap[w.heap.size]? = some (.cells #[.int .i64 o.k, .int .i64 o.t, .int .i64 o.n, .int .u64 o.w, .int .i64 o.e] 58 (0, 0)) := heap_alloc_new w _
  have lob : w.heap.size < (w.alloc (.cells #[.int .i64 o.k, .int .i64 o.t, .int .i64 o.n, .int .u64 o.w, .int .i64 o.e] 58)).heap.size := by rw [World.size_alloc]; omega
  obtain ⟨a, c, hv⟩ : ∃ a c, (lockM B o.t o.n).1 = (a, c) := ⟨_, _, rfl⟩
  obtain ⟨a2, c2, hv2⟩ : ∃ a2 c2, (dlockM D o.t o.n).1 = (a2, c2) := ⟨_, _, rfl⟩
  have HEq : Hid (B2 = B → a = a2 ∧ c = c2) := fun e => by
    have h1 := hS.1
    rw [hv2, e, hv] at h1
    cases h1
    exact ⟨rfl, rfl⟩
  have H1 : Hid (Calls Tryd.prog 17 #[.pointer (some ⟨b, 0, none⟩), .int .i64 o.t, .int .i64 o.n] (w.alloc (.cells #[.int .i64 o.k, .int .i64 o.t, .int .i64 o.n, .int .u64 o.w, .int .i64 o.e] 58)) fun e w' => e = .returned (.tuple #[.bool a, .int .i64 c]) ∧ ∃ U', PX w' b r k (lockM B o.t o.n).2 D M U' ∧ Chg U U' (w.alloc (.cells #[.int .i64 o.k, .int .i64 o.t, .int .i64 o.n, .int .u64 o.w, .int .i64 o.e] 58)) w') := hP1.onProg (fun F hF => by
    have := lock_any hF hSh o.t o.n
    rw [hv] at this
    exact this)
  obtain ⟨w1, hw1⟩ : ∃ w1, w1 = (w.alloc (.cells #[.int .i64 o.k, .int .i64 o.t, .int .i64 o.n, .int .u64 o.w, .int .i64 o.e] 58)) := ⟨_, rfl⟩
  rw [← hw1] at H1 hb1 hO1 lob
  have HW1 : Hid (w1 = (w.alloc (.cells #[.int .i64 o.k, .int .i64 o.t, .int .i64 o.n, .int .u64 o.w, .int .i64 o.e] 58))) := hw1
  have HC1 : Hid (Chg U U w w1) := Chg.quiet U hb1
  have HSS : Hid (Sim (lockM B2 o.t o.n).2 (dlockM D o.t o.n).2) := hS.2
  have HD : Hid (∀ (W : World) (F : Nat → Prop), DB W r D F → Calls Tryd.prog 36 #[.pointer (some ⟨r, 0, none⟩), .int .i64 o.t, .int .i64 o.n] W fun e w' => e = .returned (.tuple #[.bool a2, .int .i64 c2]) ∧ DR2 r (dlockM D o.t o.n).2 F W w') := fun W F hF => by
    have := dLock_any hF (fun y hy => (hSd y hy).1) o.t o.n
    rw [hv2] at this
    exact this
  have HO1 : Hid _ := hO1
  have HU : Hid (¬ U w.heap.size) := hnU
  generalize hB2' : (lockM B2 o.t o.n).2 = B2' at HSS ⊢
  generalize hB' : (lockM B o.t o.n).2 = B' at H1 ⊢
  generalize hD' : (dlockM D o.t o.n).2 = D' at HSS HD
  have o0 := heap_cell (j := 0) hO1 rfl
  have o1 := heap_cell (j := 1) hO1 rfl
  have o2 := heap_cell (j := 2) hO1 rfl
  have o3 := heap_cell (j := 3) hO1 rfl
  have o4 := heap_cell (j := 4) hO1 rfl
  obtain ⟨ok, ot, on, ow, oe⟩ := o
  dsimp only at hk o0 o1 o2 o3 o4 H1 HD HW1 ⊢
  subst hk
  clear hE hE2 hS hSh hSd hP1 hv hv2 hB' hB2' hD' h hs hI hI2 hb1 hO1 hnU hw1
  go_enter Tryd.func10, Tryd.ntmps10
  go_upto_region 1 with fail
  rw [← HW1.out]
  go_wp2_with fail
  refine Calls.mono H1.out ?_
  rintro e w2 ⟨rfl, U2, hP2, hC2⟩
  have hO2 := (hC2.1 w.heap.size lob HU.out).trans HO1.out
  have lob2 := heap_lt hO2
  have o02 := heap_cell (j := 0) hO2 rfl
  have o12 := heap_cell (j := 1) hO2 rfl
  have o22 := heap_cell (j := 2) hO2 rfl
  have o32 := heap_cell (j := 3) hO2 rfl
  have o42 := heap_cell (j := 4) hO2 rfl
  have H2 : Hid (Calls Tryd.prog 36 #[.pointer (some ⟨r, 0, none⟩), .int .i64 ot, .int .i64 on] w2 fun e w' => e = .returned (.tuple #[.bool a2, .int .i64 c2]) ∧ ∃ U', PX w' b r k B' D' M U' ∧ Chg U2 U' w2 w') := hP2.onDoc (fun F hF => HD.out w2 F hF)
  have HC2 : Hid (Chg U U2 w w2) := HC1.out.trans hC2
  clear hO2 hP2 hC2 H1 HD HC1 HO1 HU o0 o1 o2 o3 o4 lob
  go_wp2_with fail
  refine Calls.mono H2.out ?_
  rintro e w3 ⟨rfl, U3', hP3, hC3⟩
  have HP3 : Hid (PX w3 b r k B' D' M U3') := hP3
  have HC3 : Hid (Chg U U3' w w3) := HC2.out.trans hC3
  clear hP3 hC3 H2 HC2 o02 o12 o22 o32 o42 lob2
  by_cases ha : a = a2
  · subst ha
    by_cases hc : c = c2
    · subst hc
      have HF : Hid (StQ b r k B' B2' M (B2 = B) U w (.returned (.bool true)) w3) := ⟨true, rfl, fun _ => rfl, D', U3', HP3.out.more, HSS.out, HC3.out⟩
      clear HP3 HC3 HSS HEq
      go_wp2
      go_ret
      exact HF.out
    · have hcb : (c == c2) = false := beq_false_of_ne hc
      have HF : Hid (StQ b r k B' B2' M (B2 = B) U w (.returned (.bool false)) w3) := ⟨false, rfl, fun e => absurd (HEq.out e).2 hc, D', U3', HP3.out.more, HSS.out, HC3.out⟩
      clear HP3 HC3 HSS HEq hc
      go_wp2
      go_ret
      exact HF.out
  · have hab : (a == a2) = false := beq_false_of_ne ha
    have HF : Hid (StQ b r k B' B2' M (B2 = B) U w (.returned (.bool false)) w3) := ⟨false, rfl, fun e => absurd (HEq.out e).1 ha, D', U3', HP3.out.more, HSS.out, HC3.out⟩
    clear HP3 HC3 HSS HEq ha
    go_wp2
    go_ret
    exact HF.out

set_option maxRecDepth 100000 in
set_option maxHeartbeats 8000000 in
theorem step_unlock {w : World} {b r k M : Nat} {B B2 : Bk} {D : Dk} {U : Nat → Prop} (h : PX w b r k B D M U) (hs : Sim B2 D) (hI : Iv B) (hI2 : Iv B2) (o : Sp) (hk : o.k = 5) :
    Calls Tryd.prog 10 #[.pointer (some ⟨b, 0, none⟩), .pointer (some ⟨r, 0, none⟩), .agg #[.int .i64 o.k, .int .i64 o.t, .int .i64 o.n, .int .u64 o.w, .int .i64 o.e], .pointer (some ⟨k, 0, none⟩)] w fun e w' => StQ b r k (stepB B o) (stepB B2 o) M (B2 = B) U w e w' := by
  have hE : stepB B o = (unlockM B o.t o.n).2 := by unfold stepB; simp [hk]
  have hE2 : stepB B2 o = (unlockM B2 o.t o.n).2 := by unfold stepB; simp [hk]
  rw [hE, hE2]
  have hS := hs.unlock hI2 o.t o.n
  have hSh := hI.sh
  have hSd := hs.sd hI2
  have hb1 : Below w.heap.size w (w.alloc (.cells #[.int .i64 o.k, .int .i64 o.t, .int .i64 o.n, .int .u64 o.w, .int .i64 o.e] 58)) := (Below.refl _ _).alloc (Nat.le_refl _) _
  have hP1 := h.quiet hb1
  have hnU : ¬ U w.heap.size := fun e => by have := h.lt _ e; omega
  have hO1 : (w.alloc (.cells #[.int .i64 o.k, .int .i64 o.t, .int .i64 o.n, .int .u64 o.w, .int .i64 o.e] 58)).heap[w.heap.size]? = some (.cells #[.int .i64 o.k, .int .i64 o.t, .int .i64 o.n, .int .u64 o.w, .int .i64 o.e] 58 (0, 0)) := heap_alloc_new w _
  have lob : w.heap.size < (w.alloc (.cells #[.int .i64 o.k, .int .i64 o.t, .int .i64 o.n, .int .u64 o.w, .int .i64 o.e] 58)).heap.size := by rw [World.size_alloc]; omega
  obtain ⟨a, c, hv⟩ : ∃ a c, (unlockM B o.t o.n).1 = (a, c) := ⟨_, _, rfl⟩
  obtain ⟨a2, c2, hv2⟩ : ∃ a2 c2, (dunlockM D o.t o.n).1 = (a2, c2) := ⟨_, _, rfl⟩
  have HEq : Hid (B2 = B → a = a2 ∧ c = c2) := fun e => by
    have h1 := hS.1
    rw [hv2, e, hv] at h1
    cases h1
    exact ⟨rfl, rfl⟩
  have H1 : Hid (Calls Tryd.prog 25 #[.pointer (some ⟨b, 0, none⟩), .int .i64 o.t, .int .i64 o.n] (w.alloc (.cells #[.int .i64 o.k, .int .i64 o.t, .int .i64 o.n, .int .u64 o.w, .int .i64 o.e] 58)) fun e w' => e = .returned (.tuple #[.int .i64 a, .int .i64 c]) ∧ ∃ U', PX w' b r k (unlockM B o.t o.n).2 D M U' ∧ Chg U U' (w.alloc (.cells #[.int .i64 o.k, .int .i64 o.t, .int .i64 o.n, .int .u64 o.w, .int .i64 o.e] 58)) w') := hP1.onProg (fun F hF => by
    have := unlock_any hF hSh o.t o.n
    rw [hv] at this
    exact this)
  obtain ⟨w1, hw1⟩ : ∃ w1, w1 = (w.alloc (.cells #[.int .i64 o.k, .int .i64 o.t, .int .i64 o.n, .int .u64 o.w, .int .i64 o.e] 58)) := ⟨_, rfl⟩
  rw [← hw1] at H1 hb1 hO1 lob
  have HW1 : Hid (w1 = (w.alloc (.cells #[.int .i64 o.k, .int .i64 o.t, .int .i64 o.n, .int .u64 o.w, .int .i64 o.e] 58))) := hw1
  have HC1 : Hid (Chg U U w w1) := Chg.quiet U hb1
  have HSS : Hid (Sim (unlockM B2 o.t o.n).2 (dunlockM D o.t o.n).2) := hS.2
  have HD : Hid (∀ (W : World) (F : Nat → Prop), DB W r D F → Calls Tryd.prog 37 #[.pointer (some ⟨r, 0, none⟩), .int .i64 o.t, .int .i64 o.n] W fun e w' => e = .returned (.tuple #[.int .i64 a2, .int .i64 c2]) ∧ DR2 r (dunlockM D o.t o.n).2 F W w') := fun W F hF => by
    have := dUnlock_any hF hSd o.t o.n
    rw [hv2] at this
    exact this
  have HO1 : Hid _ := hO1
  have HU : Hid (¬ U w.heap.size) := hnU
  generalize hB2' : (unlockM B2 o.t o.n).2 = B2' at HSS ⊢
  generalize hB' : (unlockM B o.t o.n).2 = B' at H1 ⊢
  generalize hD' : (dunlockM D o.t o.n).2 = D' at HSS HD
  have o0 := heap_cell (j := 0) hO1 rfl
  have o1 := heap_cell (j := 1) hO1 rfl
  have o2 := heap_cell (j := 2) hO1 rfl
  have o3 := heap_cell (j := 3) hO1 rfl
  have o4 := heap_cell (j := 4) hO1 rfl
  obtain ⟨ok, ot, on, ow, oe⟩ := o
  dsimp only at hk o0 o1 o2 o3 o4 H1 HD HW1 ⊢
  subst hk
  clear hE hE2 hS hSh hSd hP1 hv hv2 hB' hB2' hD' h hs hI hI2 hb1 hO1 hnU hw1
  go_enter Tryd.func10, Tryd.ntmps10
  go_upto_region 1 with fail
  rw [← HW1.out]
  go_wp2_with fail
  refine Calls.mono H1.out ?_
  rintro e w2 ⟨rfl, U2, hP2, hC2⟩
  have hO2 := (hC2.1 w.heap.size lob HU.out).trans HO1.out
  have lob2 := heap_lt hO2
  have o02 := heap_cell (j := 0) hO2 rfl
  have o12 := heap_cell (j := 1) hO2 rfl
  have o22 := heap_cell (j := 2) hO2 rfl
  have o32 := heap_cell (j := 3) hO2 rfl
  have o42 := heap_cell (j := 4) hO2 rfl
  have H2 : Hid (Calls Tryd.prog 37 #[.pointer (some ⟨r, 0, none⟩), .int .i64 ot, .int .i64 on] w2 fun e w' => e = .returned (.tuple #[.int .i64 a2, .int .i64 c2]) ∧ ∃ U', PX w' b r k B' D' M U' ∧ Chg U2 U' w2 w') := hP2.onDoc (fun F hF => HD.out w2 F hF)
  have HC2 : Hid (Chg U U2 w w2) := HC1.out.trans hC2
  clear hO2 hP2 hC2 H1 HD HC1 HO1 HU o0 o1 o2 o3 o4 lob
  go_wp2_with fail
  refine Calls.mono H2.out ?_
  rintro e w3 ⟨rfl, U3', hP3, hC3⟩
  have HP3 : Hid (PX w3 b r k B' D' M U3') := hP3
  have HC3 : Hid (Chg U U3' w w3) := HC2.out.trans hC3
  clear hP3 hC3 H2 HC2 o02 o12 o22 o32 o42 lob2
  by_cases ha : a = a2
  · subst ha
    by_cases hc : c = c2
    · subst hc
      have HF : Hid (StQ b r k B' B2' M (B2 = B) U w (.returned (.bool true)) w3) := ⟨true, rfl, fun _ => rfl, D', U3', HP3.out.more, HSS.out, HC3.out⟩
      clear HP3 HC3 HSS HEq
      go_wp2
      go_ret
      exact HF.out
    · have hcb : (c == c2) = false := beq_false_of_ne hc
      have HF : Hid (StQ b r k B' B2' M (B2 = B) U w (.returned (.bool false)) w3) := ⟨false, rfl, fun e => absurd (HEq.out e).2 hc, D', U3', HP3.out.more, HSS.out, HC3.out⟩
      clear HP3 HC3 HSS HEq hc
      go_wp2
      go_ret
      exact HF.out
  · have hab : (a == a2) = false := beq_false_of_ne ha
    have HF : Hid (StQ b r k B' B2' M (B2 = B) U w (.returned (.bool false)) w3) := ⟨false, rfl, fun e => absurd (HEq.out e).1 ha, D', U3', HP3.out.more, HSS.out, HC3.out⟩
    clear HP3 HC3 HSS HEq ha
    go_wp2
    go_ret
    exact HF.out

set_option maxRecDepth 100000 in
set_option maxHeartbeats 8000000 in
theorem step_set {w : World} {b r k M : Nat} {B B2 : Bk} {D : Dk} {U : Nat → Prop} (h : PX w b r k B D M U) (hs : Sim B2 D) (hI : Iv B) (hI2 : Iv B2) (o : Sp) (hk : o.k = 7) :
    Calls Tryd.prog 10 #[.pointer (some ⟨b, 0, none⟩), .pointer (some ⟨r, 0, none⟩), .agg #[.int .i64 o.k, .int .i64 o.t, .int .i64 o.n, .int .u64 o.w, .int .i64 o.e], .pointer (some ⟨k, 0, none⟩)] w fun e w' => StQ b r k (stepB B o) (stepB B2 o) M (B2 = B) U w e w' := by
  have hE : stepB B o = (setM B o.n o.w).2 := by unfold stepB; simp [hk]
  have hE2 : stepB B2 o = (setM B2 o.n o.w).2 := by unfold stepB; simp [hk]
  rw [hE, hE2]
  have hS := hs.set o.n o.w
  have hSh := hI.sh
  have hSd := hs.sd hI2
  have hb1 : Below w.heap.size w (w.alloc (.cells #[.int .i64 o.k, .int .i64 o.t, .int .i64 o.n, .int .u64 o.w, .int .i64 o.e] 58)) := (Below.refl _ _).alloc (Nat.le_refl _) _
  have hP1 := h.quiet hb1
  have hnU : ¬ U w.heap.size := fun e => by have := h.lt _ e; omega
  have hO1 : (w.alloc (.cells #[.int .i64 o.k, .int .i64 o.t, .int .i64 o.n, .int .u64 o.w, .int .i64 o.e] 58)).heap[w.heap.size]? = some (.cells #[.int .i64 o.k, .int .i64 o.t, .int .i64 o.n, .int .u64 o.w, .int .i64 o.e] 58 (0, 0)) := heap_alloc_new w _
  have lob : w.heap.size < (w.alloc (.cells #[.int .i64 o.k, .int .i64 o.t, .int .i64 o.n, .int .u64 o.w, .int .i64 o.e] 58)).heap.size := by rw [World.size_alloc]; omega
  obtain ⟨a, c, hv⟩ : ∃ a c, (setM B o.n o.w).1 = (a, c) := ⟨_, _, rfl⟩
  obtain ⟨a2, c2, hv2⟩ : ∃ a2 c2, (dsetM D o.n o.w).1 = (a2, c2) := ⟨_, _, rfl⟩
  have HEq : Hid (B2 = B → a = a2 ∧ c = c2) := fun e => by
    have h1 := hS.1
    rw [hv2, e, hv] at h1
    cases h1
    exact ⟨rfl, rfl⟩
  have H1 : Hid (Calls Tryd.prog 39 #[.pointer (some ⟨b, 0, none⟩), .int .i64 o.n, .int .u64 o.w] (w.alloc (.cells #[.int .i64 o.k, .int .i64 o.t, .int .i64 o.n, .int .u64 o.w, .int .i64 o.e] 58)) fun e w' => e = .returned (.tuple #[.int .u64 a, .int .i64 c]) ∧ ∃ U', PX w' b r k (setM B o.n o.w).2 D M U' ∧ Chg U U' (w.alloc (.cells #[.int .i64 o.k, .int .i64 o.t, .int .i64 o.n, .int .u64 o.w, .int .i64 o.e] 58)) w') := hP1.onProg (fun F hF => by
    have := setGlobal_any hF o.n o.w
    rw [hv] at this
    exact this)
  obtain ⟨w1, hw1⟩ : ∃ w1, w1 = (w.alloc (.cells #[.int .i64 o.k, .int .i64 o.t, .int .i64 o.n, .int .u64 o.w, .int .i64 o.e] 58)) := ⟨_, rfl⟩
  rw [← hw1] at H1 hb1 hO1 lob
  have HW1 : Hid (w1 = (w.alloc (.cells #[.int .i64 o.k, .int .i64 o.t, .int .i64 o.n, .int .u64 o.w, .int .i64 o.e] 58))) := hw1
  have HC1 : Hid (Chg U U w w1) := Chg.quiet U hb1
  have HSS : Hid (Sim (setM B2 o.n o.w).2 (dsetM D o.n o.w).2) := hS.2
  have HD : Hid (∀ (W : World) (F : Nat → Prop), DB W r D F → Calls Tryd.prog 40 #[.pointer (some ⟨r, 0, none⟩), .int .i64 o.n, .int .u64 o.w] W fun e w' => e = .returned (.tuple #[.int .u64 a2, .int .i64 c2]) ∧ DR2 r (dsetM D o.n o.w).2 F W w') := fun W F hF => by
    have := dSet_any hF o.n o.w
    rw [hv2] at this
    exact this
  have HO1 : Hid _ := hO1
  have HU : Hid (¬ U w.heap.size) := hnU
  generalize hB2' : (setM B2 o.n o.w).2 = B2' at HSS ⊢
  generalize hB' : (setM B o.n o.w).2 = B' at H1 ⊢
  generalize hD' : (dsetM D o.n o.w).2 = D' at HSS HD
  have o0 := heap_cell (j := 0) hO1 rfl
  have o1 := heap_cell (j := 1) hO1 rfl
  have o2 := heap_cell (j := 2) hO1 rfl
  have o3 := heap_cell (j := 3) hO1 rfl
  have o4 := heap_cell (j := 4) hO1 rfl
  obtain ⟨ok, ot, on, ow, oe⟩ := o
  dsimp only at hk o0 o1 o2 o3 o4 H1 HD HW1 ⊢
  subst hk
  clear hE hE2 hS hSh hSd hP1 hv hv2 hB' hB2' hD' h hs hI hI2 hb1 hO1 hnU hw1
  go_enter Tryd.func10, Tryd.ntmps10
  go_upto_region 1 with fail
  rw [← HW1.out]
  go_wp2_with fail
  refine Calls.mono H1.out ?_
  rintro e w2 ⟨rfl, U2, hP2, hC2⟩
  have hO2 := (hC2.1 w.heap.size lob HU.out).trans HO1.out
  have lob2 := heap_lt hO2
  have o02 := heap_cell (j := 0) hO2 rfl
  have o12 := heap_cell (j := 1) hO2 rfl
  have o22 := heap_cell (j := 2) hO2 rfl
  have o32 := heap_cell (j := 3) hO2 rfl
  have o42 := heap_cell (j := 4) hO2 rfl
  have H2 : Hid (Calls Tryd.prog 40 #[.pointer (some ⟨r, 0, none⟩), .int .i64 on, .int .u64 ow] w2 fun e w' => e = .returned (.tuple #[.int .u64 a2, .int .i64 c2]) ∧ ∃ U', PX w' b r k B' D' M U' ∧ Chg U2 U' w2 w') := hP2.onDoc (fun F hF => HD.out w2 F hF)
  have HC2 : Hid (Chg U U2 w w2) := HC1.out.trans hC2
  clear hO2 hP2 hC2 H1 HD HC1 HO1 HU o0 o1 o2 o3 o4 lob
  go_wp2_with fail
  refine Calls.mono H2.out ?_
  rintro e w3 ⟨rfl, U3', hP3, hC3⟩
  have HP3 : Hid (PX w3 b r k B' D' M U3') := hP3
  have HC3 : Hid (Chg U U3' w w3) := HC2.out.trans hC3
  clear hP3 hC3 H2 HC2 o02 o12 o22 o32 o42 lob2
  by_cases ha : a = a2
  · subst ha
    by_cases hc : c = c2
    · subst hc
      have HF : Hid (StQ b r k B' B2' M (B2 = B) U w (.returned (.bool true)) w3) := ⟨true, rfl, fun _ => rfl, D', U3', HP3.out.more, HSS.out, HC3.out⟩
      clear HP3 HC3 HSS HEq
      go_wp2
      go_ret
      exact HF.out
    · have hcb : (c == c2) = false := beq_false_of_ne hc
      have HF : Hid (StQ b r k B' B2' M (B2 = B) U w (.returned (.bool false)) w3) := ⟨false, rfl, fun e => absurd (HEq.out e).2 hc, D', U3', HP3.out.more, HSS.out, HC3.out⟩
      clear HP3 HC3 HSS HEq hc
      go_wp2
      go_ret
      exact HF.out
  · have hab : (a == a2) = false := beq_false_of_ne ha
    have HF : Hid (StQ b r k B' B2' M (B2 = B) U w (.returned (.bool false)) w3) := ⟨false, rfl, fun e => absurd (HEq.out e).1 ha, D', U3', HP3.out.more, HSS.out, HC3.out⟩
    clear HP3 HC3 HSS HEq ha
    go_wp2
    go_ret
    exact HF.out
end Go.Proofs.YtdlnkdcgipaoeaaDoor
