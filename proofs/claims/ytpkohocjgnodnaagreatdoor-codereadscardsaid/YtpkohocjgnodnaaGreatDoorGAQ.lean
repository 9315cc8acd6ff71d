/- The chapter's example in memory.; The text of code is written.; code.Text. -/
import Derived.Test.YtpkohocjgnodnaaGreatDoorGAI
import Derived.Test.YtpkohocjgnodnaaGreatDoorGAL
import Derived.Test.YtpkohocjgnodnaaGreatDoorGAP
/- The chapter's example in memory. -/
namespace Go.Proofs.YtpkohocjgnodnaaGreatDoor
open Go.RowKit

def exK (k : Nat) : Cd := ⟨[mk 5 5, mk 1 0], [⟨0, [⟨1, 0⟩, ⟨5, 0⟩, ⟨12, 0⟩]⟩, ⟨1, [⟨2, 0⟩, ⟨12, 0⟩].take k⟩], [[120]]⟩
def exV (b1 b5 b2 : Nat) : Value := .agg #[.slice (some ⟨b1, 0, none⟩) 2 2, .slice (some ⟨b5, 0, none⟩) 2 2, .slice (some ⟨b2, 0, none⟩) 1 1]
structure ExM (w : World) (b1 b2 b3 b4 b5 k : Nat) : Prop where
  h1 : w.heap[b1]? = some (.cells #[.int .u64 (mk 5 5), .int .u64 (mk 1 0)] 70 (0, 0))
  h2 : w.heap[b2]? = some (.cells #[S [120]] 9 (0, 0))
  h3 : w.heap[b3]? = some (.cells #[.int .u8 1, .int .i64 0, .int .u8 5, .int .i64 0, .int .u8 12, .int .i64 0] 79 (0, 0))
  h4 : w.heap[b4]? = some (.cells #[.int .u8 2, .int .i64 0, .int .u8 12, .int .i64 0] 79 (0, 0))
  h5 : w.heap[b5]? = some (.cells #[.int .i64 0, .slice (some ⟨b3, 0, none⟩) 3 3, .int .i64 1, .slice (some ⟨b4, 0, none⟩) k 2] 64 (0, 0))
theorem heap_lt {w : World} {b : Nat} {o : Obj} (h : w.heap[b]? = some o) : b < w.heap.size := (Array.getElem?_eq_some_iff.1 h).1
theorem heap_cell {w : World} {b j : Nat} {cs : Array Value} {t : TypeId} {v : Value} (h : w.heap[b]? = some (.cells cs t (0, 0))) (hv : cs[j]? = some v) : w.cell? ⟨b, j, none⟩ = some v := by
  simp only [World.cell?, h]; exact hv
theorem ExM.below {w w' : World} {b1 b2 b3 b4 b5 k : Nat} (h : ExM w b1 b2 b3 b4 b5 k) (hb : Below w.heap.size w w') : ExM w' b1 b2 b3 b4 b5 k :=
  ⟨(hb.block _ (heap_lt h.h1)).trans h.h1, (hb.block _ (heap_lt h.h2)).trans h.h2, (hb.block _ (heap_lt h.h3)).trans h.h3, (hb.block _ (heap_lt h.h4)).trans h.h4, (hb.block _ (heap_lt h.h5)).trans h.h5⟩
theorem ExM.cv {w : World} {b1 b2 b3 b4 b5 k : Nat} (h : ExM w b1 b2 b3 b4 b5 k) (hk : k = 1 ∨ k = 2) : CV w (exV b1 b5 b2) (exK k) := by
  refine ⟨⟨_, 2, _, 2, _, 1, rfl, ⟨b1, 0, .inr rfl, fun j x hx => ?_⟩, ⟨b5, 0, .inr rfl, fun j x hx => ?_⟩, ⟨b2, 0, .inr rfl, fun j x hx => ?_⟩, Nat.le_refl _⟩, ⟨by show 2 ≤ maxLen; decide, by show 2 ≤ maxLen; decide, by show 1 ≤ maxLen; decide⟩⟩
  · refine ⟨heap_lt h.h1, ?_⟩
    match j, hx with
    | 0, hx => cases hx; exact ⟨heap_cell h.h1 rfl, mk_rng _ _⟩
    | 1, hx => cases hx; exact ⟨heap_cell h.h1 rfl, mk_rng _ _⟩
    | j + 2, hx => simp [exK] at hx
  · refine ⟨heap_lt h.h5, ?_⟩
    match j, hx with
    | 0, hx =>
      cases hx
      refine ⟨heap_cell h.h5 rfl, ⟨_, 3, heap_cell h.h5 rfl, b3, 0, .inr rfl, fun i y hy => ?_⟩, by decide⟩
      refine ⟨heap_lt h.h3, ?_⟩
      match i, hy with
      | 0, hy => cases hy; exact ⟨heap_cell h.h3 rfl, heap_cell h.h3 rfl, by decide, by decide⟩
      | 1, hy => cases hy; exact ⟨heap_cell h.h3 rfl, heap_cell h.h3 rfl, by decide, by decide⟩
      | 2, hy => cases hy; exact ⟨heap_cell h.h3 rfl, heap_cell h.h3 rfl, by decide, by decide⟩
      | i + 3, hy => simp at hy
    | 1, hx =>
      cases hx
      have hlen : ([⟨2, 0⟩, ⟨12, 0⟩] : List Ins).take k = [⟨2, 0⟩, ⟨12, 0⟩].take k := rfl
      rcases hk with rfl | rfl
      · refine ⟨heap_cell h.h5 rfl, ⟨_, 2, heap_cell h.h5 rfl, b4, 0, .inr rfl, fun i y hy => ?_⟩, by decide⟩
        refine ⟨heap_lt h.h4, ?_⟩
        match i, hy with
        | 0, hy => cases hy; exact ⟨heap_cell h.h4 rfl, heap_cell h.h4 rfl, by decide, by decide⟩
        | i + 1, hy => simp at hy
      · refine ⟨heap_cell h.h5 rfl, ⟨_, 2, heap_cell h.h5 rfl, b4, 0, .inr rfl, fun i y hy => ?_⟩, by decide⟩
        refine ⟨heap_lt h.h4, ?_⟩
        match i, hy with
        | 0, hy => cases hy; exact ⟨heap_cell h.h4 rfl, heap_cell h.h4 rfl, by decide, by decide⟩
        | 1, hy => cases hy; exact ⟨heap_cell h.h4 rfl, heap_cell h.h4 rfl, by decide, by decide⟩
        | i + 2, hy => simp at hy
    | j + 2, hx => simp [exK] at hx
  · refine ⟨heap_lt h.h2, ?_⟩
    match j, hx with
    | 0, hx => cases hx; exact ⟨heap_cell h.h2 rfl, by decide⟩
    | j + 1, hx => simp [exK] at hx
theorem six (w : World) (o0 o1 o2 o3 o4 o5 : Obj) : ((((((w.alloc o0).alloc o1).alloc o2).alloc o3).alloc o4).alloc o5).heap[w.heap.size]? = some o0 ∧ ((((((w.alloc o0).alloc o1).alloc o2).alloc o3).alloc o4).alloc o5).heap[w.heap.size + 1]? = some o1 ∧ ((((((w.alloc o0).alloc o1).alloc o2).alloc o3).alloc o4).alloc o5).heap[w.heap.size + 1 + 1]? = some o2 ∧ ((((((w.alloc o0).alloc o1).alloc o2).alloc o3).alloc o4).alloc o5).heap[w.heap.size + 1 + 1 + 1]? = some o3 ∧ ((((((w.alloc o0).alloc o1).alloc o2).alloc o3).alloc o4).alloc o5).heap[w.heap.size + 1 + 1 + 1 + 1]? = some o4 ∧ ((((((w.alloc o0).alloc o1).alloc o2).alloc o3).alloc o4).alloc o5).heap[w.heap.size + 1 + 1 + 1 + 1 + 1]? = some o5 ∧ Below w.heap.size w ((((((w.alloc o0).alloc o1).alloc o2).alloc o3).alloc o4).alloc o5) := by
  have e1 : (w.alloc o0).heap.size = w.heap.size + 1 := World.size_alloc ..
  have e2 : ((w.alloc o0).alloc o1).heap.size = w.heap.size + 2 := by rw [World.size_alloc, e1]
  have e3 : (((w.alloc o0).alloc o1).alloc o2).heap.size = w.heap.size + 3 := by rw [World.size_alloc, e2]
  have e4 : ((((w.alloc o0).alloc o1).alloc o2).alloc o3).heap.size = w.heap.size + 4 := by rw [World.size_alloc, e3]
  have e5 : (((((w.alloc o0).alloc o1).alloc o2).alloc o3).alloc o4).heap.size = w.heap.size + 5 := by rw [World.size_alloc, e4]
  refine ⟨?_, ?_, ?_, ?_, ?_, ?_, ?_⟩
  · rw [Below.heap_alloc _ _ _ (by omega), Below.heap_alloc _ _ _ (by omega), Below.heap_alloc _ _ _ (by omega), Below.heap_alloc _ _ _ (by omega), Below.heap_alloc _ _ _ (by omega)]; exact heap_alloc_new _ _
  · rw [Below.heap_alloc _ _ _ (by omega), Below.heap_alloc _ _ _ (by omega), Below.heap_alloc _ _ _ (by omega), Below.heap_alloc _ _ _ (by omega), ← e1]; exact heap_alloc_new _ _
  · rw [Below.heap_alloc _ _ _ (by omega), Below.heap_alloc _ _ _ (by omega), Below.heap_alloc _ _ _ (by omega), show w.heap.size + 1 + 1 = w.heap.size + 2 from rfl, ← e2]; exact heap_alloc_new _ _
  · rw [Below.heap_alloc _ _ _ (by omega), Below.heap_alloc _ _ _ (by omega), show w.heap.size + 1 + 1 + 1 = w.heap.size + 3 from rfl, ← e3]; exact heap_alloc_new _ _
  · rw [Below.heap_alloc _ _ _ (by omega), show w.heap.size + 1 + 1 + 1 + 1 = w.heap.size + 4 from rfl, ← e4]; exact heap_alloc_new _ _
  · rw [show w.heap.size + 1 + 1 + 1 + 1 + 1 = w.heap.size + 5 from rfl, ← e5]; exact heap_alloc_new _ _
  · exact ((((((Below.refl _ w).alloc (Nat.le_refl _) _).alloc (by omega) _).alloc (by omega) _).alloc (by omega) _).alloc (by omega) _).alloc (by omega) _
def ExR (w : World) (e : Ending) (w' : World) : Prop := ∃ b1 b2 b3 b4 b5, e = .returned (exV b1 b5 b2) ∧ ExM w' b1 b2 b3 b4 b5 2 ∧ w.heap.size ≤ b5
set_option maxRecDepth 100000 in
set_option maxHeartbeats 8000000 in
theorem example_any (w : World) (hE : Env w) :
    Calls Tryz.prog 19 #[] w fun e w' => ExR w e w' ∧ Below w.heap.size w w' := by
  have hal : Below w.heap.size w (w.alloc ZC) := (Below.refl _ w).alloc (Nat.le_refl _) _
  have hT := (hE.below hal).T
  have H1 : Hid (Calls Tryz.prog 66 #[.int .i64 5] (w.alloc ZC) fun e w' => e = .returned (.tuple #[.int .u64 (mk 5 5), .int .i64 0]) ∧ w' = w.alloc ZC) := int_any 5 _ hT
  have H2 : Hid (Calls Tryz.prog 67 #[.int .u8 1, .int .i64 0] (w.alloc ZC) fun e w' => e = .returned (.tuple #[.int .u64 (mk 1 0), .int .i64 0]) ∧ w' = w.alloc ZC) := make_any 1 0 _ (by decide) (by decide) hT
  have HA : Hid (Below w.heap.size w (w.alloc ZC)) := hal
  clear hE hal hT
  obtain ⟨m5, hm5⟩ : ∃ m, m = mk 5 5 := ⟨_, rfl⟩
  obtain ⟨m1, hm1⟩ : ∃ m, m = mk 1 0 := ⟨_, rfl⟩
  rw [← hm5] at H1
  rw [← hm1] at H2
  have HM : Hid (m5 = mk 5 5 ∧ m1 = mk 1 0) := ⟨hm5, hm1⟩
  clear hm5 hm1
  go_enter Tryz.func19, Tryz.ntmps19
  go_wp2_with fail
  refine Calls.mono H1.out ?_
  rintro e w1 ⟨rfl, hw1⟩
  rw [hw1]
  clear hw1
  go_wp2_with fail
  refine Calls.mono H2.out ?_
  rintro e w2 ⟨rfl, hw2⟩
  rw [hw2]
  clear hw2
  go_wp2
  obtain ⟨k0, k1, k2, k3, k4, k5, kb⟩ := six w (CO (.slice (some ⟨w.heap.size + 1, 0, none⟩) 2 2) (.slice (some ⟨w.heap.size + 1 + 1 + 1 + 1 + 1, 0, none⟩) 2 2) (.slice (some ⟨w.heap.size + 1 + 1, 0, none⟩) 1 1)) (.cells #[.int .u64 m5, .int .u64 m1] 70) (.cells #[.string ⟨#[120]⟩] 9) (.cells #[.int .u8 1, .int .i64 0, .int .u8 5, .int .i64 0, .int .u8 12, .int .i64 0] 79) (.cells #[.int .u8 2, .int .i64 0, .int .u8 12, .int .i64 0] 79) (.cells #[.int .i64 0, .slice (some ⟨w.heap.size + 1 + 1 + 1, 0, none⟩) 3 3, .int .i64 1, .slice (some ⟨w.heap.size + 1 + 1 + 1 + 1, 0, none⟩) 2 2] 64)
  generalize (((((w.alloc (CO (.slice (some ⟨w.heap.size + 1, 0, none⟩) 2 2) (.slice (some ⟨w.heap.size + 1 + 1 + 1 + 1 + 1, 0, none⟩) 2 2) (.slice (some ⟨w.heap.size + 1 + 1, 0, none⟩) 1 1))).alloc (.cells #[.int .u64 m5, .int .u64 m1] 70)).alloc (.cells #[.string ⟨#[120]⟩] 9)).alloc (.cells #[.int .u8 1, .int .i64 0, .int .u8 5, .int .i64 0, .int .u8 12, .int .i64 0] 79)).alloc (.cells #[.int .u8 2, .int .i64 0, .int .u8 12, .int .i64 0] 79)).alloc (.cells #[.int .i64 0, .slice (some ⟨w.heap.size + 1 + 1 + 1, 0, none⟩) 3 3, .int .i64 1, .slice (some ⟨w.heap.size + 1 + 1 + 1 + 1, 0, none⟩) 2 2] 64) = wE at *
  have x0 : wE.cell? ⟨w.heap.size, 0, none⟩ = some (.slice (some ⟨w.heap.size + 1, 0, none⟩) 2 2) := heap_cell k0 rfl
  have x1 : wE.cell? ⟨w.heap.size, 1, none⟩ = some (.slice (some ⟨w.heap.size + 1 + 1 + 1 + 1 + 1, 0, none⟩) 2 2) := heap_cell k0 rfl
  have x2 : wE.cell? ⟨w.heap.size, 2, none⟩ = some (.slice (some ⟨w.heap.size + 1 + 1, 0, none⟩) 1 1) := heap_cell k0 rfl
  rw [HM.out.1, HM.out.2] at k1
  refine bodyPost_ret (v := exV (w.heap.size + 1) (w.heap.size + 1 + 1 + 1 + 1 + 1) (w.heap.size + 1 + 1)) (by simp [exV, results, Tryz.results19, go_sem, x0, x1, x2]) rfl ⟨⟨_, _, _, _, _, rfl, ⟨k1, k2, k3, k4, k5⟩, by omega⟩, kb⟩
end Go.Proofs.YtpkohocjgnodnaaGreatDoor

/- The text of code is written. -/
namespace Go.Proofs.YtpkohocjgnodnaaGreatDoor
open Go.RowKit

set_option maxRecDepth 100000 in
set_option maxHeartbeats 8000000 in
theorem written_any (c : Cd) (v : Value) (w : World) (hv : CV w v c) (hT : Tab w) (hN : TN w) (hO : ON w) (hP : TB w)
    (hc : ∀ x ∈ c.consts, (0 ≤ ofT x ∧ ofT x ≤ 7) ∧ (-9223372036854775808 ≤ ofN x ∧ ofN x ≤ 9223372036854775807))
    (hp : ∀ p ∈ c.procs, (0 ≤ p.params ∧ p.params ≤ 256) ∧ ∀ x ∈ p.code, (0 ≤ x.op ∧ x.op ≤ 18) ∧ (-9223372036854775808 ≤ x.a ∧ x.a ≤ 9223372036854775807))
    (hlen : (writtenT c).length ≤ 140737488355328) :
    Calls Tryz.prog 34 #[v] w fun e w' => e = .returned (S (writtenT c)) ∧ Below w.heap.size w w' := by
  obtain ⟨⟨r1, c1, r2, c2, r3, c3, rfl, hw, hpr, hxr, _⟩, n1, n2, n3⟩ := hv
  unfold maxLen at n1 n2 n3
  have hal : Below w.heap.size w (w.alloc (.cells #[.slice r1 c.consts.length c1, .slice r2 c.procs.length c2, .slice r3 c.globals.length c3] 26)) := (Below.refl _ w).alloc (Nat.le_refl _) _
  have hs1 : (w.alloc (.cells #[.slice r1 c.consts.length c1, .slice r2 c.procs.length c2, .slice r3 c.globals.length c3] 26)).heap.size = w.heap.size + 1 := by rw [World.size_alloc]
  have Hs1 : Hid ((w.alloc (.cells #[.slice r1 c.consts.length c1, .slice r2 c.procs.length c2, .slice r3 c.globals.length c3] 26)).heap.size = w.heap.size + 1) := hs1
  have Hal : Hid (Below w.heap.size w (w.alloc (.cells #[.slice r1 c.consts.length c1, .slice r2 c.procs.length c2, .slice r3 c.globals.length c3] 26))) := hal
  have HQ : Hid ((w.alloc (.cells #[.slice r1 c.consts.length c1, .slice r2 c.procs.length c2, .slice r3 c.globals.length c3] 26)).heap[w.heap.size]? = some (.cells #[.slice r1 c.consts.length c1, .slice r2 c.procs.length c2, .slice r3 c.globals.length c3] 26 (0, 0))) := heap_alloc_new _ _
  have hb0 : Below (w.alloc (.cells #[.slice r1 c.consts.length c1, .slice r2 c.procs.length c2, .slice r3 c.globals.length c3] 26)).heap.size (w.alloc (.cells #[.slice r1 c.consts.length c1, .slice r2 c.procs.length c2, .slice r3 c.globals.length c3] 26)) ((w.alloc (.cells #[.slice r1 c.consts.length c1, .slice r2 c.procs.length c2, .slice r3 c.globals.length c3] 26)).alloc (.cells #[.pointer none, .slice none 0 0] 134)) := (Below.refl _ _).alloc (Nat.le_refl _) _
  have HU0 : Hid (Bu (w.heap.size + 1) (w.heap.size + 1) [] ((w.alloc (.cells #[.slice r1 c.consts.length c1, .slice r2 c.procs.length c2, .slice r3 c.globals.length c3] 26)).alloc (.cells #[.pointer none, .slice none 0 0] 134))) := by
    have : Bu (w.alloc (.cells #[.slice r1 c.consts.length c1, .slice r2 c.procs.length c2, .slice r3 c.globals.length c3] 26)).heap.size (w.alloc (.cells #[.slice r1 c.consts.length c1, .slice r2 c.procs.length c2, .slice r3 c.globals.length c3] 26)).heap.size [] ((w.alloc (.cells #[.slice r1 c.consts.length c1, .slice r2 c.procs.length c2, .slice r3 c.globals.length c3] 26)).alloc (.cells #[.pointer none, .slice none 0 0] 134)) := .inl ⟨Nat.le_refl _, _, heap_alloc_new (w.alloc (.cells #[.slice r1 c.consts.length c1, .slice r2 c.procs.length c2, .slice r3 c.globals.length c3] 26)) _, World.ownsRowF_of (World.ownsRow_nil _ _ _ _), by simp [Value.ownBlock]⟩
    rwa [hs1] at this
  have HK0 : Hid (Kp (w.heap.size + 1) (w.heap.size + 1) (w.alloc (.cells #[.slice r1 c.consts.length c1, .slice r2 c.procs.length c2, .slice r3 c.globals.length c3] 26)) ((w.alloc (.cells #[.slice r1 c.consts.length c1, .slice r2 c.procs.length c2, .slice r3 c.globals.length c3] 26)).alloc (.cells #[.pointer none, .slice none 0 0] 134))) := Kp.below hb0 (by rw [hs1]; exact Nat.le_refl _)
  have HT : Hid (∀ w5, Below w.heap.size w w5 → Tab w5 ∧ TN w5 ∧ ON w5 ∧ TB w5) := fun w5 h5 => ⟨hT.below h5 hT.lt, hN.below h5, hO.below h5, hP.below h5⟩
  have HC : Hid (∀ x ∈ c.consts, (0 ≤ ofT x ∧ ofT x ≤ 7) ∧ (-9223372036854775808 ≤ ofN x ∧ ofN x ≤ 9223372036854775807)) := hc
  have HP : Hid (∀ p ∈ c.procs, (0 ≤ p.params ∧ p.params ≤ 256) ∧ ∀ x ∈ p.code, (0 ≤ x.op ∧ x.op ≤ 18) ∧ (-9223372036854775808 ≤ x.a ∧ x.a ≤ 9223372036854775807)) := hp
  have HL : Hid ((writtenT c).length ≤ 140737488355328) := hlen
  obtain ⟨b1, o1, q1, q2⟩ := WR.at hw
  have Q1 : Hid (c.consts.length ≠ 0 → r1 = some ⟨b1, o1, none⟩) := q1
  have Q2 : Hid (∀ j x, c.consts[j]? = some x → b1 < w.heap.size ∧ w.cell? ⟨b1, o1 + j, none⟩ = some (.int .u64 x) ∧ Rng x) := q2
  obtain ⟨b3, o3, g1, g2⟩ := XR.at hxr
  have G1 : Hid (c.globals.length ≠ 0 → r3 = some ⟨b3, o3, none⟩) := g1
  have G2 : Hid (∀ j x, c.globals[j]? = some x → b3 < w.heap.size ∧ w.cell? ⟨b3, o3 + j, none⟩ = some (S x) ∧ x.length ≤ maxLen) := g2
  have HPR : Hid (PR w r2 c.procs) := hpr
  clear hal hs1 hb0 hT hN hO hP hc hp hlen q1 q2 g1 g2 hw hxr hpr
  go_enter Tryz.func34, Tryz.ntmps34
  go_wp2
  go_loopw [15, 5] (fun i _ wr => ∃ (j : Nat) (m : List UInt8), i = .int .i64 j ∧ j ≤ c.consts.length ∧ Hid (m ++ (constsT (c.consts.drop j) ++ (globsT c.globals ++ procsT c.procs)) = writtenT c) ∧ Hid (Bu (w.heap.size + 1) (w.heap.size + 1) m wr) ∧ Hid (Kp (w.heap.size + 1) (w.heap.size + 1) (w.alloc (.cells #[.slice r1 c.consts.length c1, .slice r2 c.procs.length c2, .slice r3 c.globals.length c3] 26)) wr)) (fun i _ _ => c.consts.length - (intOf i).toNat)
  case atStart => exact ⟨0, [], rfl, Nat.zero_le _, by show _ = _; simp [writtenT], HU0, HK0⟩
  case round =>
    obtain ⟨j, m, rfl, hj, HM, HU, HK⟩ := hrel
    have HBw : Hid (Below w.heap.size w wr) := Hal.out.trans (HK.out.1.mono (by omega))
    have hBr : w.heap.size + 1 ≤ wr.heap.size := by have := HK.out.1.size; rw [Hs1.out] at this; exact this
    by_cases hlt : j < c.consts.length
    · have i1 : (j : Int) < (c.consts.length : Int) := by omega
      have hra := Q1.out (by omega)
      subst hra
      have hx : c.consts[j]? = some c.consts[j] := List.getElem?_eq_getElem hlt
      have hdr : c.consts.drop j = c.consts[j] :: c.consts.drop (j + 1) := List.drop_eq_getElem_cons hlt
      generalize c.consts[j] = x at hx hdr
      obtain ⟨k0, k1, k2⟩ := Q2.out j x hx
      have f1 : wr.cell? ⟨b1, o1 + j, none⟩ = some (.int .u64 x) := (HBw.out.cell (p := ⟨b1, o1 + j, none⟩) k0).trans k1
      have f0 : b1 < wr.heap.size := Nat.lt_of_lt_of_le k0 HBw.out.size
      have HM2 : Hid (m ++ (([99, 111, 110, 115, 116, 32] ++ (constT x ++ [10])) ++ constsT (c.consts.drop (j + 1)) ++ (globsT c.globals ++ procsT c.procs)) = writtenT c) := by show _ = _; rw [← HM.out, hdr]; rfl
      have HLn : Hid (m.length + [99, 111, 110, 115, 116, (32 : UInt8)].length + (constT x).length + 1 ≤ 140737488355328) := by
        show _ ≤ _
        have h5 := congrArg List.length HM2.out
        have h6 := HL.out
        simp only [List.length_append, List.length_cons, List.length_nil] at h5 ⊢
        omega
      have HCt : Hid (Calls Tryz.prog 85 #[.int .u64 x] wr fun e w' => e = .returned (S (constT x)) ∧ Below wr.heap.size wr w') := by
        have t := HT.out wr HBw.out
        have u := HC.out x (List.mem_of_getElem? hx)
        exact constText_any x wr k2 t.1 t.2.1 t.2.2.2 u.1 u.2
      clear hx hdr k0 k1 k2
      go_wp2_with fail
      refine Calls.mono HCt.out ?_
      rintro e w3 ⟨rfl, hb3⟩
      have HU3 : Hid (Bu (w.heap.size + 1) (w.heap.size + 1) m w3) := HU.out.kept hb3
      have HK3 : Hid (Kp (w.heap.size + 1) (w.heap.size + 1) (w.alloc (.cells #[.slice (some ⟨b1, o1, none⟩) c.consts.length c1, .slice r2 c.procs.length c2, .slice r3 c.globals.length c3] 26)) w3) := HK.out.trans (Kp.below hb3 hBr)
      have hB3 : w.heap.size + 1 ≤ w3.heap.size := Nat.le_trans hBr hb3.size
      clear hb3 HCt
      go_wp2_with fail
      refine (writeLine_any (w.heap.size + 1) (w.heap.size + 1) m [99, 111, 110, 115, 116, 32] (constT x) w3 HU3.out HLn.out hB3).mono ?_
      rintro e w4 ⟨⟨v4, rfl⟩, hu4, hk4⟩
      have HU4 : Hid (Bu (w.heap.size + 1) (w.heap.size + 1) (m ++ ([99, 111, 110, 115, 116, 32] ++ (constT x ++ [10]))) w4) := hu4
      have HK4 : Hid (Kp (w.heap.size + 1) (w.heap.size + 1) (w.alloc (.cells #[.slice (some ⟨b1, o1, none⟩) c.consts.length c1, .slice r2 c.procs.length c2, .slice r3 c.globals.length c3] 26)) w4) := HK3.out.trans hk4
      clear hu4 hk4 f1
      go_wp2
      go_roundw
      case rel =>
        refine ⟨j + 1, _, by go_num, by omega, ?_, HU4, HK4⟩
        show _ = _
        rw [← HM2.out]; simp only [List.append_assoc]
      case measure => simp [intOf]; omega
    · have i1 : ¬ (j : Int) < (c.consts.length : Int) := by omega
      have HM3 : Hid (m ++ (globsT c.globals ++ procsT c.procs) = writtenT c) := by show _ = _; rw [← HM.out, List.drop_of_length_le (by omega)]; rfl
      have e0 : wr.heap[w.heap.size]? = some (.cells #[.slice r1 c.consts.length c1, .slice r2 c.procs.length c2, .slice r3 c.globals.length c3] 26 (0, 0)) := (HK.out.1.block _ (by omega)).trans HQ.out
      have u2 : wr.cell? ⟨w.heap.size, 2, none⟩ = some (.slice r3 c.globals.length c3) := by simp [World.cell?, e0]
      have s0 : w.heap.size < wr.heap.size := by omega
      clear e0 HM
      go_wp2
      go_loopw [26, 7] (fun i _ wr => ∃ (j : Nat) (m : List UInt8), i = .int .i64 j ∧ j ≤ c.globals.length ∧ Hid (m ++ (globsT (c.globals.drop j) ++ procsT c.procs) = writtenT c) ∧ Hid (Bu (w.heap.size + 1) (w.heap.size + 1) m wr) ∧ Hid (Kp (w.heap.size + 1) (w.heap.size + 1) (w.alloc (.cells #[.slice r1 c.consts.length c1, .slice r2 c.procs.length c2, .slice r3 c.globals.length c3] 26)) wr)) (fun i _ _ => c.globals.length - (intOf i).toNat)
      case atStart => exact ⟨0, m, rfl, Nat.zero_le _, by show _ = _; simpa using HM3.out, HU, HK⟩
      case round =>
        clear HM3 HU HK HBw hBr hlt i1 hj u2 s0
        obtain ⟨j, m, rfl, hj, HM, HU, HK⟩ := hrel
        have HBw : Hid (Below w.heap.size w wr) := Hal.out.trans (HK.out.1.mono (by omega))
        have hBr : w.heap.size + 1 ≤ wr.heap.size := by have := HK.out.1.size; rw [Hs1.out] at this; exact this
        by_cases hlt : j < c.globals.length
        · have i1 : (j : Int) < (c.globals.length : Int) := by omega
          have hra := G1.out (by omega)
          subst hra
          have hx : c.globals[j]? = some c.globals[j] := List.getElem?_eq_getElem hlt
          have hdr : c.globals.drop j = c.globals[j] :: c.globals.drop (j + 1) := List.drop_eq_getElem_cons hlt
          generalize c.globals[j] = x at hx hdr
          obtain ⟨k0, k1, k2⟩ := G2.out j x hx
          have f1 : wr.cell? ⟨b3, o3 + j, none⟩ = some (S x) := (HBw.out.cell (p := ⟨b3, o3 + j, none⟩) k0).trans k1
          have f0 : b3 < wr.heap.size := Nat.lt_of_lt_of_le k0 HBw.out.size
          have HM2 : Hid (m ++ (([103, 108, 111, 98, 97, 108, 32] ++ (x ++ [10])) ++ globsT (c.globals.drop (j + 1)) ++ procsT c.procs) = writtenT c) := by show _ = _; rw [← HM.out, hdr]; rfl
          have HLn : Hid (m.length + [103, 108, 111, 98, 97, 108, (32 : UInt8)].length + x.length + 1 ≤ 140737488355328) := by
            show _ ≤ _
            have h5 := congrArg List.length HM2.out
            have h6 := HL.out
            simp only [List.length_append, List.length_cons, List.length_nil] at h5 ⊢
            omega
          clear hx hdr k0 k1 k2
          go_wp2_with fail
          refine (writeLine_any (w.heap.size + 1) (w.heap.size + 1) m [103, 108, 111, 98, 97, 108, 32] x wr HU.out HLn.out hBr).mono ?_
          rintro e w4 ⟨⟨v4, rfl⟩, hu4, hk4⟩
          have HU4 : Hid (Bu (w.heap.size + 1) (w.heap.size + 1) (m ++ ([103, 108, 111, 98, 97, 108, 32] ++ (x ++ [10]))) w4) := hu4
          have HK4 : Hid (Kp (w.heap.size + 1) (w.heap.size + 1) (w.alloc (.cells #[.slice r1 c.consts.length c1, .slice r2 c.procs.length c2, .slice (some ⟨b3, o3, none⟩) c.globals.length c3] 26)) w4) := HK.out.trans hk4
          clear hu4 hk4 f1
          go_wp2
          go_roundw
          case rel =>
            refine ⟨j + 1, _, by go_num, by omega, ?_, HU4, HK4⟩
            show _ = _
            rw [← HM2.out]; simp only [List.append_assoc]
          case measure => simp [intOf]; omega
        · have i1 : ¬ (j : Int) < (c.globals.length : Int) := by omega
          have HM3 : Hid (m ++ procsT c.procs = writtenT c) := by show _ = _; rw [← HM.out, List.drop_of_length_le (by omega)]; rfl
          have e0 : wr.heap[w.heap.size]? = some (.cells #[.slice r1 c.consts.length c1, .slice r2 c.procs.length c2, .slice r3 c.globals.length c3] 26 (0, 0)) := (HK.out.1.block _ (by omega)).trans HQ.out
          have u1 : wr.cell? ⟨w.heap.size, 1, none⟩ = some (.slice r2 c.procs.length c2) := by simp [World.cell?, e0]
          have s0 : w.heap.size < wr.heap.size := by omega
          clear e0 HM
          go_wp2
          go_loopw [36, 9] (fun i _ wr => ∃ (j : Nat) (m : List UInt8), i = .int .i64 j ∧ j ≤ c.procs.length ∧ Hid (m ++ procsT (c.procs.drop j) = writtenT c) ∧ Hid (Bu (w.heap.size + 1) (w.heap.size + 1) m wr) ∧ Hid (Kp (w.heap.size + 1) (w.heap.size + 1) (w.alloc (.cells #[.slice r1 c.consts.length c1, .slice r2 c.procs.length c2, .slice r3 c.globals.length c3] 26)) wr)) (fun i _ _ => c.procs.length - (intOf i).toNat)
          case atStart => exact ⟨0, m, rfl, Nat.zero_le _, by show _ = _; simpa using HM3.out, HU, HK⟩
          case round =>
            clear HM3 HU HK HBw hBr hlt i1 hj u1 s0
            obtain ⟨j, m, rfl, hj, HM, HU, HK⟩ := hrel
            have HBw : Hid (Below w.heap.size w wr) := Hal.out.trans (HK.out.1.mono (by omega))
            have hBr : w.heap.size + 1 ≤ wr.heap.size := by have := HK.out.1.size; rw [Hs1.out] at this; exact this
            obtain ⟨wA, rfl⟩ : ∃ wA, wA = wr := ⟨wr, rfl⟩
            by_cases hlt : j < c.procs.length
            · have i1 : (j : Int) < (c.procs.length : Int) := by omega
              obtain ⟨b2, o2, p1, p2⟩ := PR.at HPR.out
              have hra := p1 (by omega)
              subst hra
              have hx : c.procs[j]? = some c.procs[j] := List.getElem?_eq_getElem hlt
              have hdr : c.procs.drop j = c.procs[j] :: c.procs.drop (j + 1) := List.drop_eq_getElem_cons hlt
              generalize c.procs[j] = x at hx hdr
              obtain ⟨k0, k1, ⟨rc, cc, k2, k3⟩, k4⟩ := p2 j x hx
              have hpx := HP.out x (List.mem_of_getElem? hx)
              have HPX : Hid (∀ y ∈ x.code, (0 ≤ y.op ∧ y.op ≤ 18) ∧ (-9223372036854775808 ≤ y.a ∧ y.a ≤ 9223372036854775807)) := hpx.2
              have f1 : wA.cell? ⟨b2, o2 + j * 2, none⟩ = some (.int .i64 x.params) := (HBw.out.cell (p := ⟨b2, o2 + j * 2, none⟩) k0).trans k1
              have f2 : wA.cell? ⟨b2, o2 + j * 2 + 1, none⟩ = some (.slice rc x.code.length cc) := (HBw.out.cell (p := ⟨b2, o2 + j * 2 + 1, none⟩) k0).trans k2
              have f0 : b2 < wA.heap.size := Nat.lt_of_lt_of_le k0 HBw.out.size
              have HM2 : Hid (m ++ ((([112, 114, 111, 99, 32] ++ (Lib.itoa x.params ++ [10])) ++ codeT x.code) ++ procsT (c.procs.drop (j + 1))) = writtenT c) := by show _ = _; rw [← HM.out, hdr]; rfl
              have HLn : Hid (m.length + [112, 114, 111, 99, (32 : UInt8)].length + (Lib.itoa x.params).length + 1 ≤ 140737488355328) := by
                show _ ≤ _
                have h5 := congrArg List.length HM2.out
                have h6 := HL.out
                simp only [List.length_append, List.length_cons, List.length_nil] at h5 ⊢
                omega
              have hba : Below wA.heap.size wA (wA.alloc (.cells #[.int .i64 x.params, .slice rc x.code.length cc] 64)) := (Below.refl _ wA).alloc (Nat.le_refl _) _
              have HBa : Hid (Below wA.heap.size wA (wA.alloc (.cells #[.int .i64 x.params, .slice rc x.code.length cc] 64))) := hba
              have HIt : Hid (Calls Tryz.prog 86 #[.int .i64 x.params] (wA.alloc (.cells #[.int .i64 x.params, .slice rc x.code.length cc] 64)) fun e w' => e = .returned (S (Lib.itoa x.params)) ∧ Below (wA.alloc (.cells #[.int .i64 x.params, .slice rc x.code.length cc] 64)).heap.size (wA.alloc (.cells #[.int .i64 x.params, .slice rc x.code.length cc] 64)) w') :=
                itoa_any _ (by omega) (by omega) _ (HT.out _ (HBw.out.trans (hba.mono HBw.out.size))).2.2.2
              have HE0 : Hid ((wA.alloc (.cells #[.int .i64 x.params, .slice rc x.code.length cc] 64)).heap[wA.heap.size]? = some (.cells #[.int .i64 x.params, .slice rc x.code.length cc] 64 (0, 0))) := heap_alloc_new _ _
              have HNR : Hid (NR w rc x.code) := k3
              have HBlt : Hid (w.heap.size + 1 < wA.heap.size) := HU.out.elim (fun h => h.lt) (fun h => h.lt)
              have n4 : x.code.length ≤ 2 ^ 63 - 1 := k4
              clear hx hdr k0 k1 k2 k3 k4 hpx p1 p2 hba
              go_wp2_with fail
              refine Calls.mono HIt.out ?_
              rintro e w3 ⟨rfl, hb3⟩
              have HB3 : Hid (Below wA.heap.size wA w3) := HBa.out.trans (hb3.mono HBa.out.size)
              have HU3 : Hid (Bu (w.heap.size + 1) (w.heap.size + 1) m w3) := HU.out.kept HB3.out
              have HK3 : Hid (Kp (w.heap.size + 1) (w.heap.size + 1) (w.alloc (.cells #[.slice r1 c.consts.length c1, .slice (some ⟨b2, o2, none⟩) c.procs.length c2, .slice r3 c.globals.length c3] 26)) w3) := HK.out.trans (Kp.below HB3.out hBr)
              have HE3 : Hid (w3.heap[wA.heap.size]? = some (.cells #[.int .i64 x.params, .slice rc x.code.length cc] 64 (0, 0))) := (hb3.block _ (by simp)).trans HE0.out
              have hB3 : w.heap.size + 1 ≤ w3.heap.size := Nat.le_trans hBr HB3.out.size
              clear hb3 HIt
              go_wp2_with fail
              refine (writeLine_any (w.heap.size + 1) (w.heap.size + 1) m [112, 114, 111, 99, 32] (Lib.itoa x.params) w3 HU3.out HLn.out hB3).mono ?_
              rintro e w4 ⟨⟨v4, rfl⟩, hu4, hk4⟩
              have HU4 : Hid (Bu (w.heap.size + 1) (w.heap.size + 1) (m ++ ([112, 114, 111, 99, 32] ++ (Lib.itoa x.params ++ [10]))) w4) := hu4
              have HK4 : Hid (Kp (w.heap.size + 1) (w.heap.size + 1) (w.alloc (.cells #[.slice r1 c.consts.length c1, .slice (some ⟨b2, o2, none⟩) c.procs.length c2, .slice r3 c.globals.length c3] 26)) w4) := HK3.out.trans hk4
              have e4 : w4.heap[wA.heap.size]? = some (.cells #[.int .i64 x.params, .slice rc x.code.length cc] 64 (0, 0)) := hk4.2 _ _ HE3.out (fun e => by have h7 := Option.some.inj e; have h8 := HBlt.out; omega) (fun c fz e => by cases e)
              have v1 : w4.cell? ⟨wA.heap.size, 1, none⟩ = some (.slice rc x.code.length cc) := by simp [World.cell?, e4]
              have v0 : wA.heap.size < w4.heap.size := (Array.getElem?_eq_some_iff.1 e4).1
              clear hu4 hk4 f1 f2 e4
              go_wp2
              go_loopw [47, 11] (fun i _ wr => ∃ (k : Nat) (m : List UInt8), i = .int .i64 k ∧ k ≤ x.code.length ∧ Hid (m ++ (codeT (x.code.drop k) ++ procsT (c.procs.drop (j + 1))) = writtenT c) ∧ Hid (Bu (w.heap.size + 1) (w.heap.size + 1) m wr) ∧ Hid (Kp (w.heap.size + 1) (w.heap.size + 1) (w.alloc (.cells #[.slice r1 c.consts.length c1, .slice (some ⟨b2, o2, none⟩) c.procs.length c2, .slice r3 c.globals.length c3] 26)) wr)) (fun i _ _ => x.code.length - (intOf i).toNat)
              case atStart => exact ⟨0, _, rfl, Nat.zero_le _, by show _ = _; rw [← HM2.out]; simp only [List.append_assoc, List.drop_zero], HU4, HK4⟩
              case round =>
                clear v0 v1 HU4 HK4 HU3 HK3
                obtain ⟨k, m', rfl, hk, HM', HU', HK'⟩ := hrel
                have HBw' : Hid (Below w.heap.size w wr) := Hal.out.trans (HK'.out.1.mono (by omega))
                have hBr' : w.heap.size + 1 ≤ wr.heap.size := by have := HK'.out.1.size; rw [Hs1.out] at this; exact this
                by_cases hlt2 : k < x.code.length
                · have i2 : (k : Int) < (x.code.length : Int) := by omega
                  obtain ⟨b4, o4, t1, t2⟩ := NR.at HNR.out
                  have hrc := t1 (by omega)
                  subst hrc
                  have hy : x.code[k]? = some x.code[k] := List.getElem?_eq_getElem hlt2
                  have hdy : x.code.drop k = x.code[k] :: x.code.drop (k + 1) := List.drop_eq_getElem_cons hlt2
                  generalize x.code[k] = y at hy hdy
                  obtain ⟨k0, k1, k2⟩ := t2 k y hy
                  have hpy := HPX.out y (List.mem_of_getElem? hy)
                  have f1 : wr.cell? ⟨b4, o4 + k * 2, none⟩ = some (.int .u8 y.op) := (HBw'.out.cell (p := ⟨b4, o4 + k * 2, none⟩) k0).trans k1
                  have f2 : wr.cell? ⟨b4, o4 + k * 2 + 1, none⟩ = some (.int .i64 y.a) := (HBw'.out.cell (p := ⟨b4, o4 + k * 2 + 1, none⟩) k0).trans k2
                  have f0' : b4 < wr.heap.size := Nat.lt_of_lt_of_le k0 HBw'.out.size
                  have HM4 : Hid (m' ++ ((([32] ++ (instrT y ++ [10])) ++ codeT (x.code.drop (k + 1))) ++ procsT (c.procs.drop (j + 1))) = writtenT c) := by show _ = _; rw [← HM'.out, hdy]; rfl
                  have HLm : Hid (m'.length + [(32 : UInt8)].length + (instrT y).length + 1 ≤ 140737488355328) := by
                    show _ ≤ _
                    have h5 := congrArg List.length HM4.out
                    have h6 := HL.out
                    simp only [List.length_append, List.length_cons, List.length_nil] at h5 ⊢
                    omega
                  have hbi : Below wr.heap.size wr (wr.alloc (.cells #[.int .u8 y.op, .int .i64 y.a] 79)) := (Below.refl _ wr).alloc (Nat.le_refl _) _
                  have HBi : Hid (Below wr.heap.size wr (wr.alloc (.cells #[.int .u8 y.op, .int .i64 y.a] 79))) := hbi
                  have HIn : Hid (Calls Tryz.prog 87 #[.agg #[.int .u8 y.op, .int .i64 y.a]] (wr.alloc (.cells #[.int .u8 y.op, .int .i64 y.a] 79)) fun e w' => e = .returned (S (instrT y)) ∧ Below (wr.alloc (.cells #[.int .u8 y.op, .int .i64 y.a] 79)).heap.size (wr.alloc (.cells #[.int .u8 y.op, .int .i64 y.a] 79)) w') :=
                    instrText_any y _ (HT.out _ (HBw'.out.trans (hbi.mono HBw'.out.size))).2.2.1 (HT.out _ (HBw'.out.trans (hbi.mono HBw'.out.size))).2.2.2 hpy.1 hpy.2
                  clear hy hdy k0 k1 k2 hpy t1 t2 hbi
                  go_wp2_with fail
                  refine Calls.mono HIn.out ?_
                  rintro e w5 ⟨rfl, hb5⟩
                  have HB5 : Hid (Below wr.heap.size wr w5) := HBi.out.trans (hb5.mono HBi.out.size)
                  have HU5 : Hid (Bu (w.heap.size + 1) (w.heap.size + 1) m' w5) := HU'.out.kept HB5.out
                  have HK5 : Hid (Kp (w.heap.size + 1) (w.heap.size + 1) (w.alloc (.cells #[.slice r1 c.consts.length c1, .slice (some ⟨b2, o2, none⟩) c.procs.length c2, .slice r3 c.globals.length c3] 26)) w5) := HK'.out.trans (Kp.below HB5.out hBr')
                  have hB5 : w.heap.size + 1 ≤ w5.heap.size := Nat.le_trans hBr' HB5.out.size
                  clear hb5 HIn
                  go_wp2_with fail
                  refine (writeLine_any (w.heap.size + 1) (w.heap.size + 1) m' [32] (instrT y) w5 HU5.out HLm.out hB5).mono ?_
                  rintro e w6 ⟨⟨v6, rfl⟩, hu6, hk6⟩
                  have HU6 : Hid (Bu (w.heap.size + 1) (w.heap.size + 1) (m' ++ ([32] ++ (instrT y ++ [10]))) w6) := hu6
                  have HK6 : Hid (Kp (w.heap.size + 1) (w.heap.size + 1) (w.alloc (.cells #[.slice r1 c.consts.length c1, .slice (some ⟨b2, o2, none⟩) c.procs.length c2, .slice r3 c.globals.length c3] 26)) w6) := HK5.out.trans hk6
                  clear hu6 hk6 f1 f2
                  go_wp2
                  go_roundw
                  case rel =>
                    refine ⟨k + 1, _, by go_num, by omega, ?_, HU6, HK6⟩
                    show _ = _
                    rw [← HM4.out]; simp only [List.append_assoc]
                  case measure => simp [intOf]; omega
                · have i2 : ¬ (k : Int) < (x.code.length : Int) := by omega
                  have HM5 : Hid (m' ++ procsT (c.procs.drop (j + 1)) = writtenT c) := by show _ = _; rw [← HM'.out, show x.code.drop k = [] from List.drop_of_length_le (by omega)]; rfl
                  go_wp2
                  go_roundw
                  case rel => exact ⟨j + 1, m', by go_num, by omega, HM5, HU', HK'⟩
                  case measure => simp [intOf]; omega
            · have i1 : ¬ (j : Int) < (c.procs.length : Int) := by omega
              have HM3 : Hid (m = writtenT c) := by show _ = _; rw [← HM.out, List.drop_of_length_le (by omega)]; simp [procsT]
              go_wp2_with fail
              refine (Tryz.Builder_String_any_k (w.heap.size + 1) (w.heap.size + 1) m wA HU.out hBr).mono ?_
              rintro e w7 ⟨rfl, _, hb7, _⟩
              have HB7 : Hid (Below w.heap.size w w7) := HBw.out.trans (hb7.mono (by omega))
              clear hb7
              go_wp2
              go_ret
              exact ⟨by rw [← HM3.out]; rfl, HB7.out⟩
end Go.Proofs.YtpkohocjgnodnaaGreatDoor

/- code.Text. -/
namespace Go.Proofs.YtpkohocjgnodnaaGreatDoor
open Go.RowKit

theorem CV.below {w w' : World} {v : Value} {c : Cd} (h : CV w v c) (hb : Below w.heap.size w w') : CV w' v c := by
  obtain ⟨⟨r1, c1, r2, c2, r3, c3, e, h1, h2, h3, h4⟩, h5⟩ := h
  exact ⟨⟨r1, c1, r2, c2, r3, c3, e, h1.below hb, h2.below hb, h3.below hb, h4⟩, h5⟩
theorem const_fits {x : Int} (h : isConstB x = true) : (0 ≤ ofT x ∧ ofT x ≤ 7) ∧ (-9223372036854775808 ≤ ofN x ∧ ofN x ≤ 9223372036854775807) := by
  unfold isConstB at h
  rw [Bool.and_eq_true, bne_iff_ne] at h
  obtain ⟨h1, h2⟩ := h
  unfold ofT at h2 ⊢
  unfold ofN
  rw [if_pos h1] at h2 ⊢
  rw [if_pos h1]
  unfold wd at h1
  rw [Bool.and_eq_true, isTag_iff, may_iff] at h1
  obtain ⟨⟨a, b⟩, d, e⟩ := h1
  have hlo : -9223372036854775808 ≤ lo (tg x) := by unfold lo; (repeat' split) <;> omega
  have hhi : hi (tg x) ≤ 9223372036854775807 := by unfold hi; (repeat' split) <;> omega
  exact ⟨⟨by omega, by omega⟩, by omega, by omega⟩
/-- Text's answer. -/
def textV (c : Cd) : Value := if (chkC c).1 = 0 then .tuple #[S (writtenT c), .int .i64 0] else .tuple #[S [], .int .i64 (chkC c).1]

set_option maxRecDepth 100000 in
set_option maxHeartbeats 4000000 in
theorem text_any (c : Cd) (v : Value) (w : World) (hv : CV w v c) (hx : ∀ t ∈ c.globals, t.length ≤ 281474976710656) (hT : Tab w) (hE : EV w) (hP : PT w) (hN : TN w) (hO : ON w) (hB : TB w) (hlen : (writtenT c).length ≤ 140737488355328) :
    Calls Tryz.prog 11 #[v] w fun e w' => e = .returned (textV c) ∧ Below w.heap.size w w' := by
  have HCh : Hid (∀ w5, Below w.heap.size w w5 → Calls Tryz.prog 10 #[v] w5 fun e w' => e = .returned (eppV (chkC c)) ∧ Below w5.heap.size w5 w') := fun w5 h5 => check_any c v w5 (hv.below h5) hx (hT.below h5 hT.lt) (hE.below h5 hE.lt) (hP.below h5)
  have HWr : Hid ((chkC c).1 = 0 → ∀ w5, Below w.heap.size w w5 → Calls Tryz.prog 34 #[v] w5 fun e w' => e = .returned (S (writtenT c)) ∧ Below w5.heap.size w5 w') := fun h0 w5 h5 => by
    obtain ⟨a1, a2⟩ := chkC_ok h0
    refine written_any c v w5 (hv.below h5) (hT.below h5 hT.lt) (hN.below h5) (hO.below h5) (hB.below h5) (fun x hx => const_fits ((listsE_ok a1).2.2.2.2.1 x hx)) (fun p hp => ⟨(chkP_ok (a2 p hp)).2.2.1, fun x hx => ?_⟩) hlen
    obtain ⟨d1, d2⟩ := (chkP_ok (a2 p hp)).2.2.2 x hx
    have d3 := (chkP_ok (a2 p hp)).1
    obtain ⟨l1, l2, l3, _⟩ := listsE_ok a1
    unfold isOpB at d1
    unfold fitsB at d2
    rw [decide_eq_true_eq] at d1 d2
    have q1 : 0 ≤ leastA x.op := by unfold leastA; split <;> omega
    have q2 : mostA c.consts.length c.globals.length c.procs.length p.code.length x.op ≤ 100000 := by unfold mostA; (repeat' split) <;> omega
    exact ⟨⟨by omega, by omega⟩, by omega, by omega⟩
  obtain ⟨⟨r1, c1, r2, c2, r3, c3, rfl, _⟩, n1, n2, n3⟩ := hv
  unfold maxLen at n1 n2 n3
  have HA : Hid (Below w.heap.size w (w.alloc (.cells #[.slice r1 c.consts.length c1, .slice r2 c.procs.length c2, .slice r3 c.globals.length c3] 26))) := (Below.refl _ w).alloc (Nat.le_refl _) _
  have HQ : Hid ((w.alloc (.cells #[.slice r1 c.consts.length c1, .slice r2 c.procs.length c2, .slice r3 c.globals.length c3] 26)).heap[w.heap.size]? = some (.cells #[.slice r1 c.consts.length c1, .slice r2 c.procs.length c2, .slice r3 c.globals.length c3] 26 (0, 0))) := heap_alloc_new _ _
  clear hx hT hE hP hN hO hB hlen
  go_enter Tryz.func11, Tryz.ntmps11
  go_wp2_with fail
  refine (HCh.out _ HA.out).mono ?_
  rintro e w1 ⟨rfl, hb1⟩
  have HB1 : Hid (Below w.heap.size w w1) := HA.out.trans (hb1.mono HA.out.size)
  have e1 := (hb1.block w.heap.size (by simp)).trans HQ.out
  have u0 : w1.cell? ⟨w.heap.size, 0, none⟩ = some (.slice r1 c.consts.length c1) := by simp [World.cell?, e1]
  have u1 : w1.cell? ⟨w.heap.size, 1, none⟩ = some (.slice r2 c.procs.length c2) := by simp [World.cell?, e1]
  have u2 : w1.cell? ⟨w.heap.size, 2, none⟩ = some (.slice r3 c.globals.length c3) := by simp [World.cell?, e1]
  have s0 : w.heap.size < w1.heap.size := (Array.getElem?_eq_some_iff.1 e1).1
  clear hb1 e1
  have HV : Hid (textV c = if (chkC c).1 = 0 then .tuple #[S (writtenT c), .int .i64 0] else .tuple #[S [], .int .i64 (chkC c).1]) := by show _ = _; rfl
  generalize chkC c = r at HV HWr ⊢
  obtain ⟨er, pr, pl⟩ := r
  unfold eppV
  by_cases her : er = 0
  · subst her
    have HV2 : Hid (textV c = .tuple #[S (writtenT c), .int .i64 0]) := by show _ = _; rw [HV.out]; rfl
    have HW2 : Hid (∀ w5, Below w.heap.size w w5 → Calls Tryz.prog 34 #[.agg #[.slice r1 c.consts.length c1, .slice r2 c.procs.length c2, .slice r3 c.globals.length c3]] w5 fun e w' => e = .returned (S (writtenT c)) ∧ Below w5.heap.size w5 w') := HWr.out rfl
    clear HV HWr
    go_wp2_with fail
    refine (HW2.out _ HB1.out).mono ?_
    rintro e w2 ⟨rfl, hb2⟩
    have HB2 : Hid (Below w.heap.size w w2) := HB1.out.trans (hb2.mono HB1.out.size)
    clear hb2
    go_wp2
    go_ret2
    exact ⟨by rw [HV2.out]; rfl, HB2.out⟩
  · have HV2 : Hid (textV c = .tuple #[S [], .int .i64 er]) := by show _ = _; rw [HV.out]; exact if_neg her
    have her' : (er == 0) = false := by simpa using her
    clear her HV HWr
    go_wp2
    go_ret2
    exact ⟨by rw [HV2.out]; rfl, HB1.out⟩
end Go.Proofs.YtpkohocjgnodnaaGreatDoor
