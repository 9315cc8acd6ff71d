/- A label that has come; a label that comes.; A label that comes. -/
import Derived.Test.YtejmoopgfnjaaaaDoorK16
/- A label that has come; a label that comes. -/
namespace Go.Proofs.YtejmoopgfnjaaaaDoor
open Go.RowKit Go.Maps Go.ChangeMaps

set_option maxRecDepth 100000 in
set_option maxHeartbeats 4000000 in
theorem again_2 (B b mb n : Nat) (a0 a1 a2 a4 : Value) (f : Nat → Lab) (l : List UInt8) (c k : Nat) (w : World) (h : Tl B b a0 a1 a2 (.map (some mb)) a4 l w) (hT : ∀ w', Below B w w' → TB w') (hM : LM w mb n f) (hc : c ≤ 2147483647) (hBw : B ≤ w.heap.size) (hlen : l.length + 300 ≤ 140737488355328) (hk : k ≤ 3000000) (m : Int) (hf : f c = ⟨m, true, k⟩) (hm : ¬ m = 1) :
    Calls Tryd.prog 37 #[.pointer (some ⟨b, 0, none⟩), .int .i64 c] w fun e w' => e = .returned (.bool true) ∧ Tl B b a0 a1 a2 (.map (some mb)) a4 (l ++ betw [35] k [35]) w' ∧ Kp B b w w' := by
  have hlk := hM.look (c := c) (by omega)
  obtain ⟨⟨_, _, _, c3, _⟩, l0⟩ := h.at2
  rw [hf] at hlk
  have hal : Below w.heap.size w (w.alloc (.cells #[.int .i64 m, .bool true, .int .i64 k] 88)) := (Below.refl _ w).alloc (Nat.le_refl _) _
  have HB : Hid _ := hal
  have HN : Hid _ := tellNum_any B b a0 a1 a2 (.map (some mb)) a4 l [35] [35] k (w.alloc (.cells #[.int .i64 m, .bool true, .int .i64 k] 88)) (h.kept hal) (fun w' h' => hT w' ((hal.mono hBw).trans h')) (by omega) (by omega) (by simp) (by simp) hlen (Nat.le_trans hBw hal.size)
  clear h hM hal hf hT
  unfold labV at hlk
  go_enter Tryd.func37, Tryd.ntmps37
  go_wp2_with fail
  refine Calls.mono HN.out ?_
  rintro e w2 ⟨⟨v, rfl⟩, hB1, hK1⟩
  have HB1 : Hid (Tl B b a0 a1 a2 (.map (some mb)) a4 (l ++ betw [35] k [35]) w2) := hB1
  have HK1 : Hid (Kp B b w w2) := (Kp.below HB.out hBw).trans hK1
  clear hB1 hK1 HN
  go_wp2
  go_ret
  exact ⟨rfl, HB1.out, HK1.out⟩
end Go.Proofs.YtejmoopgfnjaaaaDoor

/- A label that comes. -/
namespace Go.Proofs.YtejmoopgfnjaaaaDoor
open Go.RowKit Go.Maps Go.ChangeMaps

theorem Tl.block {B b : Nat} {a0 a1 a2 a3 a4 : Value} {l : List UInt8} {w : World} (h : Tl B b a0 a1 a2 a3 a4 l w) : B ≤ b ∧ ∃ p v, (p = .pointer none ∨ p = .pointer (some ⟨b, 5, none⟩)) ∧ w.heap[b]? = some (.cells #[a0, a1, a2, a3, a4, p, v] 65 (0, 0)) ∧ w.ownsRowF B 5 1 v l.length (Lib.byteCells l) ∧ v.ownBlock ≠ some b := by
  rcases h with ⟨hB, v, h1, h2, h3⟩ | ⟨hB, v, h1, h2, h3⟩
  · exact ⟨hB, _, v, .inl rfl, h1, h2, h3⟩
  · exact ⟨hB, _, v, .inr rfl, h1, h2, h3⟩
theorem Tl.of {B b : Nat} {a0 a1 a2 a3 a4 p v : Value} {l : List UInt8} {w : World} (hB : B ≤ b) (hp : p = .pointer none ∨ p = .pointer (some ⟨b, 5, none⟩)) (h1 : w.heap[b]? = some (.cells #[a0, a1, a2, a3, a4, p, v] 65 (0, 0))) (h2 : w.ownsRowF B 5 1 v l.length (Lib.byteCells l)) (h3 : v.ownBlock ≠ some b) : Tl B b a0 a1 a2 a3 a4 l w := by
  rcases hp with rfl | rfl
  · exact .inl ⟨hB, v, h1, h2, h3⟩
  · exact .inr ⟨hB, v, h1, h2, h3⟩
theorem Tl.came {B b : Nat} {a0 a1 a2 a3 a4 : Value} {l : List UInt8} {w : World} (h : Tl B b a0 a1 a2 a3 a4 l w) (q : Value) : Tl B b a0 a1 a2 a3 q l (w.setCell ⟨b, 4, none⟩ q) := by
  obtain ⟨hB, p, v, hp, h1, h2, h3⟩ := h.block
  refine Tl.of (v := v) hB hp ?_ (h2.kept (grown_set w ⟨b, 4, none⟩ q) (Or.inr h3)) h3
  simp [World.setCell, Array.getElem?_modify, h1]
theorem Tl.apart {B b mb n : Nat} {a0 a1 a2 a3 a4 : Value} {l : List UInt8} {f : Nat → Lab} {w : World} (h : Tl B b a0 a1 a2 a3 a4 l w) (hM : LM w mb n f) : mb ≠ b := by
  obtain ⟨hB, p, v, hp, h1, h2, h3⟩ := h.block
  obtain ⟨D, _, ⟨es, clock, hb, _⟩, _⟩ := hM
  intro e
  rw [e, h1] at hb
  cases hb
/-- The map turns: the teller stands. -/
theorem Tl.mapped {B b mb n : Nat} {a0 a1 a2 a3 a4 : Value} {l : List UInt8} {f : Nat → Lab} {w w' : World} (h : Tl B b a0 a1 a2 a3 a4 l w) (hM : LM w mb n f) (hg : w.grownBy w' (some mb)) : Tl B b a0 a1 a2 a3 a4 l w' := by
  have hne := h.apart hM
  obtain ⟨hB, p, v, hp, h1, h2, h3⟩ := h.block
  have hvm : v.ownBlock ≠ some mb := by
    intro e
    obtain ⟨c, fz, hc⟩ := Lib.ownsRowF_kind h2 mb e
    obtain ⟨D, _, ⟨es, clock, hb, _⟩, _⟩ := hM
    rw [hb] at hc
    cases hc
  exact Tl.of hB hp ((hg.block b (heap_lt h1) (fun e => hne (Option.some.inj e).symm)).trans h1) (h2.kept hg (Or.inr hvm)) h3
/-- What telling turns: the teller, its labels, and rows of bytes from B on. -/
def KM (B b mb : Nat) (w w' : World) : Prop := Below B w w' ∧ ∀ i o, w.heap[i]? = some o → i ≠ b → i ≠ mb → (∀ c fz, o ≠ .cells c 5 fz) → w'.heap[i]? = some o
theorem KM.refl (B b mb : Nat) (w : World) : KM B b mb w w := ⟨Below.refl _ _, fun _ _ h _ _ _ => h⟩
theorem KM.trans {B b mb : Nat} {u v w : World} (h : KM B b mb u v) (k : KM B b mb v w) : KM B b mb u w := ⟨h.1.trans k.1, fun i o h1 h2 h3 h4 => k.2 i o (h.2 i o h1 h2 h3 h4) h2 h3 h4⟩
theorem KM.kp {B b mb : Nat} {w w' : World} (h : Kp B b w w') : KM B b mb w w' := ⟨h.1, fun i o h1 h2 _ h4 => h.2 i o h1 (fun e => h2 (Option.some.inj e)) h4⟩
theorem KM.below {B b mb : Nat} {w w' : World} (h : Below w.heap.size w w') (hB : B ≤ w.heap.size) : KM B b mb w w' := KM.kp (Kp.below h hB)
theorem KM.grown {B b mb : Nat} {w w' : World} (h : w.grownBy w' (some mb)) (hB : B ≤ w.heap.size) (hm : B ≤ mb) : KM B b mb w w' := ⟨(Below.refl B w).grown h hB (fun j hj => by cases hj; exact hm), fun i o h1 _ h3 _ => (h.block i (heap_lt h1) (fun e => h3 (Option.some.inj e))).trans h1⟩
theorem KM.set {B b mb : Nat} (w : World) (o : Nat) (v : Value) (hB : B ≤ b) : KM B b mb w (w.setCell ⟨b, o, none⟩ v) := ⟨(Below.refl B w).setCell (p := ⟨b, o, none⟩) hB v, fun i _ h1 h2 _ _ => (Below.heap_setCell _ _ _ _ (fun e => h2 (by first | exact e | exact e.symm))).trans h1⟩
/-- The labels once cell c has got number k. -/
def getL (f : Nat → Lab) (c : Nat) (m : Int) (k : Nat) : Nat → Lab := fun j => if j = c then ⟨m, true, k⟩ else f j
set_option maxRecDepth 100000 in
set_option maxHeartbeats 4000000 in
theorem again_3 (B b mb n : Nat) (a0 a1 a2 : Value) (f : Nat → Lab) (l : List UInt8) (c k : Nat) (w : World) (h : Tl B b a0 a1 a2 (.map (some mb)) (.int .i64 k) l w) (hT : ∀ w', Below B w w' → TB w') (hM : LM w mb n f) (hmb : B ≤ mb) (hn : n ≤ 10000000) (hc : c ≤ 2147483647) (hBw : B ≤ w.heap.size) (hlen : l.length + 300 ≤ 140737488355328) (hk : k ≤ 3000000) (m : Int) (q : Int) (hf : f c = ⟨m, false, q⟩) (hm : ¬ m = 1) :
    Calls Tryd.prog 37 #[.pointer (some ⟨b, 0, none⟩), .int .i64 c] w fun e w' => e = .returned (.bool false) ∧ Tl B b a0 a1 a2 (.map (some mb)) (.int .i64 ((k : Int) + 1)) (l ++ betw [35] k [61]) w' ∧ LM w' mb (n + 1) (getL f c m k) ∧ KM B b mb w w' := by
  have hlk := hM.look (c := c) (by omega)
  obtain ⟨⟨_, _, _, c3, c4⟩, l0⟩ := h.at2
  rw [hf] at hlk
  have hal : Below w.heap.size w (w.alloc (.cells #[.int .i64 m, .bool false, .int .i64 q] 88)) := (Below.refl _ w).alloc (Nat.le_refl _) _
  have HB : Hid _ := hal
  have hnew := heap_alloc_new w (.cells #[.int .i64 m, .bool false, .int .i64 q] 88)
  have HNew : Hid _ := hnew
  have HM : Hid (LM (w.alloc (.cells #[.int .i64 m, .bool false, .int .i64 q] 88)) mb n f) := hM.kept (hal.block _ hM.lt)
  have HAp : Hid (mb ≠ b) := h.apart hM
  have HN : Hid _ := tellNum_any B b a0 a1 a2 (.map (some mb)) (.int .i64 k) l [35] [61] k (w.alloc (.cells #[.int .i64 m, .bool false, .int .i64 q] 88)) (h.kept hal) (fun w' h' => hT w' ((hal.mono hBw).trans h')) (by omega) (by omega) (by simp) (by simp) hlen (Nat.le_trans hBw hal.size)
  have hmx : Tryd.prog.follows .mixedOrders = true := by kernel_rfl
  clear h hM hal hf hT hnew
  unfold labV at hlk
  go_enter Tryd.func37, Tryd.ntmps37
  go_wp2_with fail
  refine Calls.mono HN.out ?_
  rintro e w2 ⟨⟨v, rfl⟩, hB1, hK1⟩
  have HB1 : Hid (Tl B b a0 a1 a2 (.map (some mb)) (.int .i64 k) (l ++ betw [35] k [61]) w2) := hB1
  have HK1 : Hid (KM B b mb w w2) := (KM.below HB.out hBw).trans (KM.kp hK1)
  have HM2 : Hid (LM w2.drew mb n f) := (HM.out.kp hK1 HAp.out).kept rfl
  have hl2 : w2.heap[w.heap.size]? = some (.cells #[.int .i64 m, .bool false, .int .i64 q] 88 (0, 0)) := hK1.2 _ _ HNew.out (fun e => by have := Option.some.inj e; omega) (fun c fz e => by cases e)
  have e0 := heap_cell (j := 0) hl2 rfl
  have l2 := heap_lt hl2
  obtain ⟨⟨_, _, _, d3, d4⟩, l3⟩ := hB1.at2
  obtain ⟨w4, hup, hm4, hg4⟩ := HM2.out.put (c := c) (by omega) (by unfold maxLen; omega) ⟨m, true, k⟩
  have HM4 : Hid (LM w4 mb (n + 1) (getL f c m k)) := hm4
  have HT4 : Hid (Tl B b a0 a1 a2 (.map (some mb)) (.int .i64 k) (l ++ betw [35] k [61]) w4) := Tl.mapped (w := w2.drew) (HB1.out.kept (Below.refl _ w2).drew) HM2.out hg4
  have hs2 : B ≤ w2.heap.size := Nat.le_trans hBw HK1.out.1.size
  have b4 : KM B b mb w2 w4 := (KM.below (Below.refl _ w2).drew hs2).trans (KM.grown hg4 hs2 hmb)
  have HB4 : Hid (KM B b mb w w4) := HK1.out.trans b4
  obtain ⟨⟨_, _, _, _, g4⟩, l4⟩ := HT4.out.at2
  have f4 : w4.frozen? ⟨b, 4, none⟩ = false := by
    obtain ⟨_, p, v, _, h1, _⟩ := HT4.out.block
    exact Lib.frozen_of_heap h1 4
  have HBb : Hid (B ≤ b) := HT4.out.block.1
  unfold labV at hup
  clear hB1 hK1 HN hm4 hg4 b4 hl2 hlk HM2
  go_wp2
  go_region
  all_goals
    go_wp2
    go_ret
    refine ⟨rfl, HT4.out.came _, HM4.out.kept (Below.heap_setCell _ _ _ _ ?_), HB4.out.trans (KM.set _ 4 _ HBb.out)⟩
    exact fun e => HAp.out (by first | exact e | exact e.symm)
end Go.Proofs.YtejmoopgfnjaaaaDoor
