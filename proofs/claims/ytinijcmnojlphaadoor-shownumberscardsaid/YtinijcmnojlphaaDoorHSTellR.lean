/- A label that has come; a label that comes. -/
import Derived.Test.YtinijcmnojlphaaDoorHSTellQ
namespace Go.Proofs.YtinijcmnojlphaaDoor
open Go.RowKit Go.Maps Go.ChangeMaps

set_option maxRecDepth 100000 in
set_option maxHeartbeats 4000000 in
theorem again_2 (B b mb n : Nat) (a0 a1 a2 a4 : Value) (f : Nat → Lab) (l : List UInt8) (c k : Nat) (w : World) (h : Tl B b a0 a1 a2 (.map (some mb)) a4 l w) (hT : ∀ w', Below B w w' → TB w') (hM : LM w mb n f) (hc : c ≤ 2147483647) (hBw : B ≤ w.heap.size) (hlen : l.length + 300 ≤ 140737488355328) (hk : k ≤ 3000000) (m : Int) (hf : f c = ⟨m, true, k⟩) (hm : ¬ m = 1) :
    Calls Tryd.prog 30 #[.pointer (some ⟨b, 0, none⟩), .int .i64 c] w fun e w' => e = .returned (.bool true) ∧ Tl B b a0 a1 a2 (.map (some mb)) a4 (l ++ betw [35] k [35]) w' ∧ Kp B b w w' := by
  have hlk := hM.look (c := c) (by omega)
  obtain ⟨⟨_, _, _, c3, _⟩, l0⟩ := h.at2
  rw [hf] at hlk
  have hal : Below w.heap.size w (w.alloc (.cells #[.int .i64 m, .bool true, .int .i64 k] 81)) := (Below.refl _ w).alloc (Nat.le_refl _) _
  have HB : Hid _ := hal
  have HN : Hid _ := tellNum_any B b a0 a1 a2 (.map (some mb)) a4 l [35] [35] k (w.alloc (.cells #[.int .i64 m, .bool true, .int .i64 k] 81)) (h.kept hal) (fun w' h' => hT w' ((hal.mono hBw).trans h')) (by omega) (by omega) (by simp) (by simp) hlen (Nat.le_trans hBw hal.size)
  clear h hM hal hf hT
  unfold labV at hlk
  go_enter Tryd.func30, Tryd.ntmps30
  go_wp2_with fail
  refine Calls.mono HN.out ?_
  rintro e w2 ⟨⟨v, rfl⟩, hB1, hK1⟩
  have HB1 : Hid (Tl B b a0 a1 a2 (.map (some mb)) a4 (l ++ betw [35] k [35]) w2) := hB1
  have HK1 : Hid (Kp B b w w2) := (Kp.below HB.out hBw).trans hK1
  clear hB1 hK1 HN
  go_wp2
  go_ret
  exact ⟨rfl, HB1.out, HK1.out⟩
end Go.Proofs.YtinijcmnojlphaaDoor
