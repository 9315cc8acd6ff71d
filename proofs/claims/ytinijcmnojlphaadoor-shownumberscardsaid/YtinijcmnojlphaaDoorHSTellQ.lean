/- A teller writes any word that is no reference; labels. -/
import Derived.Test.YtinijcmnojlphaaDoorHSTellP
namespace Go.Proofs.YtinijcmnojlphaaDoor
open Go.RowKit Go.Maps Go.ChangeMaps

theorem plain_any (B b : Nat) (a0 a1 a3 a4 : Value) (N : List (List UInt8)) (rn : Option Addr) (cn : Nat) (l : List UInt8) (x : Int) (w : World) (h : Tl B b a0 a1 (.slice rn N.length cn) a3 a4 l w) (hx : Rng x) (hTa : Tab w) (hT : ∀ w', Below B w w' → TB w') (hX : ∀ w', Below B w w' → TX w' rn N) (hk : 1 ≤ ofT x ∧ ofT x ≤ 7) (hn : nameless N.length x = false) (hlen : l.length + 300 + (plainT N x).length ≤ 140737488355328) (hBw : B ≤ w.heap.size) :
    Calls Tryd.prog 29 #[.pointer (some ⟨b, 0, none⟩), .int .u64 x] w fun e w' => (∃ v, e = .returned v) ∧ Tl B b a0 a1 (.slice rn N.length cn) a3 a4 (l ++ plainT N x) w' ∧ Kp B b w w' := by
  by_cases h1 : ofT x = 1
  · have e : plainT N x = [40, 41] := by unfold plainT; rw [if_pos h1]
    rw [e]; exact plain_1 B b _ _ _ _ _ l x w h hx hTa h1 (by omega) hBw
  by_cases h2 : ofT x = 2
  · have e : plainT N x = [35, 102] := by unfold plainT; rw [if_neg h1, if_pos h2]
    rw [e]; exact plain_2 B b _ _ _ _ _ l x w h hx hTa h2 (by omega) hBw
  by_cases h3 : ofT x = 3
  · have e : plainT N x = [35, 116] := by unfold plainT; rw [if_neg h1, if_neg h2, if_pos h3]
    rw [e]; exact plain_3 B b _ _ _ _ _ l x w h hx hTa h3 (by omega) hBw
  by_cases h4 : ofT x = 4
  · have e : plainT N x = [35, 110, 111, 110, 101] := by unfold plainT; rw [if_neg h1, if_neg h2, if_neg h3, if_pos h4]
    rw [e]; exact plain_4 B b _ _ _ _ _ l x w h hx hTa h4 (by omega) hBw
  by_cases h5 : ofT x = 5
  · have e : plainT N x = betw [] (ofN x) [] := by unfold plainT; rw [if_neg h1, if_neg h2, if_neg h3, if_neg h4, if_pos h5]
    rw [e]; exact plain_5 B b _ _ _ _ _ l x w h hx hTa hT h5 (by omega) hBw
  by_cases h6 : ofT x = 6
  · have e : plainT N x = N.getD (ofN x).toNat [] := by unfold plainT; rw [if_neg h1, if_neg h2, if_neg h3, if_neg h4, if_neg h5, if_pos h6]
    rw [e] at hlen ⊢
    have hn' : ofN x < N.length := by
      unfold nameless at hn
      rw [h6] at hn
      simp at hn
      exact hn
    exact plain_6 B b _ _ _ _ N rn cn l x w h hx hTa hX h6 hn' hlen hBw
  have h7 : ofT x = 7 := by omega
  have e : plainT N x = betw [35, 112, 114, 105, 109] (ofN x) [] := by unfold plainT; rw [if_neg h1, if_neg h2, if_neg h3, if_neg h4, if_neg h5, if_neg h6, if_pos h7]
  rw [e]; exact plain_7 B b _ _ _ _ _ l x w h hx hTa hT h7 (by omega) hBw

/-- A map that is no row of bytes, and not the teller's block, is kept by writing. -/
theorem LM.kp {B b mb n : Nat} {f : Nat → Lab} {w w' : World} (h : LM w mb n f) (hk : Kp B b w w') (hne : mb ≠ b) : LM w' mb n f := by
  obtain ⟨D, h1, ⟨es, clock, h2, h3⟩, h4⟩ := h
  exact ⟨D, h1, ⟨es, clock, hk.2 mb _ h2 (fun e => hne (Option.some.inj e)) (fun c fz e => by cases e), h3⟩, h4⟩
/-- A cell of no label, or one that has come, or one that comes now: what is written, is that all, how many have come. -/
def againT (k : Nat) (lb : Lab) : List UInt8 := if lb.met = 1 then [] else if lb.came = true then betw [35] lb.num [35] else betw [35] k [61]
set_option maxRecDepth 100000 in
set_option maxHeartbeats 4000000 in
theorem again_1 (B b mb n : Nat) (a0 a1 a2 a4 : Value) (f : Nat → Lab) (l : List UInt8) (c : Nat) (w : World) (h : Tl B b a0 a1 a2 (.map (some mb)) a4 l w) (hM : LM w mb n f) (hc : c ≤ 2147483647) (_ : B ≤ w.heap.size) (hm : (f c).met = 1) :
    Calls Tryd.prog 30 #[.pointer (some ⟨b, 0, none⟩), .int .i64 c] w fun e w' => e = .returned (.bool false) ∧ Tl B b a0 a1 a2 (.map (some mb)) a4 l w' ∧ Below w.heap.size w w' := by
  have hlk := hM.look (c := c) (by omega)
  obtain ⟨⟨_, _, _, c3, _⟩, l0⟩ := h.at2
  have hal : Below w.heap.size w (w.alloc (.cells #[.int .i64 (f c).met, .bool (f c).came, .int .i64 (f c).num] 81)) := (Below.refl _ w).alloc (Nat.le_refl _) _
  have HB : Hid _ := hal
  have HT : Hid (Tl B b a0 a1 a2 (.map (some mb)) a4 l (w.alloc (.cells #[.int .i64 (f c).met, .bool (f c).came, .int .i64 (f c).num] 81))) := h.kept hal
  have hu := Tryd.underlying81
  rw [hm] at HB HT
  have hv : labV (f c) = .agg #[.int .i64 1, .bool (f c).came, .int .i64 (f c).num] := by unfold labV; rw [hm]
  rw [hv] at hlk
  clear h hM hal hv hm
  generalize (f c).came = cm at *
  generalize (f c).num = nu at *
  go_enter Tryd.func30, Tryd.ntmps30
  go_wp2
  go_ret
  exact ⟨rfl, HT.out, HB.out⟩
end Go.Proofs.YtinijcmnojlphaaDoor
