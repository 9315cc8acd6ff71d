/- A teller writes a number between two texts. -/
import Derived.Test.YtinijcmnojlphaaDoorHSTellW
import Derived.Deep.RegionHeld3
import Derived.Lib.ItoaLen
namespace Go.Proofs.YtinijcmnojlphaaDoor
open Go.RowKit Go.Maps Go.ChangeMaps

theorem TlAt.kept {B b : Nat} {a0 a1 a2 a3 a4 p : Value} {l : List UInt8} {w w' : World} (h : TlAt B b a0 a1 a2 a3 a4 p l w) (hb : Below w.heap.size w w') : TlAt B b a0 a1 a2 a3 a4 p l w' := by
  obtain ⟨hB, v, hk, hown, hne⟩ := h
  exact ⟨hB, v, (hb.block b (heap_lt hk)).trans hk, hown.kept (row := none) ⟨hb.os, hb.tape, hb.output, hb.size, fun k hk _ => hb.block k hk⟩ (Classical.em _), hne⟩
theorem Tl.kept {B b : Nat} {a0 a1 a2 a3 a4 : Value} {l : List UInt8} {w w' : World} (h : Tl B b a0 a1 a2 a3 a4 l w) (hb : Below w.heap.size w w') : Tl B b a0 a1 a2 a3 a4 l w' := h.imp (·.kept hb) (·.kept hb)
/-- The table of powers of ten. -/
def TB (w : World) : Prop := Lib.TabIs Tryd.prog w "internal/strconv.uint64pow10" .u64 Lib.pow10Tab
theorem TB.below {w w' : World} (h : TB w) (hb : Below w.heap.size w w') : TB w' := by
  unfold TB Lib.TabIs World.var? at *
  cases hg : Tryd.prog.globalNamed "internal/strconv.uint64pow10" with
  | none => rw [hg] at h; cases h
  | some g =>
    rw [hg] at h
    simp only [Option.bind_some] at h ⊢
    cases ho : w.heap[g]? with
    | none => rw [ho] at h; cases h
    | some o => rw [hb.block g (Array.getElem?_eq_some_iff.1 ho).1, ho]; rw [ho] at h; exact h
theorem below_grow (w : World) (k : Nat) (os : Array Obj) : Below w.heap.size w (Go.Sort.grow (w.drewN k) os) :=
  ⟨rfl, rfl, rfl, by show _ ≤ (w.heap ++ os).size; rw [Array.size_append]; omega, fun g hg => by show (w.heap ++ os)[g]? = _; rw [Array.getElem?_append_left hg]⟩
theorem fmt_any (n : Int) (h0 : -9223372036854775808 ≤ n) (h1 : n ≤ 9223372036854775807) (w : World) (hT : TB w) :
    Calls Tryd.prog 46 #[.int .i64 n, .int .i64 10] w fun e w' => e = .returned (S (Lib.itoa n)) ∧ Below w.heap.size w w' := by
  refine (Tryd.strconv_FormatInt_10 n h0 h1 w hT).mono ?_
  rintro e w1 ⟨rfl, kk, os, rfl⟩
  exact ⟨rfl, below_grow w kk os⟩
def betw (p : List UInt8) (n : Int) (q : List UInt8) : List UInt8 := p ++ (Lib.itoa n ++ q)
set_option maxRecDepth 100000 in
set_option maxHeartbeats 4000000 in
theorem tellNum_any (B b : Nat) (a0 a1 a2 a3 a4 : Value) (l p q : List UInt8) (n : Int) (w : World) (h : Tl B b a0 a1 a2 a3 a4 l w) (hT : ∀ w', Below B w w' → TB w') (h0 : -9223372036854775808 ≤ n) (h1 : n ≤ 9223372036854775807) (hp : p.length ≤ 100) (hq : q.length ≤ 100) (hlen : l.length + 300 ≤ 140737488355328) (hBw : B ≤ w.heap.size) :
    Calls Tryd.prog 34 #[.pointer (some ⟨b, 0, none⟩), S p, .int .i64 n, S q] w fun e w' => (∃ v, e = .returned v) ∧ Tl B b a0 a1 a2 a3 a4 (l ++ betw p n q) w' ∧ Kp B b w w' := by
  have H : Hid (Tl B b a0 a1 a2 a3 a4 l w) := h
  have HT : Hid (∀ w', Below B w w' → TB w') := hT
  have hil : (Lib.itoa n).length ≤ 100 := Nat.le_trans (Lib.itoa_length_le _ (by omega) (by omega)) (by decide)
  have HF : Hid (∀ w5 : World, Below B w w5 → Calls Tryd.prog 46 #[.int .i64 n, .int .i64 10] w5 fun e w' => e = .returned (S (Lib.itoa n)) ∧ Below w5.heap.size w5 w') := fun w5 h5 => fmt_any _ h0 h1 w5 (HT.out w5 h5)
  have hmx : Tryd.prog.follows .mixedOrders = true := by kernel_rfl
  clear h hT h0 h1
  unfold betw
  generalize Lib.itoa n = it at *
  go_enter Tryd.func34, Tryd.ntmps34
  go_wp2_with fail
  refine (putS B b a0 a1 a2 a3 a4 l p _ H.out (by omega) hBw).mono ?_
  rintro e w1 ⟨⟨v, rfl⟩, hB1, hK1⟩
  have HB1 : Hid (Tl B b a0 a1 a2 a3 a4 (l ++ p) w1) := hB1
  have HK1 : Hid (Kp B b w w1) := hK1
  have hs1 : B ≤ w1.heap.size := Nat.le_trans hBw hK1.1.size
  clear hB1 hK1
  go_wp2_with fail
  go_region_held3 (fun _ => True) (exact True.intro)
    (first | (go_at_call 46; refine (HF.out _ (HK1.out.1.trans (Below.refl _ w1).drew)).mono ?_; rintro e w3 ⟨rfl, hb3⟩) | (go_at_call 33; refine (putS B b a0 a1 a2 a3 a4 (l ++ p) it _ (HB1.out.kept ((Below.refl _ w1).drew.trans hb3)) (by rw [List.length_append]; omega) (Nat.le_trans hs1 hb3.size)).mono ?_; rintro e w4 ⟨⟨v4, rfl⟩, hB4, hK4⟩))
  have HB4 : Hid (Tl B b a0 a1 a2 a3 a4 (l ++ p ++ it) w4) := hB4
  have HK4 : Hid (Kp B b w w4) := (HK1.out.trans (Kp.below ((Below.refl _ w1).drew.trans hb3) hs1)).trans hK4
  have hs4 : B ≤ w4.heap.size := Nat.le_trans hBw HK4.out.1.size
  clear hB4 hK4 hb3 HF
  go_wp2_with fail
  refine (putS B b a0 a1 a2 a3 a4 (l ++ p ++ it) q _ HB4.out (by rw [List.length_append, List.length_append]; omega) hs4).mono ?_
  rintro e w5 ⟨⟨v5, rfl⟩, hB5, hK5⟩
  have HB5 : Hid (Tl B b a0 a1 a2 a3 a4 (l ++ (p ++ (it ++ q))) w5) := by show Tl ..; have := hB5; simp only [List.append_assoc] at this; exact this
  have HK5 : Hid (Kp B b w w5) := HK4.out.trans hK5
  clear hB5 hK5
  go_wp2
  go_end0
  exact ⟨⟨_, rfl⟩, HB5.out, HK5.out⟩
end Go.Proofs.YtinijcmnojlphaaDoor
