/- The contracts of word and tail; a word that is no reference, and one whose label has come. -/
import Derived.Test.YtinijcmnojlphaaDoorHSTold
namespace Go.Proofs.YtinijcmnojlphaaDoor
open Go.RowKit Go.Maps Go.ChangeMaps

/-- A word that may be told. -/
structure Gd (X : List Cl) (N : List (List UInt8)) (x : Int) : Prop where
  rng : Rng x
  tag : 1 ≤ ofT x ∧ ofT x ≤ 8
  cell : ∀ c, refN x = some c → c < X.length
  name : nameless N.length x = false
/-- All that is read lies below B. -/
def Rds (X : List Cl) (N : List (List UInt8)) (rx rn : Option Addr) (B : Nat) (w : World) : Prop := ∀ w', Below B w w' → HR w' rx X ∧ TX w' rn N ∧ Tab w' ∧ TB w'
theorem Rds.next {X : List Cl} {N : List (List UInt8)} {rx rn : Option Addr} {B : Nat} {w w1 : World} (h : Rds X N rx rn B w) (hb : Below B w w1) : Rds X N rx rn B w1 := fun w' h' => h w' (hb.trans h')
/-- Labels that have come have small numbers. -/
def LO (f : Nat → Lab) : Prop := ∀ c, (f c).came = true → ∃ j : Nat, (f c).num = j ∧ j ≤ 3000000
theorem LO.pre {f : Nat → Lab} (h : LO f) {k : Nat} (hk : k ≤ 3000000) (c : Nat) : LO (preF f k c) := by
  unfold preF
  split
  · exact h
  · intro j hj
    unfold getL at *
    split
    · exact ⟨k, rfl, hk⟩
    · rename_i hne
      rw [if_neg hne] at hj
      exact h j hj
structure Env where
  X : List Cl
  N : List (List UInt8)
  rx : Option Addr
  cx : Nat
  rn : Option Addr
  cn : Nat
  a1 : Value
  B : Nat
  b : Nat
  mb : Nat
/-- A teller and its labels. -/
def TS (E : Env) (n : Nat) (f : Nat → Lab) (k : Nat) (l : List UInt8) (w : World) : Prop := Tl E.B E.b (.slice E.rx E.X.length E.cx) E.a1 (.slice E.rn E.N.length E.cn) (.map (some E.mb)) (.int .i64 k) l w ∧ LM w E.mb n f
def PostW (E : Env) (n k : Nat) (l : List UInt8) (w : World) (r : Res) (e : Ending) (w' : World) : Prop := (∃ v, e = .returned v) ∧ (∃ n', TS E n' r.2.1 r.2.2 (l ++ r.1) w' ∧ n' ≤ n + (r.2.2 - k)) ∧ LO r.2.1 ∧ KM E.B E.b E.mb w w'
/-- Mode m, with fuel fu: word (true) or tail (false) writes what is told. -/
def CallC (E : Env) (fu : Nat) (m : Bool) (F : Nat) : Prop := ∀ (f : Nat → Lab) (k : Nat) (x : Int) (r : Res) (l : List UInt8) (n : Nat) (w : World), tell E.X E.N fu m f k x = some r → Gd E.X E.N x → LO f → TS E n f k l w → Rds E.X E.N E.rx E.rn E.B w → E.B ≤ w.heap.size → l.length + r.1.length + 1000 ≤ 140737488355328 → r.2.2 ≤ 3000000 → n + (r.2.2 - k) ≤ 10000000 →
  Calls Tryd.prog F #[.pointer (some ⟨E.b, 0, none⟩), .int .u64 x] w (PostW E n k l w r)
set_option maxRecDepth 100000 in
set_option maxHeartbeats 4000000 in
theorem word_plain (E : Env) (f : Nat → Lab) (k : Nat) (x : Int) (l : List UInt8) (n : Nat) (w : World) (hr : refN x = none) (hg : Gd E.X E.N x) (hL : LO f) (h : TS E n f k l w) (hR : Rds E.X E.N E.rx E.rn E.B w) (hB : E.B ≤ w.heap.size) (hlen : l.length + (plainT E.N x).length + 1000 ≤ 140737488355328) :
    Calls Tryd.prog 15 #[.pointer (some ⟨E.b, 0, none⟩), .int .u64 x] w (PostW E n k l w (plainT E.N x, f, k)) := by
  obtain ⟨_, _, hTa, _⟩ := hR w (Below.refl _ w)
  have h8 : ¬ ofT x = 8 := fun e => by unfold refN at hr; rw [if_pos e] at hr; cases hr
  have hrb : refB x = false := by unfold refB; simpa using h8
  have HC : Hid (Calls Tryd.prog 28 #[.int .u64 x] w fun e w' => e = .returned (.tuple #[.int .i64 (cellV x), .bool (refB x)]) ∧ w' = w) := cell_any x _ hg.rng hTa
  rw [hrb] at HC
  have HP : Hid _ := plain_any E.B E.b (.slice E.rx E.X.length E.cx) E.a1 (.map (some E.mb)) (.int .i64 k) E.N E.rn E.cn l x w h.1 hg.rng hTa (fun w' h' => (hR w' h').2.2.2) (fun w' h' => (hR w' h').2.1) ⟨hg.tag.1, by have := hg.tag.2; omega⟩ hg.name (by omega) hB
  have HL : Hid (LO f ∧ LM w E.mb n f ∧ E.mb ≠ E.b) := ⟨hL, h.2, h.1.apart h.2⟩
  clear h hg hL hR hTa hr h8 hrb
  go_enter Tryd.func15, Tryd.ntmps15
  go_wp2_with fail
  refine Calls.mono HC.out ?_
  rintro e w1 ⟨rfl, hw1⟩
  rw [hw1]
  clear hw1 HC
  go_wp2_with fail
  refine Calls.mono HP.out ?_
  rintro e w2 ⟨⟨v, rfl⟩, h1, h2⟩
  have H1 : Hid (∃ n', TS E n' f k (l ++ plainT E.N x) w2 ∧ n' ≤ n + (k - k)) := ⟨n, ⟨h1, HL.out.2.1.kp h2 HL.out.2.2⟩, by omega⟩
  have H2 : Hid (KM E.B E.b E.mb w w2) := KM.kp h2
  clear h1 h2 HP
  go_wp2
  go_end0
  exact ⟨⟨_, rfl⟩, H1.out, HL.out.1, H2.out⟩
set_option maxRecDepth 100000 in
set_option maxHeartbeats 4000000 in
theorem word_came (E : Env) (f : Nat → Lab) (k c : Nat) (x : Int) (l : List UInt8) (n : Nat) (w : World) (hr : refN x = some c) (hg : Gd E.X E.N x) (hL : LO f) (h : TS E n f k l w) (hR : Rds E.X E.N E.rx E.rn E.B w) (hB : E.B ≤ w.heap.size) (hm : ¬ (f c).met = 1) (hcm : (f c).came = true) (hlen : l.length + 1000 ≤ 140737488355328) :
    Calls Tryd.prog 15 #[.pointer (some ⟨E.b, 0, none⟩), .int .u64 x] w (PostW E n k l w (betw [35] (f c).num [35], f, k)) := by
  obtain ⟨_, _, hTa, _⟩ := hR w (Below.refl _ w)
  have h8 : ofT x = 8 := by unfold refN at hr; split at hr <;> first | assumption | cases hr
  have hrb : refB x = true := by unfold refB; simpa using h8
  have hbd := ofN_ref hrb
  have hcx : cellV x = c ∧ c ≤ 2147483647 := by
    unfold refN at hr; rw [if_pos h8] at hr
    have := Option.some.inj hr
    unfold cellV; rw [if_pos h8]; omega
  have HC : Hid (Calls Tryd.prog 28 #[.int .u64 x] w fun e w' => e = .returned (.tuple #[.int .i64 (cellV x), .bool (refB x)]) ∧ w' = w) := cell_any x _ hg.rng hTa
  rw [hrb, hcx.1] at HC
  obtain ⟨j, hj, hj2⟩ := hL c hcm
  have hfc : f c = ⟨(f c).met, true, j⟩ := by rw [← hj, ← hcm]
  have HP : Hid _ := again_2 E.B E.b E.mb n (.slice E.rx E.X.length E.cx) E.a1 (.slice E.rn E.N.length E.cn) (.int .i64 k) f l c j w h.1 (fun w' h' => (hR w' h').2.2.2) h.2 hcx.2 hB (by omega) hj2 (f c).met hfc hm
  have HL : Hid (LO f ∧ LM w E.mb n f ∧ E.mb ≠ E.b) := ⟨hL, h.2, h.1.apart h.2⟩
  have HJ : Hid ((f c).num = j) := hj
  clear h hg hL hR hTa hr h8 hrb hbd hcx hj hfc hm hcm
  go_enter Tryd.func15, Tryd.ntmps15
  go_wp2_with fail
  refine Calls.mono HC.out ?_
  rintro e w1 ⟨rfl, hw1⟩
  rw [hw1]
  clear hw1 HC
  go_wp2_with fail
  refine Calls.mono HP.out ?_
  rintro e w2 ⟨rfl, h1, h2⟩
  have H1 : Hid (∃ n', TS E n' f k (l ++ betw [35] (f c).num [35]) w2 ∧ n' ≤ n + (k - k)) := by
    show ∃ n', _
    rw [HJ.out]
    exact ⟨n, ⟨h1, HL.out.2.1.kp h2 HL.out.2.2⟩, by omega⟩
  have H2 : Hid (KM E.B E.b E.mb w w2) := KM.kp h2
  clear h1 h2 HP
  go_wp2
  go_end0
  exact ⟨⟨_, rfl⟩, H1.out, HL.out.1, H2.out⟩
end Go.Proofs.YtinijcmnojlphaaDoor
