/- The contracts of word and tail; a word that is no reference, and one whose label has come.; A word whose cell is told: pair, box, closure. -/
import Derived.Test.YtejmoopgfnjaaaaDoorK18
/- The contracts of word and tail; a word that is no reference, and one whose label has come. -/
namespace Go.Proofs.YtejmoopgfnjaaaaDoor
open Go.RowKit Go.Maps Go.ChangeMaps

/-- A word that may be told. -/
structure Gd (X : List Cl) (N : List (List UInt8)) (x : Int) : Prop where
  rng : Rng x
  tag : 1 ≤ ofT x ∧ ofT x ≤ 8
  cell : ∀ c, refN x = some c → c < X.length
  name : nameless N.length x = false
/-- All that is read lies below B. -/
def Rds (X : List Cl) (N : List (List UInt8)) (rx rn : Option Addr) (B : Nat) (w : World) : Prop := ∀ w', Below B w w' → HR w' rx X ∧ TX w' rn N ∧ Tab w' ∧ TB w'
theorem Rds.next {X : List Cl} {N : List (List UInt8)} {rx rn : Option Addr} {B : Nat} {w w1 : World} (h : Rds X N rx rn B w) (hb : Below B w w1) : Rds X N rx rn B w1 := fun w' h' => h w' (hb.trans h')
/-- Labels that have come have small numbers. -/
def LO (f : Nat → Lab) : Prop := ∀ c, (f c).came = true → ∃ j : Nat, (f c).num = j ∧ j ≤ 3000000
theorem LO.pre {f : Nat → Lab} (h : LO f) {k : Nat} (hk : k ≤ 3000000) (c : Nat) : LO (preF f k c) := by
  unfold preF
  split
  · exact h
  · intro j hj
    unfold getL at *
    split
    · exact ⟨k, rfl, hk⟩
    · rename_i hne
      rw [if_neg hne] at hj
      exact h j hj
structure Env where
  X : List Cl
  N : List (List UInt8)
  rx : Option Addr
  cx : Nat
  rn : Option Addr
  cn : Nat
  a1 : Value
  B : Nat
  b : Nat
  mb : Nat
/-- A teller and its labels. -/
def TS (E : Env) (n : Nat) (f : Nat → Lab) (k : Nat) (l : List UInt8) (w : World) : Prop := Tl E.B E.b (.slice E.rx E.X.length E.cx) E.a1 (.slice E.rn E.N.length E.cn) (.map (some E.mb)) (.int .i64 k) l w ∧ LM w E.mb n f
def PostW (E : Env) (n k : Nat) (l : List UInt8) (w : World) (r : Res) (e : Ending) (w' : World) : Prop := (∃ v, e = .returned v) ∧ (∃ n', TS E n' r.2.1 r.2.2 (l ++ r.1) w' ∧ n' ≤ n + (r.2.2 - k)) ∧ LO r.2.1 ∧ KM E.B E.b E.mb w w'
/-- Mode m, with fuel fu: word (true) or tail (false) writes what is told. -/
def CallC (E : Env) (fu : Nat) (m : Bool) (F : Nat) : Prop := ∀ (f : Nat → Lab) (k : Nat) (x : Int) (r : Res) (l : List UInt8) (n : Nat) (w : World), tell E.X E.N fu m f k x = some r → Gd E.X E.N x → LO f → TS E n f k l w → Rds E.X E.N E.rx E.rn E.B w → E.B ≤ w.heap.size → l.length + r.1.length + 1000 ≤ 140737488355328 → r.2.2 ≤ 3000000 → n + (r.2.2 - k) ≤ 10000000 →
  Calls Tryd.prog F #[.pointer (some ⟨E.b, 0, none⟩), .int .u64 x] w (PostW E n k l w r)
set_option maxRecDepth 100000 in
set_option maxHeartbeats 4000000 in
theorem word_plain (E : Env) (f : Nat → Lab) (k : Nat) (x : Int) (l : List UInt8) (n : Nat) (w : World) (hr : refN x = none) (hg : Gd E.X E.N x) (hL : LO f) (h : TS E n f k l w) (hR : Rds E.X E.N E.rx E.rn E.B w) (hB : E.B ≤ w.heap.size) (hlen : l.length + (plainT E.N x).length + 1000 ≤ 140737488355328) :
    Calls Tryd.prog 21 #[.pointer (some ⟨E.b, 0, none⟩), .int .u64 x] w (PostW E n k l w (plainT E.N x, f, k)) := by
  obtain ⟨_, _, hTa, _⟩ := hR w (Below.refl _ w)
  have h8 : ¬ ofT x = 8 := fun e => by unfold refN at hr; rw [if_pos e] at hr; cases hr
  have hrb : refB x = false := by unfold refB; simpa using h8
  have HC : Hid (Calls Tryd.prog 12 #[.int .u64 x] w fun e w' => e = .returned (.tuple #[.int .i64 (cellV x), .bool (refB x)]) ∧ w' = w) := cell_any x _ hg.rng hTa
  rw [hrb] at HC
  have HP : Hid _ := plain_any E.B E.b (.slice E.rx E.X.length E.cx) E.a1 (.map (some E.mb)) (.int .i64 k) E.N E.rn E.cn l x w h.1 hg.rng hTa (fun w' h' => (hR w' h').2.2.2) (fun w' h' => (hR w' h').2.1) ⟨hg.tag.1, by have := hg.tag.2; omega⟩ hg.name (by omega) hB
  have HL : Hid (LO f ∧ LM w E.mb n f ∧ E.mb ≠ E.b) := ⟨hL, h.2, h.1.apart h.2⟩
  clear h hg hL hR hTa hr h8 hrb
  go_enter Tryd.func21, Tryd.ntmps21
  go_wp2_with fail
  refine Calls.mono HC.out ?_
  rintro e w1 ⟨rfl, hw1⟩
  rw [hw1]
  clear hw1 HC
  go_wp2_with fail
  refine Calls.mono HP.out ?_
  rintro e w2 ⟨⟨v, rfl⟩, h1, h2⟩
  have H1 : Hid (∃ n', TS E n' f k (l ++ plainT E.N x) w2 ∧ n' ≤ n + (k - k)) := ⟨n, ⟨h1, HL.out.2.1.kp h2 HL.out.2.2⟩, by omega⟩
  have H2 : Hid (KM E.B E.b E.mb w w2) := KM.kp h2
  clear h1 h2 HP
  go_wp2
  go_end0
  exact ⟨⟨_, rfl⟩, H1.out, HL.out.1, H2.out⟩
set_option maxRecDepth 100000 in
set_option maxHeartbeats 4000000 in
theorem word_came (E : Env) (f : Nat → Lab) (k c : Nat) (x : Int) (l : List UInt8) (n : Nat) (w : World) (hr : refN x = some c) (hg : Gd E.X E.N x) (hL : LO f) (h : TS E n f k l w) (hR : Rds E.X E.N E.rx E.rn E.B w) (hB : E.B ≤ w.heap.size) (hm : ¬ (f c).met = 1) (hcm : (f c).came = true) (hlen : l.length + 1000 ≤ 140737488355328) :
    Calls Tryd.prog 21 #[.pointer (some ⟨E.b, 0, none⟩), .int .u64 x] w (PostW E n k l w (betw [35] (f c).num [35], f, k)) := by
  obtain ⟨_, _, hTa, _⟩ := hR w (Below.refl _ w)
  have h8 : ofT x = 8 := by unfold refN at hr; split at hr <;> first | assumption | cases hr
  have hrb : refB x = true := by unfold refB; simpa using h8
  have hbd := ofN_ref hrb
  have hcx : cellV x = c ∧ c ≤ 2147483647 := by
    unfold refN at hr; rw [if_pos h8] at hr
    have := Option.some.inj hr
    unfold cellV; rw [if_pos h8]; omega
  have HC : Hid (Calls Tryd.prog 12 #[.int .u64 x] w fun e w' => e = .returned (.tuple #[.int .i64 (cellV x), .bool (refB x)]) ∧ w' = w) := cell_any x _ hg.rng hTa
  rw [hrb, hcx.1] at HC
  obtain ⟨j, hj, hj2⟩ := hL c hcm
  have hfc : f c = ⟨(f c).met, true, j⟩ := by rw [← hj, ← hcm]
  have HP : Hid _ := again_2 E.B E.b E.mb n (.slice E.rx E.X.length E.cx) E.a1 (.slice E.rn E.N.length E.cn) (.int .i64 k) f l c j w h.1 (fun w' h' => (hR w' h').2.2.2) h.2 hcx.2 hB (by omega) hj2 (f c).met hfc hm
  have HL : Hid (LO f ∧ LM w E.mb n f ∧ E.mb ≠ E.b) := ⟨hL, h.2, h.1.apart h.2⟩
  have HJ : Hid ((f c).num = j) := hj
  clear h hg hL hR hTa hr h8 hrb hbd hcx hj hfc hm hcm
  go_enter Tryd.func21, Tryd.ntmps21
  go_wp2_with fail
  refine Calls.mono HC.out ?_
  rintro e w1 ⟨rfl, hw1⟩
  rw [hw1]
  clear hw1 HC
  go_wp2_with fail
  refine Calls.mono HP.out ?_
  rintro e w2 ⟨rfl, h1, h2⟩
  have H1 : Hid (∃ n', TS E n' f k (l ++ betw [35] (f c).num [35]) w2 ∧ n' ≤ n + (k - k)) := by
    show ∃ n', _
    rw [HJ.out]
    exact ⟨n, ⟨h1, HL.out.2.1.kp h2 HL.out.2.2⟩, by omega⟩
  have H2 : Hid (KM E.B E.b E.mb w w2) := KM.kp h2
  clear h1 h2 HP
  go_wp2
  go_end0
  exact ⟨⟨_, rfl⟩, H1.out, HL.out.1, H2.out⟩
end Go.Proofs.YtejmoopgfnjaaaaDoor

/- A word whose cell is told: pair, box, closure. -/
namespace Go.Proofs.YtejmoopgfnjaaaaDoor
open Go.RowKit Go.Maps Go.ChangeMaps

/-- A cell's label comes, or it has none. -/
theorem again_go (E : Env) (f : Nat → Lab) (k c : Nat) (l : List UInt8) (n : Nat) (w : World) (h : TS E n f k l w) (hR : Rds E.X E.N E.rx E.rn E.B w) (hB : E.B ≤ w.heap.size) (hmb : E.B ≤ E.mb) (hc : c ≤ 2147483647) (hn : n ≤ 10000000) (hk : k ≤ 3000000) (hcm : ¬ ((f c).met ≠ 1 ∧ (f c).came = true)) (hlen : l.length + 1000 ≤ 140737488355328) :
    Calls Tryd.prog 37 #[.pointer (some ⟨E.b, 0, none⟩), .int .i64 c] w fun e w' => e = .returned (.bool false) ∧ (∃ n', TS E n' (preF f k c) (preK f k c) (l ++ preT f k c) w' ∧ n' ≤ n + (preK f k c - k)) ∧ KM E.B E.b E.mb w w' := by
  by_cases hm : (f c).met = 1
  · refine (again_1 E.B E.b E.mb n _ _ _ _ f l c w h.1 h.2 hc hB hm).mono ?_
    rintro e w1 ⟨rfl, h1, h2⟩
    unfold preF preK preT
    rw [if_pos hm, if_pos hm, if_pos hm, List.append_nil]
    exact ⟨rfl, ⟨n, ⟨h1, h.2.kept (h2.block _ h.2.lt)⟩, by omega⟩, KM.below h2 hB⟩
  · have hcf : (f c).came = false := by
      cases hx : (f c).came
      · rfl
      · exact absurd ⟨hm, hx⟩ hcm
    have hfc : f c = ⟨(f c).met, false, (f c).num⟩ := by rw [← hcf]
    refine (again_3 E.B E.b E.mb n _ _ _ f l c k w h.1 (fun w' h' => (hR w' h').2.2.2) h.2 hmb hn hc hB (by omega) hk (f c).met (f c).num hfc hm).mono ?_
    rintro e w1 ⟨rfl, h1, h2, h3⟩
    unfold preF preK preT
    rw [if_neg hm, if_neg hm, if_neg hm]
    exact ⟨rfl, ⟨n + 1, ⟨h1, h2⟩, by omega⟩, h3⟩
theorem km_block {B b mb i : Nat} {y : Cl} {w w' : World} (h : KM B b mb w w') (hi : w.heap[i]? = some (KO y)) (hb : i ≠ b) (hm : i ≠ mb) : w'.heap[i]? = some (KO y) := h.2 i _ hi hb hm (fun c fz e => by cases e)
theorem TS.keep {E : Env} {n k : Nat} {f : Nat → Lab} {l : List UInt8} {w w' : World} (h : TS E n f k l w) (hb : Below w.heap.size w w') : TS E n f k l w' := ⟨h.1.kept hb, h.2.kept (hb.block _ h.2.lt)⟩
theorem TS.put {E : Env} {n k : Nat} {f : Nat → Lab} {l m : List UInt8} {w w' : World} (h : TS E n f k l w) (h1 : Tl E.B E.b (.slice E.rx E.X.length E.cx) E.a1 (.slice E.rn E.N.length E.cn) (.map (some E.mb)) (.int .i64 k) m w') (hk : Kp E.B E.b w w') : TS E n f k m w' := ⟨h1, h.2.kp hk (h.1.apart h.2)⟩
theorem putL (B b : Nat) (a0 a1 a2 a3 a4 : Value) (l : List UInt8) (c : UInt8) (i : Int) (hi : i = (c.toNat : Int)) (w : World) (h : Tl B b a0 a1 a2 a3 a4 l w) (hlen : l.length + 1 ≤ 140737488355328) (hBw : B ≤ w.heap.size) :
    Calls Tryd.prog 38 #[.pointer (some ⟨b, 5, none⟩), .int .u8 i] w fun e w' => e = .returned .nilIface ∧ Tl B b a0 a1 a2 a3 a4 (l ++ [c]) w' ∧ Kp B b w w' := by
  subst hi
  exact putB B b a0 a1 a2 a3 a4 l c w h hlen hBw
set_option maxRecDepth 100000 in
set_option maxHeartbeats 8000000 in
theorem word_pair (E : Env) (fu : Nat) (IW : CallC E fu true 21) (IT : CallC E fu false 39) (f : Nat → Lab) (k c : Nat) (y : Cl) (x : Int) (l : List UInt8) (n : Nat) (w : World) (r q : Res) (hr : refN x = some c) (hg : Gd E.X E.N x) (hy : E.X[c]? = some y) (hyk : y.k = 1) (hga : Gd E.X E.N y.a ∧ Gd E.X E.N y.b) (hL : LO f) (h : TS E n f k l w) (hR : Rds E.X E.N E.rx E.rn E.B w) (hB : E.B ≤ w.heap.size) (hmb : E.B ≤ E.mb) (_ : E.X.length ≤ 1000000) (hcm : ¬ ((f c).met ≠ 1 ∧ (f c).came = true))
    (h1 : tell E.X E.N fu true (preF f k c) (preK f k c) y.a = some r) (h2 : tell E.X E.N fu false r.2.1 r.2.2 y.b = some q) (hlen : l.length + (preT f k c ++ ([40] ++ (r.1 ++ (q.1 ++ [41])))).length + 1000 ≤ 140737488355328) (hk3 : q.2.2 ≤ 3000000) (hn : n + (q.2.2 - k) ≤ 10000000) :
    Calls Tryd.prog 21 #[.pointer (some ⟨E.b, 0, none⟩), .int .u64 x] w (PostW E n k l w ((preT f k c ++ ([40] ++ (r.1 ++ (q.1 ++ [41])))), q.2)) := by
  obtain ⟨hHR, _, hTa, _⟩ := hR w (Below.refl _ w)
  have h8 : ofT x = 8 := by unfold refN at hr; split at hr <;> first | assumption | cases hr
  have hrb : refB x = true := by unfold refB; simpa using h8
  have hbd := ofN_ref hrb
  have hcx : cellV x = c ∧ c ≤ 2147483647 := by
    unfold refN at hr; rw [if_pos h8] at hr
    have := Option.some.inj hr
    unfold cellV; rw [if_pos h8]; omega
  have hlt := hg.cell c hr
  have HC : Hid (Calls Tryd.prog 12 #[.int .u64 x] w fun e w' => e = .returned (.tuple #[.int .i64 (cellV x), .bool (refB x)]) ∧ w' = w) := cell_any x _ hg.rng hTa
  rw [hrb, hcx.1] at HC
  have hm1 := tell_mono _ _ _ _ _ _ _ _ h1
  have hm2 := tell_mono _ _ _ _ _ _ _ _ h2
  have hpk := preK_le f k c
  have HP : Hid _ := again_go E f k c l n w h hR hB hmb hcx.2 (by omega) (by omega) hcm (by omega)
  have HLp : Hid (LO (preF f k c)) := hL.pre (by omega) c
  have HR0 : Hid (Rds E.X E.N E.rx E.rn E.B w) := hR
  have HT1 : Hid (tell E.X E.N fu true (preF f k c) (preK f k c) y.a = some r) := h1
  have HT2 : Hid (tell E.X E.N fu false r.2.1 r.2.2 y.b = some q) := h2
  have HGa : Hid (Gd E.X E.N y.a ∧ Gd E.X E.N y.b) := hga
  have HIW : Hid (CallC E fu true 21) := IW
  have HIT : Hid (CallC E fu false 39) := IT
  have HLen : Hid (l.length + (preT f k c ++ ([40] ++ (r.1 ++ (q.1 ++ [41])))).length + 1000 ≤ 140737488355328) := hlen
  have hci : (c : Int) < (E.X.length : Int) := by omega
  have Hlim : Hid (q.2.2 ≤ 3000000 ∧ n + (q.2.2 - k) ≤ 10000000 ∧ k ≤ preK f k c ∧ preK f k c ≤ r.2.2 ∧ r.2.2 ≤ q.2.2) := ⟨hk3, hn, hpk, hm1, hm2⟩
  have HY : Hid (E.X[c]? = some y ∧ c < E.X.length) := ⟨hy, hlt⟩
  have HYk : Hid (y.k = 1) := hyk
  clear h hg hL hR hTa hr h8 hrb hbd hcx hcm h1 IW hk3 hn hpk hm1 hy hHR hlt hlen hga hyk h2 IT hm2
  generalize preF f k c = f1 at *
  generalize preT f k c = t1 at *
  generalize preK f k c = k1 at *
  go_enter Tryd.func21, Tryd.ntmps21
  go_wp2_with fail
  refine Calls.mono HC.out ?_
  rintro e w1 ⟨rfl, hw1⟩
  rw [hw1]
  clear hw1 HC
  go_wp2_with fail
  refine Calls.mono HP.out ?_
  rintro e w2 ⟨rfl, ⟨n2, hs2, hn2⟩, hk2⟩
  have HS2 : Hid (TS E n2 f1 k1 (l ++ t1) w2 ∧ n2 ≤ n + (k1 - k)) := ⟨hs2, hn2⟩
  have HK2 : Hid (KM E.B E.b E.mb w w2) := hk2
  have HN2 : Hid (n2 ≤ n + (k1 - k)) := hn2
  obtain ⟨⟨c0, _, _, _, _⟩, l0⟩ := hs2.1.at2
  obtain ⟨bb, o, q1, q2⟩ := (HR0.out w2 hk2.1).1
  obtain ⟨l1, ⟨d0, d1, d2, d3⟩, hkx⟩ := q2 c y HY.out.1
  have hra : E.rx = some ⟨bb, o, none⟩ := q1.resolve_left (by have := HY.out.2; omega)
  rw [hra] at c0
  have a3 := (Below.refl _ w2).alloc (Nat.le_refl w2.heap.size) (KO y)
  have b3 := heap_alloc_new w2 (KO y)
  have HS3 : Hid (TS E n2 f1 k1 (l ++ t1) (w2.alloc (KO y))) := hs2.keep a3
  have sB : E.B ≤ w2.heap.size := Nat.le_trans hB hk2.1.size
  have HK3 : Hid (KM E.B E.b E.mb w (w2.alloc (KO y))) := hk2.trans (KM.below a3 sB)
  have HN3 : Hid (w2.heap.size ≠ E.b ∧ w2.heap.size ≠ E.mb) := ⟨by have := hs2.1.at2.2; omega, by have := hs2.2.lt; omega⟩
  have HB3 : Hid ((w2.alloc (KO y)).heap[w2.heap.size]? = some (KO y)) := b3
  have e0 := heap_cell (j := 0) b3 rfl
  have e2 := heap_cell (j := 2) b3 rfl
  have e3 := heap_cell (j := 3) b3 rfl
  have le := heap_lt b3
  clear hs2 hn2 hk2 q1 q2 hkx a3 b3 HP
  go_upto_region 5 with fail
  generalize hW : w2.alloc (KO y) = W3 at *
  clear hW
  have hyk : y.k = 1 := HYk.out
  have HLen2 : Hid (l.length + t1.length + r.1.length + q.1.length + 1002 ≤ 140737488355328) := by
    show _ ≤ _
    have := HLen.out
    simp only [List.length_append, List.length_cons, List.length_nil] at this
    omega
  have s3 : E.B ≤ W3.heap.size := Nat.le_trans hB HK3.out.1.size
  clear HLen HS2 HK2 d0 d1 d2 d3 c0 l1 l0
  go_wp2_with fail
  refine (putL E.B E.b _ _ _ _ _ (l ++ t1) 40 40 rfl _ HS3.out.1 (by have := HLen2.out; rw [List.length_append]; omega) s3).mono ?_
  rintro e w4 ⟨rfl, h4, k4⟩
  have HS4 : Hid (TS E n2 f1 k1 (l ++ t1 ++ [40]) w4) := HS3.out.put h4 k4
  have HK4 : Hid (KM E.B E.b E.mb w w4) := HK3.out.trans (KM.kp k4)
  have g4 := km_block (mb := E.mb) (KM.kp k4) HB3.out HN3.out.1 HN3.out.2
  have HB4 : Hid (w4.heap[w2.heap.size]? = some (KO y)) := g4
  have e2' := heap_cell (j := 2) g4 rfl
  have le4 := heap_lt g4
  have s4 : E.B ≤ w4.heap.size := Nat.le_trans hB HK4.out.1.size
  clear h4 k4 g4 e0 e2 e3 le
  go_wp2_with fail
  refine (HIW.out f1 k1 y.a r (l ++ t1 ++ [40]) n2 w4 HT1.out HGa.out.1 HLp.out HS4.out (HR0.out.next HK4.out.1) s4 (by have := HLen2.out; simp only [List.length_append, List.length_cons, List.length_nil]; omega) (by have := Hlim.out; omega) (by have := Hlim.out; have := HN2.out; omega)).mono ?_
  rintro e w5 ⟨⟨v5, rfl⟩, ⟨n5, hs5, hn5⟩, hl5, hk5⟩
  have HS5 : Hid (TS E n5 r.2.1 r.2.2 (l ++ t1 ++ [40] ++ r.1) w5 ∧ n5 ≤ n2 + (r.2.2 - k1) ∧ LO r.2.1) := ⟨hs5, hn5, hl5⟩
  have HK5 : Hid (KM E.B E.b E.mb w w5) := HK4.out.trans hk5
  have g5 := km_block hk5 HB4.out HN3.out.1 HN3.out.2
  have e3' := heap_cell (j := 3) g5 rfl
  have le5 := heap_lt g5
  have s5 : E.B ≤ w5.heap.size := Nat.le_trans hB HK5.out.1.size
  clear hs5 hn5 hl5 hk5 g5 e2' le4
  go_wp2_with fail
  refine (HIT.out r.2.1 r.2.2 y.b q (l ++ t1 ++ [40] ++ r.1) n5 w5 HT2.out HGa.out.2 HS5.out.2.2 HS5.out.1 (HR0.out.next HK5.out.1) s5 (by have := HLen2.out; simp only [List.length_append, List.length_cons, List.length_nil]; omega) (by have := Hlim.out; omega) (by have := Hlim.out; have := HN2.out; have := HS5.out.2.1; omega)).mono ?_
  rintro e w6 ⟨⟨v6, rfl⟩, ⟨n6, hs6, hn6⟩, hl6, hk6⟩
  have HS6 : Hid (TS E n6 q.2.1 q.2.2 (l ++ t1 ++ [40] ++ r.1 ++ q.1) w6 ∧ n6 ≤ n5 + (q.2.2 - r.2.2) ∧ LO q.2.1) := ⟨hs6, hn6, hl6⟩
  have HK6 : Hid (KM E.B E.b E.mb w w6) := HK5.out.trans hk6
  have s6 : E.B ≤ w6.heap.size := Nat.le_trans hB HK6.out.1.size
  clear hs6 hn6 hl6 hk6 e3' le5
  go_wp2_with fail
  refine (putL E.B E.b _ _ _ _ _ (l ++ t1 ++ [40] ++ r.1 ++ q.1) 41 41 rfl _ HS6.out.1.1 (by have := HLen2.out; simp only [List.length_append, List.length_cons, List.length_nil]; omega) s6).mono ?_
  rintro e w7 ⟨rfl, h7, k7⟩
  have HS7 : Hid (TS E n6 q.2.1 q.2.2 (l ++ (t1 ++ ([40] ++ (r.1 ++ (q.1 ++ [41]))))) w7) := by
    show TS ..
    have := HS6.out.1.put h7 k7
    simp only [List.append_assoc] at this ⊢
    exact this
  have HK7 : Hid (KM E.B E.b E.mb w w7) := HK6.out.trans (KM.kp k7)
  clear h7 k7
  go_wp2
  go_end0
  exact ⟨⟨_, rfl⟩, ⟨n6, HS7.out, by have := Hlim.out; have := HN2.out; have := HS5.out.2.1; have := HS6.out.2.1; simp only; omega⟩, HS6.out.2.2, HK7.out⟩
set_option maxRecDepth 100000 in
set_option maxHeartbeats 8000000 in
theorem word_box (E : Env) (fu : Nat) (IW : CallC E fu true 21) (f : Nat → Lab) (k c : Nat) (y : Cl) (x : Int) (l : List UInt8) (n : Nat) (w : World) (r : Res) (hr : refN x = some c) (hg : Gd E.X E.N x) (hy : E.X[c]? = some y) (hyk : y.k = 2) (hga : Gd E.X E.N y.a) (hL : LO f) (h : TS E n f k l w) (hR : Rds E.X E.N E.rx E.rn E.B w) (hB : E.B ≤ w.heap.size) (hmb : E.B ≤ E.mb) (_ : E.X.length ≤ 1000000) (hcm : ¬ ((f c).met ≠ 1 ∧ (f c).came = true))
    (h1 : tell E.X E.N fu true (preF f k c) (preK f k c) y.a = some r) (hlen : l.length + (preT f k c ++ ([35, 98, 111, 120, 40] ++ (r.1 ++ [41]))).length + 1000 ≤ 140737488355328) (hk3 : r.2.2 ≤ 3000000) (hn : n + (r.2.2 - k) ≤ 10000000) :
    Calls Tryd.prog 21 #[.pointer (some ⟨E.b, 0, none⟩), .int .u64 x] w (PostW E n k l w ((preT f k c ++ ([35, 98, 111, 120, 40] ++ (r.1 ++ [41]))), r.2)) := by
  obtain ⟨hHR, _, hTa, _⟩ := hR w (Below.refl _ w)
  have h8 : ofT x = 8 := by unfold refN at hr; split at hr <;> first | assumption | cases hr
  have hrb : refB x = true := by unfold refB; simpa using h8
  have hbd := ofN_ref hrb
  have hcx : cellV x = c ∧ c ≤ 2147483647 := by
    unfold refN at hr; rw [if_pos h8] at hr
    have := Option.some.inj hr
    unfold cellV; rw [if_pos h8]; omega
  have hlt := hg.cell c hr
  have HC : Hid (Calls Tryd.prog 12 #[.int .u64 x] w fun e w' => e = .returned (.tuple #[.int .i64 (cellV x), .bool (refB x)]) ∧ w' = w) := cell_any x _ hg.rng hTa
  rw [hrb, hcx.1] at HC
  have hm1 := tell_mono _ _ _ _ _ _ _ _ h1
  have hpk := preK_le f k c
  have HP : Hid _ := again_go E f k c l n w h hR hB hmb hcx.2 (by omega) (by omega) hcm (by omega)
  have HLp : Hid (LO (preF f k c)) := hL.pre (by omega) c
  have HR0 : Hid (Rds E.X E.N E.rx E.rn E.B w) := hR
  have HT1 : Hid (tell E.X E.N fu true (preF f k c) (preK f k c) y.a = some r) := h1
  have HGa : Hid (Gd E.X E.N y.a) := hga
  have HIW : Hid (CallC E fu true 21) := IW
  have HLen : Hid (l.length + (preT f k c ++ ([35, 98, 111, 120, 40] ++ (r.1 ++ [41]))).length + 1000 ≤ 140737488355328) := hlen
  have hci : (c : Int) < (E.X.length : Int) := by omega
  have Hlim : Hid (r.2.2 ≤ 3000000 ∧ n + (r.2.2 - k) ≤ 10000000 ∧ k ≤ preK f k c ∧ preK f k c ≤ r.2.2 ∧ r.2.2 ≤ r.2.2) := ⟨hk3, hn, hpk, hm1, Nat.le_refl _⟩
  have HY : Hid (E.X[c]? = some y ∧ c < E.X.length) := ⟨hy, hlt⟩
  have HYk : Hid (y.k = 2) := hyk
  clear h hg hL hR hTa hr h8 hrb hbd hcx hcm h1 IW hk3 hn hpk hm1 hy hHR hlt hlen hga hyk 
  generalize preF f k c = f1 at *
  generalize preT f k c = t1 at *
  generalize preK f k c = k1 at *
  go_enter Tryd.func21, Tryd.ntmps21
  go_wp2_with fail
  refine Calls.mono HC.out ?_
  rintro e w1 ⟨rfl, hw1⟩
  rw [hw1]
  clear hw1 HC
  go_wp2_with fail
  refine Calls.mono HP.out ?_
  rintro e w2 ⟨rfl, ⟨n2, hs2, hn2⟩, hk2⟩
  have HS2 : Hid (TS E n2 f1 k1 (l ++ t1) w2 ∧ n2 ≤ n + (k1 - k)) := ⟨hs2, hn2⟩
  have HK2 : Hid (KM E.B E.b E.mb w w2) := hk2
  have HN2 : Hid (n2 ≤ n + (k1 - k)) := hn2
  obtain ⟨⟨c0, _, _, _, _⟩, l0⟩ := hs2.1.at2
  obtain ⟨bb, o, q1, q2⟩ := (HR0.out w2 hk2.1).1
  obtain ⟨l1, ⟨d0, d1, d2, d3⟩, hkx⟩ := q2 c y HY.out.1
  have hra : E.rx = some ⟨bb, o, none⟩ := q1.resolve_left (by have := HY.out.2; omega)
  rw [hra] at c0
  have a3 := (Below.refl _ w2).alloc (Nat.le_refl w2.heap.size) (KO y)
  have b3 := heap_alloc_new w2 (KO y)
  have HS3 : Hid (TS E n2 f1 k1 (l ++ t1) (w2.alloc (KO y))) := hs2.keep a3
  have sB : E.B ≤ w2.heap.size := Nat.le_trans hB hk2.1.size
  have HK3 : Hid (KM E.B E.b E.mb w (w2.alloc (KO y))) := hk2.trans (KM.below a3 sB)
  have HN3 : Hid (w2.heap.size ≠ E.b ∧ w2.heap.size ≠ E.mb) := ⟨by have := hs2.1.at2.2; omega, by have := hs2.2.lt; omega⟩
  have HB3 : Hid ((w2.alloc (KO y)).heap[w2.heap.size]? = some (KO y)) := b3
  have e0 := heap_cell (j := 0) b3 rfl
  have e2 := heap_cell (j := 2) b3 rfl
  have e3 := heap_cell (j := 3) b3 rfl
  have le := heap_lt b3
  clear hs2 hn2 hk2 q1 q2 hkx a3 b3 HP
  go_upto_region 5 with fail
  generalize hW : w2.alloc (KO y) = W3 at *
  clear hW
  have hyk : y.k = 2 := HYk.out
  have HLen2 : Hid (l.length + t1.length + ([35, 98, 111, 120, 40] : List UInt8).length + r.1.length + 1001 ≤ 140737488355328) := by
    show _ ≤ _
    have := HLen.out
    simp only [List.length_append, List.length_cons, List.length_nil] at this ⊢
    omega
  have s3 : E.B ≤ W3.heap.size := Nat.le_trans hB HK3.out.1.size
  clear HLen HS2 HK2 d0 d1 d2 d3 c0 l1 l0
  go_wp2_with fail
  refine (putS E.B E.b _ _ _ _ _ (l ++ t1) [35, 98, 111, 120, 40] _ HS3.out.1 (by have := HLen2.out; simp only [List.length_append, List.length_cons, List.length_nil] at this ⊢; omega) s3).mono ?_
  rintro e w4 ⟨⟨v4, rfl⟩, h4, k4⟩
  have HS4 : Hid (TS E n2 f1 k1 (l ++ t1 ++ [35, 98, 111, 120, 40]) w4) := HS3.out.put h4 k4
  have HK4 : Hid (KM E.B E.b E.mb w w4) := HK3.out.trans (KM.kp k4)
  have g4 := km_block (mb := E.mb) (KM.kp k4) HB3.out HN3.out.1 HN3.out.2
  have e2' := heap_cell (j := 2) g4 rfl
  have e3' := heap_cell (j := 3) g4 rfl
  have le4 := heap_lt g4
  have s4 : E.B ≤ w4.heap.size := Nat.le_trans hB HK4.out.1.size
  clear h4 k4 g4 e0 e2 e3 le
  go_wp2_with fail
  refine (HIW.out f1 k1 y.a r (l ++ t1 ++ [35, 98, 111, 120, 40]) n2 w4 HT1.out HGa.out HLp.out HS4.out (HR0.out.next HK4.out.1) s4 (by have := HLen2.out; simp only [List.length_append, List.length_cons, List.length_nil] at this ⊢; omega) (by have := Hlim.out; omega) (by have := Hlim.out; have := HN2.out; omega)).mono ?_
  rintro e w5 ⟨⟨v5, rfl⟩, ⟨n5, hs5, hn5⟩, hl5, hk5⟩
  have HS5 : Hid (TS E n5 r.2.1 r.2.2 (l ++ t1 ++ [35, 98, 111, 120, 40] ++ r.1) w5 ∧ n5 ≤ n2 + (r.2.2 - k1) ∧ LO r.2.1) := ⟨hs5, hn5, hl5⟩
  have HK5 : Hid (KM E.B E.b E.mb w w5) := HK4.out.trans hk5
  have s5 : E.B ≤ w5.heap.size := Nat.le_trans hB HK5.out.1.size
  clear hs5 hn5 hl5 hk5 e2' e3' le4
  go_wp2_with fail
  refine (putL E.B E.b _ _ _ _ _ (l ++ t1 ++ [35, 98, 111, 120, 40] ++ r.1) 41 41 rfl _ HS5.out.1.1 (by have := HLen2.out; simp only [List.length_append, List.length_cons, List.length_nil] at this ⊢; omega) s5).mono ?_
  rintro e w7 ⟨rfl, h7, k7⟩
  have HS7 : Hid (TS E n5 r.2.1 r.2.2 (l ++ (t1 ++ ([35, 98, 111, 120, 40] ++ (r.1 ++ [41])))) w7) := by
    show TS ..
    have := HS5.out.1.put h7 k7
    simp only [List.append_assoc] at this ⊢
    exact this
  have HK7 : Hid (KM E.B E.b E.mb w w7) := HK5.out.trans (KM.kp k7)
  clear h7 k7
  go_wp2
  go_end0
  exact ⟨⟨_, rfl⟩, ⟨n5, HS7.out, by have := Hlim.out; have := HN2.out; have := HS5.out.2.1; simp only; omega⟩, HS5.out.2.2, HK7.out⟩
set_option maxRecDepth 100000 in
set_option maxHeartbeats 8000000 in
theorem word_proc (E : Env) (fu : Nat) (IW : CallC E fu true 21) (f : Nat → Lab) (k c : Nat) (y : Cl) (x : Int) (l : List UInt8) (n : Nat) (w : World) (r : Res) (hr : refN x = some c) (hg : Gd E.X E.N x) (hy : E.X[c]? = some y) (hyk : y.k = 3) (hga : Gd E.X E.N y.b ∧ Rng y.a) (hL : LO f) (h : TS E n f k l w) (hR : Rds E.X E.N E.rx E.rn E.B w) (hB : E.B ≤ w.heap.size) (hmb : E.B ≤ E.mb) (_ : E.X.length ≤ 1000000) (hcm : ¬ ((f c).met ≠ 1 ∧ (f c).came = true))
    (h1 : tell E.X E.N fu true (preF f k c) (preK f k c) y.b = some r) (hlen : l.length + (preT f k c ++ (betw [35, 112, 114, 111, 99] (ofN y.a) [40] ++ (r.1 ++ [41]))).length + 1000 ≤ 140737488355328) (hk3 : r.2.2 ≤ 3000000) (hn : n + (r.2.2 - k) ≤ 10000000) :
    Calls Tryd.prog 21 #[.pointer (some ⟨E.b, 0, none⟩), .int .u64 x] w (PostW E n k l w ((preT f k c ++ (betw [35, 112, 114, 111, 99] (ofN y.a) [40] ++ (r.1 ++ [41]))), r.2)) := by
  obtain ⟨hHR, _, hTa, _⟩ := hR w (Below.refl _ w)
  have h8 : ofT x = 8 := by unfold refN at hr; split at hr <;> first | assumption | cases hr
  have hrb : refB x = true := by unfold refB; simpa using h8
  have hbd := ofN_ref hrb
  have hcx : cellV x = c ∧ c ≤ 2147483647 := by
    unfold refN at hr; rw [if_pos h8] at hr
    have := Option.some.inj hr
    unfold cellV; rw [if_pos h8]; omega
  have hlt := hg.cell c hr
  have HC : Hid (Calls Tryd.prog 12 #[.int .u64 x] w fun e w' => e = .returned (.tuple #[.int .i64 (cellV x), .bool (refB x)]) ∧ w' = w) := cell_any x _ hg.rng hTa
  rw [hrb, hcx.1] at HC
  have hm1 := tell_mono _ _ _ _ _ _ _ _ h1
  have hpk := preK_le f k c
  have HP : Hid _ := again_go E f k c l n w h hR hB hmb hcx.2 (by omega) (by omega) hcm (by omega)
  have HLp : Hid (LO (preF f k c)) := hL.pre (by omega) c
  have HR0 : Hid (Rds E.X E.N E.rx E.rn E.B w) := hR
  have HT1 : Hid (tell E.X E.N fu true (preF f k c) (preK f k c) y.b = some r) := h1
  have HGa : Hid (Gd E.X E.N y.b ∧ Rng y.a) := hga
  have HIW : Hid (CallC E fu true 21) := IW
  have HLen : Hid (l.length + (preT f k c ++ (betw [35, 112, 114, 111, 99] (ofN y.a) [40] ++ (r.1 ++ [41]))).length + 1000 ≤ 140737488355328) := hlen
  have hci : (c : Int) < (E.X.length : Int) := by omega
  have Hlim : Hid (r.2.2 ≤ 3000000 ∧ n + (r.2.2 - k) ≤ 10000000 ∧ k ≤ preK f k c ∧ preK f k c ≤ r.2.2 ∧ r.2.2 ≤ r.2.2) := ⟨hk3, hn, hpk, hm1, Nat.le_refl _⟩
  have HY : Hid (E.X[c]? = some y ∧ c < E.X.length) := ⟨hy, hlt⟩
  have HYk : Hid (y.k = 3) := hyk
  clear h hg hL hR hTa hr h8 hrb hbd hcx hcm h1 IW hk3 hn hpk hm1 hy hHR hlt hlen hga hyk 
  generalize preF f k c = f1 at *
  generalize preT f k c = t1 at *
  generalize preK f k c = k1 at *
  go_enter Tryd.func21, Tryd.ntmps21
  go_wp2_with fail
  refine Calls.mono HC.out ?_
  rintro e w1 ⟨rfl, hw1⟩
  rw [hw1]
  clear hw1 HC
  go_wp2_with fail
  refine Calls.mono HP.out ?_
  rintro e w2 ⟨rfl, ⟨n2, hs2, hn2⟩, hk2⟩
  have HS2 : Hid (TS E n2 f1 k1 (l ++ t1) w2 ∧ n2 ≤ n + (k1 - k)) := ⟨hs2, hn2⟩
  have HK2 : Hid (KM E.B E.b E.mb w w2) := hk2
  have HN2 : Hid (n2 ≤ n + (k1 - k)) := hn2
  obtain ⟨⟨c0, _, _, _, _⟩, l0⟩ := hs2.1.at2
  obtain ⟨bb, o, q1, q2⟩ := (HR0.out w2 hk2.1).1
  obtain ⟨l1, ⟨d0, d1, d2, d3⟩, hkx⟩ := q2 c y HY.out.1
  have hra : E.rx = some ⟨bb, o, none⟩ := q1.resolve_left (by have := HY.out.2; omega)
  rw [hra] at c0
  have a3 := (Below.refl _ w2).alloc (Nat.le_refl w2.heap.size) (KO y)
  have b3 := heap_alloc_new w2 (KO y)
  have HS3 : Hid (TS E n2 f1 k1 (l ++ t1) (w2.alloc (KO y))) := hs2.keep a3
  have sB : E.B ≤ w2.heap.size := Nat.le_trans hB hk2.1.size
  have HK3 : Hid (KM E.B E.b E.mb w (w2.alloc (KO y))) := hk2.trans (KM.below a3 sB)
  have HN3 : Hid (w2.heap.size ≠ E.b ∧ w2.heap.size ≠ E.mb) := ⟨by have := hs2.1.at2.2; omega, by have := hs2.2.lt; omega⟩
  have HB3 : Hid ((w2.alloc (KO y)).heap[w2.heap.size]? = some (KO y)) := b3
  have e0 := heap_cell (j := 0) b3 rfl
  have e2 := heap_cell (j := 2) b3 rfl
  have e3 := heap_cell (j := 3) b3 rfl
  have le := heap_lt b3
  clear hs2 hn2 hk2 q1 q2 hkx a3 b3 HP
  go_upto_region 5 with fail
  generalize hW : w2.alloc (KO y) = W3 at *
  clear hW
  have hyk : y.k = 3 := HYk.out
  obtain ⟨P, hP⟩ : ∃ P, P = betw [35, 112, 114, 111, 99] (ofN y.a) [40] := ⟨_, rfl⟩
  have HPq : Hid (P = betw [35, 112, 114, 111, 99] (ofN y.a) [40]) := hP
  rw [← hP] at HLen
  clear hP
  have HLen2 : Hid (l.length + t1.length + P.length + r.1.length + 1001 ≤ 140737488355328) := by
    show _ ≤ _
    have := HLen.out
    simp only [List.length_append, List.length_cons, List.length_nil] at this ⊢
    omega
  have s3 : E.B ≤ W3.heap.size := Nat.le_trans hB HK3.out.1.size
  clear HLen HS2 HK2 d0 d1 d2 d3 c0 l1 l0
  have HO : Hid (Calls Tryd.prog 24 #[.int .u64 y.a] W3 fun e w' => e = .returned (.tuple #[.int .u8 (ofT y.a), .int .i64 (ofN y.a), .bool (wd y.a)]) ∧ w' = W3) := of_any y.a W3 HGa.out.2 (HR0.out W3 HK3.out.1).2.2.1
  have hnb := ofN_bd y.a
  have HNm : Hid (Calls Tryd.prog 41 #[.pointer (some ⟨E.b, 0, none⟩), S [35, 112, 114, 111, 99], .int .i64 (ofN y.a), S [40]] W3 fun e w' => (∃ v, e = .returned v) ∧ Tl E.B E.b (.slice E.rx E.X.length E.cx) E.a1 (.slice E.rn E.N.length E.cn) (.map (some E.mb)) (.int .i64 k1) (l ++ t1 ++ P) w' ∧ Kp E.B E.b W3 w') := by
    show Calls ..
    rw [HPq.out]
    exact tellNum_any E.B E.b _ _ _ _ _ (l ++ t1) [35, 112, 114, 111, 99] [40] (ofN y.a) W3 HS3.out.1 (fun w' h' => (HR0.out w' (HK3.out.1.trans h')).2.2.2) (by omega) (by omega) (by simp) (by simp) (by have := HLen2.out; simp only [List.length_append]; omega) s3
  clear hnb
  go_wp2_with fail
  refine Calls.mono HO.out ?_
  rintro e w3 ⟨rfl, hw3⟩
  rw [hw3]
  clear hw3 HO
  go_wp2_with fail
  refine Calls.mono HNm.out ?_
  rintro e w4 ⟨⟨v4, rfl⟩, h4, k4⟩
  clear HNm
  have HS4 : Hid (TS E n2 f1 k1 (l ++ t1 ++ P) w4) := HS3.out.put h4 k4
  have HK4 : Hid (KM E.B E.b E.mb w w4) := HK3.out.trans (KM.kp k4)
  have g4 := km_block (mb := E.mb) (KM.kp k4) HB3.out HN3.out.1 HN3.out.2
  have e2' := heap_cell (j := 2) g4 rfl
  have e3' := heap_cell (j := 3) g4 rfl
  have le4 := heap_lt g4
  have s4 : E.B ≤ w4.heap.size := Nat.le_trans hB HK4.out.1.size
  clear h4 k4 g4 e0 e2 e3 le
  go_wp2_with fail
  refine (HIW.out f1 k1 y.b r (l ++ t1 ++ P) n2 w4 HT1.out HGa.out.1 HLp.out HS4.out (HR0.out.next HK4.out.1) s4 (by have := HLen2.out; simp only [List.length_append] at this ⊢; omega) (by have := Hlim.out; omega) (by have := Hlim.out; have := HN2.out; omega)).mono ?_
  rintro e w5 ⟨⟨v5, rfl⟩, ⟨n5, hs5, hn5⟩, hl5, hk5⟩
  have HS5 : Hid (TS E n5 r.2.1 r.2.2 (l ++ t1 ++ P ++ r.1) w5 ∧ n5 ≤ n2 + (r.2.2 - k1) ∧ LO r.2.1) := ⟨hs5, hn5, hl5⟩
  have HK5 : Hid (KM E.B E.b E.mb w w5) := HK4.out.trans hk5
  have s5 : E.B ≤ w5.heap.size := Nat.le_trans hB HK5.out.1.size
  clear hs5 hn5 hl5 hk5 e2' e3' le4
  go_wp2_with fail
  refine (putL E.B E.b _ _ _ _ _ (l ++ t1 ++ P ++ r.1) 41 41 rfl _ HS5.out.1.1 (by have := HLen2.out; simp only [List.length_append] at this ⊢; omega) s5).mono ?_
  rintro e w7 ⟨rfl, h7, k7⟩
  have HS7 : Hid (TS E n5 r.2.1 r.2.2 (l ++ (t1 ++ (P ++ (r.1 ++ [41])))) w7) := by
    show TS ..
    have := HS5.out.1.put h7 k7
    simp only [List.append_assoc] at this ⊢
    exact this
  have HK7 : Hid (KM E.B E.b E.mb w w7) := HK5.out.trans (KM.kp k7)
  clear h7 k7
  rw [HPq.out] at HS7
  go_wp2
  go_end0
  exact ⟨⟨_, rfl⟩, ⟨n5, HS7.out, by have := Hlim.out; have := HN2.out; have := HS5.out.2.1; simp only; omega⟩, HS5.out.2.2, HK7.out⟩
end Go.Proofs.YtejmoopgfnjaaaaDoor
