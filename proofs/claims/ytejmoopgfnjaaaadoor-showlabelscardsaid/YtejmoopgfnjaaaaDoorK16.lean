/- A teller writes a word that is no reference.; A teller writes any word that is no reference; labels. -/
import Derived.Test.YtejmoopgfnjaaaaDoorK15
/- A teller writes a word that is no reference. -/
namespace Go.Proofs.YtejmoopgfnjaaaaDoor
open Go.RowKit Go.Maps Go.ChangeMaps

/-- The text of a word that is no reference. -/
def plainT (N : List (List UInt8)) (x : Int) : List UInt8 :=
  if ofT x = 1 then [40, 41] else if ofT x = 2 then [35, 102] else if ofT x = 3 then [35, 116] else if ofT x = 4 then [35, 110, 111, 110, 101] else if ofT x = 5 then betw [] (ofN x) [] else if ofT x = 6 then N.getD (ofN x).toNat [] else if ofT x = 7 then betw [35, 112, 114, 105, 109] (ofN x) [] else []
theorem ofN_sym {x : Int} (h6 : ofT x = 6) : 0 ≤ ofN x := by
  have hw : wd x = true := by
    cases hw : wd x
    · unfold ofT at h6; rw [hw] at h6; simp at h6
    · rfl
  unfold ofT at h6
  rw [if_pos hw] at h6
  have := (may_iff.1 (wd_iff.1 hw).2)
  rw [h6] at this
  unfold ofN
  rw [if_pos hw]
  exact this.1
set_option maxRecDepth 100000 in
set_option maxHeartbeats 4000000 in
theorem plain_1 (B b : Nat) (a0 a1 a2 a3 a4 : Value) (l : List UInt8) (x : Int) (w : World) (h : Tl B b a0 a1 a2 a3 a4 l w) (hx : Rng x) (hTa : Tab w) (hk : ofT x = 1) (hlen : l.length + 300 ≤ 140737488355328) (hBw : B ≤ w.heap.size) :
    Calls Tryd.prog 36 #[.pointer (some ⟨b, 0, none⟩), .int .u64 x] w fun e w' => (∃ v, e = .returned v) ∧ Tl B b a0 a1 a2 a3 a4 (l ++ [40, 41]) w' ∧ Kp B b w w' := by
  have H : Hid (Tl B b a0 a1 a2 a3 a4 l w) := h
  have HOf : Hid (Calls Tryd.prog 24 #[.int .u64 x] w fun e w' => e = .returned (.tuple #[.int .u8 (ofT x), .int .i64 (ofN x), .bool (wd x)]) ∧ w' = w) := of_any x w hx hTa
  rw [hk] at HOf
  clear h hx hTa hk
  go_enter Tryd.func36, Tryd.ntmps36
  go_wp2_with fail
  refine Calls.mono HOf.out ?_
  rintro e w1 ⟨rfl, hw1⟩
  rw [hw1]
  clear hw1 HOf
  go_wp2_with fail
  refine (putS B b a0 a1 a2 a3 a4 l [40, 41] _ H.out (by simp only [List.length_cons, List.length_nil]; omega) hBw).mono ?_
  rintro e w2 ⟨⟨v, rfl⟩, hB1, hK1⟩
  have HB1 : Hid (Tl B b a0 a1 a2 a3 a4 (l ++ [40, 41]) w2) := hB1
  have HK1 : Hid (Kp B b w w2) := hK1
  clear hB1 hK1
  go_wp2
  go_end0
  exact ⟨⟨_, rfl⟩, HB1.out, HK1.out⟩
set_option maxRecDepth 100000 in
set_option maxHeartbeats 4000000 in
theorem plain_2 (B b : Nat) (a0 a1 a2 a3 a4 : Value) (l : List UInt8) (x : Int) (w : World) (h : Tl B b a0 a1 a2 a3 a4 l w) (hx : Rng x) (hTa : Tab w) (hk : ofT x = 2) (hlen : l.length + 300 ≤ 140737488355328) (hBw : B ≤ w.heap.size) :
    Calls Tryd.prog 36 #[.pointer (some ⟨b, 0, none⟩), .int .u64 x] w fun e w' => (∃ v, e = .returned v) ∧ Tl B b a0 a1 a2 a3 a4 (l ++ [35, 102]) w' ∧ Kp B b w w' := by
  have H : Hid (Tl B b a0 a1 a2 a3 a4 l w) := h
  have HOf : Hid (Calls Tryd.prog 24 #[.int .u64 x] w fun e w' => e = .returned (.tuple #[.int .u8 (ofT x), .int .i64 (ofN x), .bool (wd x)]) ∧ w' = w) := of_any x w hx hTa
  rw [hk] at HOf
  clear h hx hTa hk
  go_enter Tryd.func36, Tryd.ntmps36
  go_wp2_with fail
  refine Calls.mono HOf.out ?_
  rintro e w1 ⟨rfl, hw1⟩
  rw [hw1]
  clear hw1 HOf
  go_wp2_with fail
  refine (putS B b a0 a1 a2 a3 a4 l [35, 102] _ H.out (by simp only [List.length_cons, List.length_nil]; omega) hBw).mono ?_
  rintro e w2 ⟨⟨v, rfl⟩, hB1, hK1⟩
  have HB1 : Hid (Tl B b a0 a1 a2 a3 a4 (l ++ [35, 102]) w2) := hB1
  have HK1 : Hid (Kp B b w w2) := hK1
  clear hB1 hK1
  go_wp2
  go_end0
  exact ⟨⟨_, rfl⟩, HB1.out, HK1.out⟩
set_option maxRecDepth 100000 in
set_option maxHeartbeats 4000000 in
theorem plain_3 (B b : Nat) (a0 a1 a2 a3 a4 : Value) (l : List UInt8) (x : Int) (w : World) (h : Tl B b a0 a1 a2 a3 a4 l w) (hx : Rng x) (hTa : Tab w) (hk : ofT x = 3) (hlen : l.length + 300 ≤ 140737488355328) (hBw : B ≤ w.heap.size) :
    Calls Tryd.prog 36 #[.pointer (some ⟨b, 0, none⟩), .int .u64 x] w fun e w' => (∃ v, e = .returned v) ∧ Tl B b a0 a1 a2 a3 a4 (l ++ [35, 116]) w' ∧ Kp B b w w' := by
  have H : Hid (Tl B b a0 a1 a2 a3 a4 l w) := h
  have HOf : Hid (Calls Tryd.prog 24 #[.int .u64 x] w fun e w' => e = .returned (.tuple #[.int .u8 (ofT x), .int .i64 (ofN x), .bool (wd x)]) ∧ w' = w) := of_any x w hx hTa
  rw [hk] at HOf
  clear h hx hTa hk
  go_enter Tryd.func36, Tryd.ntmps36
  go_wp2_with fail
  refine Calls.mono HOf.out ?_
  rintro e w1 ⟨rfl, hw1⟩
  rw [hw1]
  clear hw1 HOf
  go_wp2_with fail
  refine (putS B b a0 a1 a2 a3 a4 l [35, 116] _ H.out (by simp only [List.length_cons, List.length_nil]; omega) hBw).mono ?_
  rintro e w2 ⟨⟨v, rfl⟩, hB1, hK1⟩
  have HB1 : Hid (Tl B b a0 a1 a2 a3 a4 (l ++ [35, 116]) w2) := hB1
  have HK1 : Hid (Kp B b w w2) := hK1
  clear hB1 hK1
  go_wp2
  go_end0
  exact ⟨⟨_, rfl⟩, HB1.out, HK1.out⟩
set_option maxRecDepth 100000 in
set_option maxHeartbeats 4000000 in
theorem plain_4 (B b : Nat) (a0 a1 a2 a3 a4 : Value) (l : List UInt8) (x : Int) (w : World) (h : Tl B b a0 a1 a2 a3 a4 l w) (hx : Rng x) (hTa : Tab w) (hk : ofT x = 4) (hlen : l.length + 300 ≤ 140737488355328) (hBw : B ≤ w.heap.size) :
    Calls Tryd.prog 36 #[.pointer (some ⟨b, 0, none⟩), .int .u64 x] w fun e w' => (∃ v, e = .returned v) ∧ Tl B b a0 a1 a2 a3 a4 (l ++ [35, 110, 111, 110, 101]) w' ∧ Kp B b w w' := by
  have H : Hid (Tl B b a0 a1 a2 a3 a4 l w) := h
  have HOf : Hid (Calls Tryd.prog 24 #[.int .u64 x] w fun e w' => e = .returned (.tuple #[.int .u8 (ofT x), .int .i64 (ofN x), .bool (wd x)]) ∧ w' = w) := of_any x w hx hTa
  rw [hk] at HOf
  clear h hx hTa hk
  go_enter Tryd.func36, Tryd.ntmps36
  go_wp2_with fail
  refine Calls.mono HOf.out ?_
  rintro e w1 ⟨rfl, hw1⟩
  rw [hw1]
  clear hw1 HOf
  go_wp2_with fail
  refine (putS B b a0 a1 a2 a3 a4 l [35, 110, 111, 110, 101] _ H.out (by simp only [List.length_cons, List.length_nil]; omega) hBw).mono ?_
  rintro e w2 ⟨⟨v, rfl⟩, hB1, hK1⟩
  have HB1 : Hid (Tl B b a0 a1 a2 a3 a4 (l ++ [35, 110, 111, 110, 101]) w2) := hB1
  have HK1 : Hid (Kp B b w w2) := hK1
  clear hB1 hK1
  go_wp2
  go_end0
  exact ⟨⟨_, rfl⟩, HB1.out, HK1.out⟩
set_option maxRecDepth 100000 in
set_option maxHeartbeats 4000000 in
theorem plain_5 (B b : Nat) (a0 a1 a2 a3 a4 : Value) (l : List UInt8) (x : Int) (w : World) (h : Tl B b a0 a1 a2 a3 a4 l w) (hx : Rng x) (hTa : Tab w) (hT : ∀ w', Below B w w' → TB w') (hk : ofT x = 5) (hlen : l.length + 300 ≤ 140737488355328) (hBw : B ≤ w.heap.size) :
    Calls Tryd.prog 36 #[.pointer (some ⟨b, 0, none⟩), .int .u64 x] w fun e w' => (∃ v, e = .returned v) ∧ Tl B b a0 a1 a2 a3 a4 (l ++ betw [] (ofN x) []) w' ∧ Kp B b w w' := by
  have H : Hid (Tl B b a0 a1 a2 a3 a4 l w) := h
  have hnb := ofN_bd x
  have HOf : Hid (Calls Tryd.prog 24 #[.int .u64 x] w fun e w' => e = .returned (.tuple #[.int .u8 (ofT x), .int .i64 (ofN x), .bool (wd x)]) ∧ w' = w) := of_any x w hx hTa
  have HN : Hid _ := tellNum_any B b a0 a1 a2 a3 a4 l [] [] (ofN x) w h hT (by omega) (by omega) (by simp only [List.length_nil]; omega) (by simp only [List.length_nil]; omega) hlen hBw
  rw [hk] at HOf
  clear h hx hTa hk hT hnb
  go_enter Tryd.func36, Tryd.ntmps36
  go_wp2_with fail
  refine Calls.mono HOf.out ?_
  rintro e w1 ⟨rfl, hw1⟩
  rw [hw1]
  clear hw1 HOf
  go_wp2_with fail
  refine Calls.mono HN.out ?_
  rintro e w2 ⟨⟨v, rfl⟩, hB1, hK1⟩
  have HB1 : Hid (Tl B b a0 a1 a2 a3 a4 (l ++ betw [] (ofN x) []) w2) := hB1
  have HK1 : Hid (Kp B b w w2) := hK1
  clear hB1 hK1
  go_wp2
  go_end0
  exact ⟨⟨_, rfl⟩, HB1.out, HK1.out⟩
set_option maxRecDepth 100000 in
set_option maxHeartbeats 4000000 in
theorem plain_7 (B b : Nat) (a0 a1 a2 a3 a4 : Value) (l : List UInt8) (x : Int) (w : World) (h : Tl B b a0 a1 a2 a3 a4 l w) (hx : Rng x) (hTa : Tab w) (hT : ∀ w', Below B w w' → TB w') (hk : ofT x = 7) (hlen : l.length + 300 ≤ 140737488355328) (hBw : B ≤ w.heap.size) :
    Calls Tryd.prog 36 #[.pointer (some ⟨b, 0, none⟩), .int .u64 x] w fun e w' => (∃ v, e = .returned v) ∧ Tl B b a0 a1 a2 a3 a4 (l ++ betw [35, 112, 114, 105, 109] (ofN x) []) w' ∧ Kp B b w w' := by
  have H : Hid (Tl B b a0 a1 a2 a3 a4 l w) := h
  have hnb := ofN_bd x
  have HOf : Hid (Calls Tryd.prog 24 #[.int .u64 x] w fun e w' => e = .returned (.tuple #[.int .u8 (ofT x), .int .i64 (ofN x), .bool (wd x)]) ∧ w' = w) := of_any x w hx hTa
  have HN : Hid _ := tellNum_any B b a0 a1 a2 a3 a4 l [35, 112, 114, 105, 109] [] (ofN x) w h hT (by omega) (by omega) (by simp only [List.length_cons, List.length_nil]; omega) (by simp only [List.length_nil]; omega) hlen hBw
  rw [hk] at HOf
  clear h hx hTa hk hT hnb
  go_enter Tryd.func36, Tryd.ntmps36
  go_wp2_with fail
  refine Calls.mono HOf.out ?_
  rintro e w1 ⟨rfl, hw1⟩
  rw [hw1]
  clear hw1 HOf
  go_wp2_with fail
  refine Calls.mono HN.out ?_
  rintro e w2 ⟨⟨v, rfl⟩, hB1, hK1⟩
  have HB1 : Hid (Tl B b a0 a1 a2 a3 a4 (l ++ betw [35, 112, 114, 105, 109] (ofN x) []) w2) := hB1
  have HK1 : Hid (Kp B b w w2) := hK1
  clear hB1 hK1
  go_wp2
  go_end0
  exact ⟨⟨_, rfl⟩, HB1.out, HK1.out⟩
theorem Tl.at2 {B b : Nat} {a0 a1 a2 a3 a4 : Value} {l : List UInt8} {w : World} (h : Tl B b a0 a1 a2 a3 a4 l w) : (w.cell? ⟨b, 0, none⟩ = some a0 ∧ w.cell? ⟨b, 1, none⟩ = some a1 ∧ w.cell? ⟨b, 2, none⟩ = some a2 ∧ w.cell? ⟨b, 3, none⟩ = some a3 ∧ w.cell? ⟨b, 4, none⟩ = some a4) ∧ b < w.heap.size := by
  obtain ⟨p, _, v, hb, _⟩ : ∃ p, TlAt B b a0 a1 a2 a3 a4 p l w := by
    rcases h with h | h
    · exact ⟨_, h⟩
    · exact ⟨_, h⟩
  exact ⟨⟨heap_cell (j := 0) hb rfl, heap_cell (j := 1) hb rfl, heap_cell (j := 2) hb rfl, heap_cell (j := 3) hb rfl, heap_cell (j := 4) hb rfl⟩, heap_lt hb⟩
set_option maxRecDepth 100000 in
set_option maxHeartbeats 4000000 in
theorem plain_6 (B b : Nat) (a0 a1 a3 a4 : Value) (N : List (List UInt8)) (rn : Option Addr) (cn : Nat) (l : List UInt8) (x : Int) (w : World) (h : Tl B b a0 a1 (.slice rn N.length cn) a3 a4 l w) (hx : Rng x) (hTa : Tab w) (hX : ∀ w', Below B w w' → TX w' rn N) (hk : ofT x = 6) (hn : ofN x < N.length) (hlen : l.length + 300 + (N.getD (ofN x).toNat []).length ≤ 140737488355328) (hBw : B ≤ w.heap.size) :
    Calls Tryd.prog 36 #[.pointer (some ⟨b, 0, none⟩), .int .u64 x] w fun e w' => (∃ v, e = .returned v) ∧ Tl B b a0 a1 (.slice rn N.length cn) a3 a4 (l ++ N.getD (ofN x).toNat []) w' ∧ Kp B b w w' := by
  have H : Hid (Tl B b a0 a1 (.slice rn N.length cn) a3 a4 l w) := h
  have HOf : Hid (Calls Tryd.prog 24 #[.int .u64 x] w fun e w' => e = .returned (.tuple #[.int .u8 (ofT x), .int .i64 (ofN x), .bool (wd x)]) ∧ w' = w) := of_any x w hx hTa
  have hn0 := ofN_sym hk
  obtain ⟨n, hne⟩ : ∃ n : Nat, ofN x = (n : Int) := ⟨(ofN x).toNat, by omega⟩
  rw [hne] at hn hlen HOf ⊢
  rw [hk] at HOf
  simp only [Int.toNat_natCast] at hlen ⊢
  have hnl : n < N.length := by omega
  obtain ⟨s, hs⟩ : ∃ s, N[n]? = some s := ⟨_, List.getElem?_eq_getElem hnl⟩
  have hsd : N.getD n [] = s := by rw [List.getD_eq_getElem?_getD, hs]; rfl
  rw [hsd] at hlen ⊢
  obtain ⟨bb, o, q1, q2⟩ := hX w (Below.refl _ w)
  obtain rfl : rn = some ⟨bb, o, none⟩ := q1.resolve_left (by omega)
  obtain ⟨l1, d0, hrg⟩ := q2 n s hs
  have HX : Hid (∀ w', Below B w w' → w'.cell? ⟨bb, o + n, none⟩ = some (S s)) := by
    intro w' hb
    obtain ⟨bb', o', q1', q2'⟩ := hX w' hb
    have := q1'.resolve_left (by omega)
    simp only [Option.some.injEq, Addr.mk.injEq, and_true] at this
    obtain ⟨rfl, rfl⟩ := this
    exact (q2' n s hs).2.1
  obtain ⟨⟨_, _, c2, _, _⟩, l0⟩ := h.at2
  have hmx : Tryd.prog.follows .mixedOrders = true := by kernel_rfl
  clear h hx hTa hk hne hn0 q1 q2 hs hsd hX
  go_enter Tryd.func36, Tryd.ntmps36
  go_wp2_with fail
  refine Calls.mono HOf.out ?_
  rintro e w1 ⟨rfl, hw1⟩
  rw [hw1]
  clear hw1 HOf
  go_wp2_with fail
  go_region_held3 (fun wx => wx.cell? ⟨b, 2, none⟩ = some (.slice (some ⟨bb, o, none⟩) N.length cn) ∧ wx.cell? ⟨bb, o + n, none⟩ = some (S s)) (first | (go_keep; done) | exact hS2)
    (first | (go_at_call 40; refine (putS B b a0 a1 _ a3 a4 l s _ (H.out.kept (Below.refl _ w).drew) (by omega) hBw).mono ?_; rintro e w4 ⟨⟨v4, rfl⟩, hB4, hK4⟩; have hS2 := And.intro hB4.at2.1.2.2.1 (HX.out w4 ((Below.refl _ w).drew.trans hK4.1))))
  have HB4 : Hid (Tl B b a0 a1 (.slice (some ⟨bb, o, none⟩) N.length cn) a3 a4 (l ++ s) w4) := hB4
  have HK4 : Hid (Kp B b w w4) := (Kp.below (Below.refl _ w).drew hBw).trans hK4
  clear hB4 hK4 hS2
  go_wp2
  go_end0
  exact ⟨⟨_, rfl⟩, HB4.out, HK4.out⟩
end Go.Proofs.YtejmoopgfnjaaaaDoor

/- A teller writes any word that is no reference; labels. -/
namespace Go.Proofs.YtejmoopgfnjaaaaDoor
open Go.RowKit Go.Maps Go.ChangeMaps

theorem plain_any (B b : Nat) (a0 a1 a3 a4 : Value) (N : List (List UInt8)) (rn : Option Addr) (cn : Nat) (l : List UInt8) (x : Int) (w : World) (h : Tl B b a0 a1 (.slice rn N.length cn) a3 a4 l w) (hx : Rng x) (hTa : Tab w) (hT : ∀ w', Below B w w' → TB w') (hX : ∀ w', Below B w w' → TX w' rn N) (hk : 1 ≤ ofT x ∧ ofT x ≤ 7) (hn : nameless N.length x = false) (hlen : l.length + 300 + (plainT N x).length ≤ 140737488355328) (hBw : B ≤ w.heap.size) :
    Calls Tryd.prog 36 #[.pointer (some ⟨b, 0, none⟩), .int .u64 x] w fun e w' => (∃ v, e = .returned v) ∧ Tl B b a0 a1 (.slice rn N.length cn) a3 a4 (l ++ plainT N x) w' ∧ Kp B b w w' := by
  by_cases h1 : ofT x = 1
  · have e : plainT N x = [40, 41] := by unfold plainT; rw [if_pos h1]
    rw [e]; exact plain_1 B b _ _ _ _ _ l x w h hx hTa h1 (by omega) hBw
  by_cases h2 : ofT x = 2
  · have e : plainT N x = [35, 102] := by unfold plainT; rw [if_neg h1, if_pos h2]
    rw [e]; exact plain_2 B b _ _ _ _ _ l x w h hx hTa h2 (by omega) hBw
  by_cases h3 : ofT x = 3
  · have e : plainT N x = [35, 116] := by unfold plainT; rw [if_neg h1, if_neg h2, if_pos h3]
    rw [e]; exact plain_3 B b _ _ _ _ _ l x w h hx hTa h3 (by omega) hBw
  by_cases h4 : ofT x = 4
  · have e : plainT N x = [35, 110, 111, 110, 101] := by unfold plainT; rw [if_neg h1, if_neg h2, if_neg h3, if_pos h4]
    rw [e]; exact plain_4 B b _ _ _ _ _ l x w h hx hTa h4 (by omega) hBw
  by_cases h5 : ofT x = 5
  · have e : plainT N x = betw [] (ofN x) [] := by unfold plainT; rw [if_neg h1, if_neg h2, if_neg h3, if_neg h4, if_pos h5]
    rw [e]; exact plain_5 B b _ _ _ _ _ l x w h hx hTa hT h5 (by omega) hBw
  by_cases h6 : ofT x = 6
  · have e : plainT N x = N.getD (ofN x).toNat [] := by unfold plainT; rw [if_neg h1, if_neg h2, if_neg h3, if_neg h4, if_neg h5, if_pos h6]
    rw [e] at hlen ⊢
    have hn' : ofN x < N.length := by
      unfold nameless at hn
      rw [h6] at hn
      simp at hn
      exact hn
    exact plain_6 B b _ _ _ _ N rn cn l x w h hx hTa hX h6 hn' hlen hBw
  have h7 : ofT x = 7 := by omega
  have e : plainT N x = betw [35, 112, 114, 105, 109] (ofN x) [] := by unfold plainT; rw [if_neg h1, if_neg h2, if_neg h3, if_neg h4, if_neg h5, if_neg h6, if_pos h7]
  rw [e]; exact plain_7 B b _ _ _ _ _ l x w h hx hTa hT h7 (by omega) hBw

/-- A map that is no row of bytes, and not the teller's block, is kept by writing. -/
theorem LM.kp {B b mb n : Nat} {f : Nat → Lab} {w w' : World} (h : LM w mb n f) (hk : Kp B b w w') (hne : mb ≠ b) : LM w' mb n f := by
  obtain ⟨D, h1, ⟨es, clock, h2, h3⟩, h4⟩ := h
  exact ⟨D, h1, ⟨es, clock, hk.2 mb _ h2 (fun e => hne (Option.some.inj e)) (fun c fz e => by cases e), h3⟩, h4⟩
/-- A cell of no label, or one that has come, or one that comes now: what is written, is that all, how many have come. -/
def againT (k : Nat) (lb : Lab) : List UInt8 := if lb.met = 1 then [] else if lb.came = true then betw [35] lb.num [35] else betw [35] k [61]
set_option maxRecDepth 100000 in
set_option maxHeartbeats 4000000 in
theorem again_1 (B b mb n : Nat) (a0 a1 a2 a4 : Value) (f : Nat → Lab) (l : List UInt8) (c : Nat) (w : World) (h : Tl B b a0 a1 a2 (.map (some mb)) a4 l w) (hM : LM w mb n f) (hc : c ≤ 2147483647) (_ : B ≤ w.heap.size) (hm : (f c).met = 1) :
    Calls Tryd.prog 37 #[.pointer (some ⟨b, 0, none⟩), .int .i64 c] w fun e w' => e = .returned (.bool false) ∧ Tl B b a0 a1 a2 (.map (some mb)) a4 l w' ∧ Below w.heap.size w w' := by
  have hlk := hM.look (c := c) (by omega)
  obtain ⟨⟨_, _, _, c3, _⟩, l0⟩ := h.at2
  have hal : Below w.heap.size w (w.alloc (.cells #[.int .i64 (f c).met, .bool (f c).came, .int .i64 (f c).num] 88)) := (Below.refl _ w).alloc (Nat.le_refl _) _
  have HB : Hid _ := hal
  have HT : Hid (Tl B b a0 a1 a2 (.map (some mb)) a4 l (w.alloc (.cells #[.int .i64 (f c).met, .bool (f c).came, .int .i64 (f c).num] 88))) := h.kept hal
  have hu := Tryd.underlying88
  rw [hm] at HB HT
  have hv : labV (f c) = .agg #[.int .i64 1, .bool (f c).came, .int .i64 (f c).num] := by unfold labV; rw [hm]
  rw [hv] at hlk
  clear h hM hal hv hm
  generalize (f c).came = cm at *
  generalize (f c).num = nu at *
  go_enter Tryd.func37, Tryd.ntmps37
  go_wp2
  go_ret
  exact ⟨rfl, HT.out, HB.out⟩
end Go.Proofs.YtejmoopgfnjaaaaDoor
