/- Have all symbols that are met names? -/
import Derived.Test.YtinijcmnojlphaaDoorHSMet
namespace Go.Proofs.YtinijcmnojlphaaDoor
open Go.RowKit

/-- A symbol without a name. -/
def nameless (n : Nat) (x : Int) : Bool := (ofT x == 6) && decide ((n : Int) ≤ ofN x)
set_option maxRecDepth 100000 in
set_option maxHeartbeats 4000000 in
theorem named1_any (n nb : Nat) (rn : Option Addr) (cn : Nat) (x : Int) (w : World) (hx : Rng x) (hN : w.heap[nb]? = some (.cells #[.slice rn n cn] 29 (0, 0))) (hT : Tab w) :
    Calls Tryd.prog 26 #[.int .u64 x, .pointer (some ⟨nb, 0, none⟩)] w fun e w' => e = .returned (.bool (nameless n x)) ∧ w' = w := by
  have c0 := heap_cell (j := 0) hN rfl
  have l0 := heap_lt hN
  have HOf : Hid (Calls Tryd.prog 27 #[.int .u64 x] w fun e w' => e = .returned (.tuple #[.int .u8 (ofT x), .int .i64 (ofN x), .bool (wd x)]) ∧ w' = w) := of_any x w hx hT
  clear hN hT
  cases h6 : (ofT x == 6)
  · have HE : Hid (nameless n x = false) := by show _ = _; unfold nameless; rw [h6]; rfl
    rw [HE.out]
    have h6' : ofT x ≠ 6 := by simpa using h6
    generalize ofT x = t6 at *
    generalize ofN x = n6 at *
    go_enter Tryd.func26, Tryd.ntmps26
    go_wp2_with fail
    refine Calls.mono HOf.out ?_
    rintro e w1 ⟨rfl, hw1⟩
    rw [hw1]
    clear hw1 HOf
    go_wp2
    all_goals
      go_ret
      first
        | exact ⟨rfl, rfl⟩
        | exact absurd rfl h6'
  · have HE : Hid (nameless n x = decide ((n : Int) ≤ ofN x)) := by show _ = _; unfold nameless; rw [h6]; rfl
    have h6' : ofT x = 6 := by simpa using h6
    rw [HE.out]
    rw [h6'] at HOf
    clear HE h6 h6'
    generalize ofN x = n6 at *
    go_enter Tryd.func26, Tryd.ntmps26
    go_wp2_with fail
    refine Calls.mono HOf.out ?_
    rintro e w1 ⟨rfl, hw1⟩
    rw [hw1]
    clear hw1 HOf
    go_wp2
    go_ret
    exact ⟨rfl, rfl⟩
set_option maxRecDepth 100000 in
set_option maxHeartbeats 4000000 in
theorem indexNamed_any (n nb : Nat) (rn : Option Addr) (cn : Nat) (l : List Int) (ra : Option Addr) (ca : Nat) (w : World) (hl : l.length ≤ 3000000) (hH : WR w ra l) (hN : w.heap[nb]? = some (.cells #[.slice rn n cn] 29 (0, 0))) (hT : Tab w) :
    Calls Tryd.prog 42 #[.slice ra l.length ca, .func (.func 26) #[] #[.pointer (some ⟨nb, 0, none⟩)]] w fun e w' => (∃ k : Int, e = .returned (.int .i64 k) ∧ (l.any (nameless n) = decide (0 ≤ k))) ∧ Below w.heap.size w w' := by
  have HH : Hid (WR w ra l ∧ w.heap[nb]? = some (.cells #[.slice rn n cn] 29 (0, 0)) ∧ Tab w) := ⟨hH, hN, hT⟩
  clear hH hN hT
  have hen : ∀ (args : Array Value) (w : World), (callFunc 26 args).run Tryd.prog w = .ok (.enter 26 args) w := fun args w => by go_simp
  go_enter Tryd.func42, Tryd.ntmps42
  go_wp2
  go_loopw [8, 5] (fun i _ wr => ∃ j : Nat, i = .int .i64 j ∧ j ≤ l.length ∧ Hid ((l.take j).any (nameless n) = false) ∧ Hid (Below w.heap.size w wr)) (fun i _ _ => l.length - (intOf i).toNat)
  case atStart => exact ⟨0, rfl, Nat.zero_le _, rfl, Below.refl _ _⟩
  case round =>
    obtain ⟨j, rfl, hj, HN, HB⟩ := hrel
    by_cases hlt : j < l.length
    · have k1 : (j : Int) < (l.length : Int) := by omega
      obtain ⟨x, hx⟩ : ∃ x, l[j]? = some x := ⟨_, List.getElem?_eq_getElem hlt⟩
      obtain ⟨b, o, q1, q2⟩ := HH.out.1.below HB.out
      obtain rfl : ra = some ⟨b, o, none⟩ := q1.resolve_left (by omega)
      obtain ⟨l1, d0, hkx⟩ := q2 j x hx
      have HC : Hid (Calls Tryd.prog 26 #[.int .u64 x, .pointer (some ⟨nb, 0, none⟩)] wr fun e w' => e = .returned (.bool (nameless n x)) ∧ w' = wr) := named1_any n nb rn cn x wr hkx ((HB.out.block _ (heap_lt HH.out.2.1)).trans HH.out.2.1) (HH.out.2.2.below HB.out)
      have HXx : Hid (l[j]? = some x) := hx
      clear q1 q2 hx hkx
      cases hwr : nameless n x
      · rw [hwr] at HC
        have HW : Hid (nameless n x = false) := hwr
        clear hwr
        go_wp2_with fail
        refine Calls.mono HC.out ?_
        rintro e w1 ⟨rfl, hw1⟩
        rw [hw1]
        clear hw1 HC
        go_wp2
        go_roundw
        case rel => exact ⟨j + 1, by go_num, by omega, (any_take HN.out HXx.out).trans HW.out, HB⟩
        case measure => simp [intOf]; omega
      · rw [hwr] at HC
        have HW : Hid (nameless n x = true) := hwr
        clear hwr
        go_wp2_with fail
        refine Calls.mono HC.out ?_
        rintro e w1 ⟨rfl, hw1⟩
        rw [hw1]
        clear hw1 HC
        go_wp2
        go_ret
        exact ⟨⟨j, rfl, by rw [any_at HXx.out HW.out]; simp⟩, HB.out⟩
    · have k1 : ¬ (j : Int) < (l.length : Int) := by omega
      have HE : Hid (l.any (nameless n) = false) := by have := HN.out; rwa [List.take_of_length_le (by omega)] at this
      go_wp2
      go_ret
      exact ⟨⟨-1, rfl, by rw [HE.out]; rfl⟩, HB.out⟩
set_option maxRecDepth 100000 in
set_option maxHeartbeats 4000000 in
theorem isNamed_any (X : List Cl) (F : Int) (rx : Option Addr) (cx n : Nat) (rn : Option Addr) (cn : Nat) (w : World) (hl : X.length ≤ 1000000) (hH : HR w rx X) (hk : ∀ x ∈ X, Kd x) (hF : Rng F) (hT : Tab w) :
    Calls Tryd.prog 13 #[sightV (.slice rx X.length cx) F, .slice rn n cn] w fun e w' => e = .returned (.bool (!(metW X F).any (nameless n))) ∧ Below w.heap.size w w' := by
  have a0 := (Below.refl _ w).alloc (Nat.le_refl w.heap.size) (.cells #[.slice rx X.length cx, .int .u64 F] 44)
  have s0 := sight_new w (.slice rx X.length cx) (.int .u64 F)
  have z0 : (w.alloc (.cells #[.slice rx X.length cx, .int .u64 F] 44)).heap.size = w.heap.size + 1 := World.size_alloc ..
  have a1 := a0.alloc a0.size (.cells #[.slice rn n cn] 29)
  have s1 : SB ((w.alloc (.cells #[.slice rx X.length cx, .int .u64 F] 44)).alloc (.cells #[.slice rn n cn] 29)) w.heap.size (.slice rx X.length cx) (.int .u64 F) := (Below.heap_alloc _ _ _ (heap_lt s0)).trans s0
  have n1 := heap_alloc_new (w.alloc (.cells #[.slice rx X.length cx, .int .u64 F] 44)) (.cells #[.slice rn n cn] 29)
  rw [z0] at n1
  have c0 := heap_cell (j := 0) s1 rfl
  have c1 := heap_cell (j := 1) s1 rfl
  have l0 := heap_lt s1
  have HN1 : Hid (((w.alloc (.cells #[.slice rx X.length cx, .int .u64 F] 44)).alloc (.cells #[.slice rn n cn] 29)).heap[w.heap.size + 1]? = some (.cells #[.slice rn n cn] 29 (0, 0))) := n1
  have HB1 : Hid (Below w.heap.size w ((w.alloc (.cells #[.slice rx X.length cx, .int .u64 F] 44)).alloc (.cells #[.slice rn n cn] 29))) := a1
  have HM : Hid _ := met_any X F rx cx _ hl (hH.below a1) hk hF
  have HT : Hid (Tab ((w.alloc (.cells #[.slice rx X.length cx, .int .u64 F] 44)).alloc (.cells #[.slice rn n cn] 29))) := hT.below a1
  have hml := met_len X F
  clear a0 s0 a1 s1 n1 z0 hH hk hF hT
  unfold sightV at *
  go_enter Tryd.func13, Tryd.ntmps13
  go_upto_region 1 with fail
  generalize (w.alloc (.cells #[.slice rx X.length cx, .int .u64 F] 44)).alloc (.cells #[.slice rn n cn] 29) = W1 at *
  go_wp2_with fail
  refine Calls.mono HM.out ?_
  rintro e w2 ⟨⟨rv, cv, rfl, hr⟩, hb⟩
  have HI : Hid _ := indexNamed_any n (w.heap.size + 1) rn cn (metW X F) rv cv w2 (by omega) hr ((hb.block _ (heap_lt HN1.out)).trans HN1.out) (HT.out.below hb)
  have HB2 : Hid (Below w.heap.size w w2) := HB1.out.trans (hb.mono HB1.out.size)
  have HC : Hid (Calls Tryd.prog 24 #[.slice rv (metW X F).length cv, .func (.func 26) #[] #[.pointer (some ⟨w.heap.size + 1, 0, none⟩)]] w2 fun e w' => e = .returned (.bool ((metW X F).any (nameless n))) ∧ Below w2.heap.size w2 w') := by
    clear hb hr HM
    show Calls ..
    generalize (metW X F).any (nameless n) = bb at *
    go_enter Tryd.func24, Tryd.ntmps24
    go_wp2_with fail
    refine Calls.mono HI.out ?_
    rintro e w3 ⟨⟨k, rfl, hk⟩, hb3⟩
    have HB3 : Hid (Below w2.heap.size w2 w3) := hb3
    have HK : Hid (bb = decide (0 ≤ k)) := hk
    clear hb3 hk HI
    go_wp2
    go_ret
    exact ⟨by rw [HK.out]; rfl, HB3.out⟩
  clear hb hr HM HI
  obtain ⟨bb, hbb⟩ : ∃ bb, bb = (metW X F).any (nameless n) := ⟨_, rfl⟩
  rw [← hbb] at HC
  have HBb : Hid (bb = (metW X F).any (nameless n)) := hbb
  clear hbb
  go_wp2_with fail
  refine Calls.mono HC.out ?_
  rintro e w3 ⟨rfl, hb3⟩
  have HB3 : Hid (Below w.heap.size w w3) := HB2.out.trans (hb3.mono HB2.out.size)
  clear hb3 HC
  go_wp2
  go_ret
  exact ⟨by rw [← HBb.out]; rfl, HB3.out⟩
end Go.Proofs.YtinijcmnojlphaaDoor
