/- slices.Sorted(slices.Values(l)): what it asks of slices.Sort; slices.Sort of one word or none. -/
import Derived.Test.YtdcmkifljcdmmaaGreatDoorGH
namespace Go.Proofs.YtdcmkifljcdmmaaGreatDoor
open Go.RowKit Go.Shelf

def LenOk (P : Program) (f : Nat) : Prop := ∀ (x : Nat) (w : World), x < 18446744073709551616 → Calls P f #[.int .u64 x] w fun e w' => (∃ k : Int, e = .returned (.int .i64 k)) ∧ w' = w
/-- Sort turns a row of its own that holds l into one that holds sl. -/
structure SortOk (l sl : List Int) : Prop where
  len : sl.length = l.length
  mem : ∀ x, x ∈ sl ↔ x ∈ l
  call : ∀ (B : Nat) (v : Value) (w : World), B ≤ w.heap.size → w.ownsRow B 53 1 v l.length (encU l) → Calls Tryz.prog 86 #[v] w fun e w' => e = .returned (.tuple #[]) ∧ w'.ownsRow B 53 1 v l.length (encU sl) ∧ Below B w w'
set_option maxRecDepth 100000 in
set_option maxHeartbeats 4000000 in
theorem insert_few (ra : Option Addr) (n c : Nat) (hn : n ≤ 1) (w : World) :
    Calls Tryz.prog 96 #[.slice ra n c, .int .i64 0, .int .i64 n] w fun e w' => e = .returned (.tuple #[]) ∧ w' = w := by
  have h1 : ¬ (1 : Int) < (n : Int) := by omega
  go_enter Tryz.func96, Tryz.ntmps96
  go_wp2
  go_loopw [6, 7] (fun i _ wr => i = .int .i64 1 ∧ wr = w) (fun _ _ _ => 0)
  case atStart => exact ⟨rfl, rfl⟩
  case round =>
    obtain ⟨rfl, rfl⟩ := hrel
    go_wp2
    go_end0
    exact ⟨rfl, rfl⟩
set_option maxRecDepth 100000 in
set_option maxHeartbeats 4000000 in
theorem pdq_few (ra : Option Addr) (n c : Nat) (k : Int) (hn : n ≤ 1) (w : World) :
    Calls Tryz.prog 94 #[.slice ra n c, .int .i64 0, .int .i64 n, .int .i64 k] w fun e w' => e = .returned (.tuple #[]) ∧ w' = w := by
  have h1 : (n : Int) ≤ 12 := by omega
  have HI : Hid (∀ w, Calls Tryz.prog 96 #[.slice ra n c, .int .i64 0, .int .i64 n] w fun e w' => e = .returned (.tuple #[]) ∧ w' = w) := fun w => insert_few ra n c hn w
  go_enter Tryz.func94, Tryz.ntmps94
  go_wp2
  go_loopw [1, 2, 3, 8, 9, 10, 11, 12, 13, 14, 15, 16, 17, 18] (fun a1 a2 a3 _ _ _ _ _ _ _ _ _ _ _ wr => a1 = .int .i64 0 ∧ a2 = .int .i64 n ∧ a3 = .int .i64 k ∧ wr = w) (fun _ _ _ _ _ _ _ _ _ _ _ _ _ _ _ => 0)
  case atStart => exact ⟨rfl, rfl, rfl, rfl⟩
  case round =>
    obtain ⟨rfl, rfl, rfl, rfl⟩ := hrel
    go_wp2_with fail
    refine Calls.mono (HI.out _) ?_
    rintro e w1 ⟨rfl, hw1⟩
    rw [hw1]
    clear hw1
    go_wp2
    refine bodyPost_ret (results_none rfl _ _ _) rfl ?_
    exact ⟨rfl, rfl⟩
set_option maxRecDepth 100000 in
set_option maxHeartbeats 4000000 in
theorem sort_few (ra : Option Addr) (n c : Nat) (hn : n ≤ 1) (w : World) (hL : LenOk Tryz.prog 95) :
    Calls Tryz.prog 86 #[.slice ra n c] w fun e w' => e = .returned (.tuple #[]) ∧ w' = w := by
  have HL : Hid (Calls Tryz.prog 95 #[.int .u64 n] w fun e w' => (∃ k : Int, e = .returned (.int .i64 k)) ∧ w' = w) := hL n w (by omega)
  have HP : Hid (∀ k, Calls Tryz.prog 94 #[.slice ra n c, .int .i64 0, .int .i64 n, .int .i64 k] w fun e w' => e = .returned (.tuple #[]) ∧ w' = w) := fun k => pdq_few ra n c k hn w
  clear hL
  go_enter Tryz.func86, Tryz.ntmps86
  go_wp2_with fail
  refine Calls.mono HL.out ?_
  rintro e w1 ⟨⟨k, rfl⟩, hw1⟩
  rw [hw1]
  clear hw1 HL
  go_wp2_with fail
  refine Calls.mono (HP.out k) ?_
  rintro e w1 ⟨rfl, hw1⟩
  rw [hw1]
  clear hw1 HP
  go_wp2
  go_end0
  exact ⟨rfl, rfl⟩
theorem sortOk_few (l : List Int) (hl : l.length ≤ 1) (hL : LenOk Tryz.prog 95) : SortOk l l := ⟨rfl, fun _ => Iff.rfl, fun B v w hB h => by
  obtain ⟨ra, cap, rfl⟩ := own_sl h
  refine Calls.mono (sort_few ra l.length cap hl w hL) ?_
  rintro e w' ⟨rfl, rfl⟩
  exact ⟨rfl, h, Below.refl _ _⟩⟩
set_option maxRecDepth 100000 in
set_option maxHeartbeats 4000000 in
theorem sorted_any (Bs cb : Nat) (rb : Option Addr) (l sl : List Int) (hls : l.length ≤ 1000000) (hS : SortOk l sl) (w : World) (hWR : WR w rb l)
    (hBs : w.heap[Bs]? = some (.cells #[.slice rb l.length cb] 23 (0, 0))) :
    Calls Tryz.prog 74 #[.func (.func 87) #[] #[.pointer (some ⟨Bs, 0, none⟩)]] w fun e w' => Below w.heap.size w w' ∧
      ∃ v, e = .returned v ∧ w'.ownsRow w.heap.size 53 1 v l.length (encU sl) := by
  have HC : Hid (Calls Tryz.prog 85 #[.func (.func 87) #[] #[.pointer (some ⟨Bs, 0, none⟩)]] w fun e w' => Below w.heap.size w w' ∧
      ∃ v, e = .returned v ∧ w'.ownsRow w.heap.size 53 1 v l.length (encU l)) := by
    have HA : Hid (Calls Tryz.prog 93 #[.slice none 0 0, .func (.func 87) #[] #[.pointer (some ⟨Bs, 0, none⟩)]] w fun e w' => Below w.heap.size w w' ∧
      ∃ v, e = .returned v ∧ w'.ownsRow w.heap.size 53 1 v l.length (encU l)) := callsIn_wide.1 (appendSeq_in Bs cb rb l hls w hWR hBs)
    clear hWR hBs hS
    unfold Hid
    go_enter Tryz.func85, Tryz.ntmps85
    go_wp2_with fail
    refine Calls.mono HA.out ?_
    rintro e w1 ⟨hb, v, rfl, ho⟩
    obtain ⟨ra, cap, rfl⟩ := own_sl ho
    go_wp2
    go_ret
    exact ⟨hb, _, rfl, ho⟩
  clear hWR hBs
  go_enter Tryz.func74, Tryz.ntmps74
  go_wp2_with fail
  refine Calls.mono HC.out ?_
  rintro e w1 ⟨hb, v, rfl, ho⟩
  have HS : Hid (Calls Tryz.prog 86 #[v] w1 fun e w' => e = .returned (.tuple #[]) ∧ w'.ownsRow w.heap.size 53 1 v l.length (encU sl) ∧ Below w.heap.size w1 w') := hS.call _ v w1 hb.size ho
  have HB : Hid (Below w.heap.size w w1) := hb
  obtain ⟨ra, cap, rfl⟩ := own_sl ho
  clear hb ho hS HC
  go_wp2_with fail
  refine Calls.mono HS.out ?_
  rintro e w2 ⟨rfl, ho2, hb2⟩
  have HO : Hid (w2.ownsRow w.heap.size 53 1 (.slice ra l.length cap) l.length (encU sl)) := ho2
  have HB2 : Hid (Below w.heap.size w w2) := HB.out.trans hb2
  clear ho2 hb2
  go_wp2
  go_ret
  exact ⟨HB2.out, _, rfl, HO.out⟩
set_option maxRecDepth 100000 in
set_option maxHeartbeats 4000000 in
theorem values_any (ra : Option Addr) (n c : Nat) (w : World) :
    Calls Tryz.prog 75 #[.slice ra n c] w fun e w' => e = .returned (.func (.func 87) #[] #[.pointer (some ⟨w.heap.size, 0, none⟩)]) ∧ w' = w.alloc (.cells #[.slice ra n c] 23) := by
  go_enter Tryz.func75, Tryz.ntmps75
  go_wp2
  go_ret
  exact ⟨rfl, rfl⟩
end Go.Proofs.YtdcmkifljcdmmaaGreatDoor
