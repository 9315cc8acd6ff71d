/- CycleEnds. -/
import Derived.Test.YtnohcmfhhoiihaaHELoopA
import Derived.Test.YtnohcmfhhoiihaaHELoopB
namespace Go.Proofs.Ytnohcmfhhoiihaa
open Go.RowKit

set_option maxRecDepth 100000 in
set_option maxHeartbeats 64000000 in
theorem cycleEnds_walk (cells globals : Int) (l : List Lf) (ra : Option Addr) (ca : Nat) (bs : List Bool) (rb : Option Addr) (cb : Nat) (w : World) (hc : -9223372036854775808 ≤ cells ∧ cells ≤ 9223372036854775807) (hg : -9223372036854775808 ≤ globals ∧ globals ≤ 9223372036854775807) (hA : LX w ra l) (hB : BX w rb bs) :
    Calls Try.prog 5 #[.int .i64 cells, .int .i64 globals, .slice ra l.length ca, .slice rb bs.length cb] w fun e w' => e = .returned (.bool true) ∧ Below w.heap.size w w' := by
  have HA : Hid (LX w ra l) := hA
  have HBk : Hid (BX w rb bs) := hB
  obtain ⟨n, hn, hq1⟩ := pick_fix cells 300 hc (by omega) (by omega)
  have HP1 : Hid (∀ w : World, Calls Try.prog 15 #[.int .i64 cells, .int .i64 300] w fun e w' => e = .returned (.int .i64 n) ∧ w' = w) := hq1
  obtain ⟨g, hg', hq2⟩ := pick_fix globals 65 hg (by omega) (by omega)
  have HP2 : Hid (∀ w : World, Calls Try.prog 15 #[.int .i64 globals, .int .i64 65] w fun e w' => e = .returned (.int .i64 g) ∧ w' = w) := hq2
  clear hA hB hq1 hq2 hc hg
  go_enter Try.func5, Try.ntmps5
  go_wp2_with fail
  refine Calls.mono (works_any w) ?_
  rintro e w1 ⟨rfl, hb⟩
  have HB1 : Hid (Below w.heap.size w w1) := hb
  clear hb
  go_wp2_with fail
  refine Calls.mono (HP1.out _) ?_
  rintro e w2 ⟨rfl, rfl⟩
  go_wp2_with fail
  refine Calls.mono (HP2.out _) ?_
  rintro e w3 ⟨rfl, rfl⟩
  have HT : Hid (NewT w (w3.alloc (.cells #[.slice none 0 0, .slice none 0 0, .slice none 0 0, .slice none 0 0, .int .i64 0, .int .i64 n] 45)) w3.heap.size n 0) := by
    refine ⟨[], rfl, ⟨by simp, fun t ht => (by cases ht)⟩, fun t ht => (by cases ht), ⟨⟨.slice none 0 0, .slice none 0 0, .slice none 0 0, .slice none 0 0⟩, ?_⟩⟩
    have hb := HB1.out.alloc HB1.out.size (.cells #[.slice none 0 0, .slice none 0 0, .slice none 0 0, .slice none 0 0, .int .i64 0, .int .i64 n] 45)
    exact ⟨heap_alloc_new _ _, World.ownsRow_nil _ _ _ _, World.ownsRow_nil _ _ _ _, World.ownsRow_nil _ _ _ _, World.ownsRow_nil _ _ _ _, fun k hk => (by cases hk), HB1.out.size, hb, (Kt.refl w).keep hb⟩
  clear HB1 HP1 HP2
  go_upto_region 5 with fail
  generalize w3.alloc (.cells #[.slice none 0 0, .slice none 0 0, .slice none 0 0, .slice none 0 0, .int .i64 0, .int .i64 n] 45) = W0 at HT ⊢
  generalize w3.heap.size = b at HT ⊢
  go_upto_block 0 with fail
  refine loopA_ok _ _ HA.out HT.out (fun hcut => ?_)
  rename_i wc
  apply_assumption
  clear HT
  obtain ⟨T0, hT1, hT2, hT3⟩ := hcut.out
  have HTx : Hid (TX w w wc b T0 0 n) := hT3
  have HIv : Hid (Iv n g T0 0 n ⟨0, 0, 0, 0, 5, true⟩ 0 0 0 0 0 0 0) := iv_start hn hg' hT1 hT2
  clear hcut hT1 hT2 hT3
  go_wp2_with fail
  refine Calls.mono (begin_any 0 0 0 0 5 false _ (by decide)) ?_
  rintro e w4 ⟨rfl, hb⟩
  have e1 : begM 0 0 0 0 5 false = (⟨0, 0, 0, 0, 5, true⟩, 0) := by kernel_rfl
  rw [e1]
  dsimp only
  clear e1
  have HLS : Hid (LS w (w4.alloc (.cells #[.int .u8 0, .int .i64 0, .int .i64 0, .int .i64 0, .int .i64 5, .bool true] 27)) b w4.heap.size T0 0 n ⟨0, 0, 0, 0, 5, true⟩) := by
    have h1 := HTx.out.keep (hb.alloc hb.size (.cells #[.int .u8 0, .int .i64 0, .int .i64 0, .int .i64 0, .int .i64 5, .bool true] 27))
    exact ⟨h1.re, heap_alloc_new _ _, Nat.le_trans HTx.out.bel.size hb.size⟩
  clear hb HTx
  go_upto_region 13 with fail
  generalize w4.alloc (.cells #[.int .u8 0, .int .i64 0, .int .i64 0, .int .i64 0, .int .i64 5, .bool true] 27) = W4 at HLS ⊢
  generalize w4.heap.size = sb at HLS ⊢
  go_upto_block 2 with fail
  refine loopB_ok _ _ HIv.out HLS.out HBk.out (fun hF => ?_)
  rename_i wx steps1 last1 checks1 root1 swept1
  apply_assumption
  clear HIv HLS
  obtain ⟨T, gr, lf, hL, hs, h8, h6, hch, hro, hsw⟩ := hF.out
  subst h6 hch hro hsw
  have HL : Hid (LS w wx b sb T gr lf ⟨0, 0, 0, 0, 6, false⟩) := hL
  obtain ⟨v, hx⟩ := hL.tx
  obtain ⟨rl, cl, hvl⟩ := own_sl hx.l
  have f0 : wx.cell? ⟨b, 0, none⟩ = some (.slice rl T.length cl) := (heap_cell (j := 0) hx.bl rfl).trans (congrArg some hvl)
  have lb := hx.lt
  obtain ⟨N, hN⟩ : ∃ N : Int, N = 2 * (swept1 : Int) + root1 + T.length + 3 := ⟨_, rfl⟩
  obtain ⟨S, hS⟩ : ∃ S : Int, S = (steps1 : Int) := ⟨_, rfl⟩
  have HMo : Hid (∀ w : World, Calls Try.prog 12 #[.int .i64 (swept1 : Int), .int .i64 (root1 : Int), .int .i64 (T.length : Int)] w fun e w' => e = .returned (.int .i64 N) ∧ w' = w) := fun w => by
    have h := most_any (swept1 : Int) (root1 : Int) (T.length : Int) w
    have e : mostM (swept1 : Int) (root1 : Int) (T.length : Int) = N := by
      unfold mostM
      rw [if_pos (by omega), hN]
    rw [e] at h
    exact h
  have ksm : decide (S ≤ N) = true := decide_eq_true (by omega)
  have HSz : Hid (Below w.heap.size w wx) := hL.tx.bel
  dsimp only
  rw [show ((6 : Nat) : Int) = 6 from rfl, show ((1 : Nat) : Int) = 1 from rfl, ← hS]
  have c0 := heap_cell (j := 0) hL.cb rfl
  have c1 := heap_cell (j := 1) hL.cb rfl
  have c2 := heap_cell (j := 2) hL.cb rfl
  have c3 := heap_cell (j := 3) hL.cb rfl
  have c4 := heap_cell (j := 4) hL.cb rfl
  have c5 := heap_cell (j := 5) hL.cb rfl
  have lsb := heap_lt hL.cb
  have HCb : Hid (CB wx sb 0 0 0 0 6 false) := hL.cb
  clear hx hvl hN hS hs h8 hL hn hg' hF
  go_wp2_with fail
  refine Calls.mono (HMo.out _) ?_
  rintro e w6 ⟨rfl, rfl⟩
  go_wp2_with fail
  refine Calls.mono (begin_any 0 0 0 0 6 false _ (by decide)) ?_
  rintro e w7 ⟨rfl, hb⟩
  have e1 : begM 0 0 0 0 6 false = (⟨0, 0, 0, 0, 6, true⟩, 0) := by kernel_rfl
  rw [e1]
  dsimp only
  clear e1 c0 c1 c2 c3 c4 c5 lsb f0 lb HL HMo
  have HCn : Hid (CB (w7.alloc (.cells #[.int .u8 0, .int .i64 0, .int .i64 0, .int .i64 0, .int .i64 6, .bool true] 27)) sb 0 0 0 0 6 false) := keepA (keepB hb HCb.out) _
  have HAn : Hid (CB (w7.alloc (.cells #[.int .u8 0, .int .i64 0, .int .i64 0, .int .i64 0, .int .i64 6, .bool true] 27)) w7.heap.size 0 0 0 0 6 true) := heap_alloc_new _ _
  have HBn : Hid (Below w.heap.size w (w7.alloc (.cells #[.int .u8 0, .int .i64 0, .int .i64 0, .int .i64 0, .int .i64 6, .bool true] 27))) := HSz.out.trans ((hb.alloc hb.size _).mono HSz.out.size)
  clear hb HSz HCb
  go_upto_region 77 with fail
  generalize w7.alloc (.cells #[.int .u8 0, .int .i64 0, .int .i64 0, .int .i64 0, .int .i64 6, .bool true] 27) = W8 at HCn HAn HBn ⊢
  generalize w7.heap.size = ag at HAn ⊢
  have c0 := heap_cell (j := 0) HCn.out rfl
  have c1 := heap_cell (j := 1) HCn.out rfl
  have c2 := heap_cell (j := 2) HCn.out rfl
  have c3 := heap_cell (j := 3) HCn.out rfl
  have c4 := heap_cell (j := 4) HCn.out rfl
  have c5 := heap_cell (j := 5) HCn.out rfl
  have a5 := heap_cell (j := 5) HAn.out rfl
  have lsb := heap_lt HCn.out
  have lag := heap_lt HAn.out
  go_wp2
  go_ret
  exact ⟨rfl, HBn.out⟩
end Go.Proofs.Ytnohcmfhhoiihaa
