/- reaches: the calls are the document's. -/
import Derived.Test.YtdcmkifljcdmmaaGreatDoorHHReach0
import Derived.Test.YtdcmkifljcdmmaaGreatDoorHGKnownW
namespace Go.Proofs.YtdcmkifljcdmmaaGreatDoor
open Go.RowKit

set_option maxRecDepth 100000 in
set_option maxHeartbeats 16000000 in
theorem reaches_bad (H : List Cl) (R : List Int) (oa or' ra rb : Option Addr) (oc rc ca cb : Nat) (b : Nat) (c : Nat → Value) (N : Nat → Nat) (V : Nat → Nat → Value) (w : World) (hT : Tab w) (hn : H.length ≤ 1000000) (hr : R.length ≤ 1000000) (hbk : Bk w b c N V Fo) (hN : ∀ k, N k ≤ 1000)
    (hO : HRk (BkF b c N V Fo) w oa H) (hP : WRk (BkF b c N V Fo) w or' R) (hA : HRk (BkF b c N V Fo) w ra H) (hB : WRk (BkF b c N V Fo) w rb R) (hok : heapB H R = false) :
    Calls Tryz.prog 8 #[.slice oa H.length oc, .slice or' R.length rc, .slice ra H.length ca, .slice rb R.length cb, .pointer (some ⟨b, 0, none⟩)] w fun e w' => e = .returned (.bool true) ∧ ReR w w' b c N V := by
  have HO : Hid (HRk (BkF b c N V Fo) w oa H) := hO
  have HP : Hid (WRk (BkF b c N V Fo) w or' R) := hP
  have HA : Hid (HRk (BkF b c N V Fo) w ra H) := hA
  have HB : Hid (WRk (BkF b c N V Fo) w rb R) := hB
  have HT : Hid (Tab w) := hT
  have HK : Hid (heapB H R = false) := hok
  have HN : Hid (∀ k, N k ≤ 1000) := hN
  have H0 : Hid (Bk w b c N V Fo) := hbk
  obtain ⟨c0, i0, hv0, _⟩ := chk_two H
  have HC1 : Hid (Calls Tryz.prog 24 #[.slice oa H.length oc] w fun e w' => e = .returned (.tuple #[.int .i64 c0, .int .i64 i0]) ∧ Below w.heap.size w w') := by
    have := check_any H oa oc w (hO w ⟨Nat.le_refl _, fun _ _ _ => rfl⟩) (by omega) hT
    rwa [hv0] at this
  have HC2 : Hid (∀ w1, Below w.heap.size w w1 → Calls Tryz.prog 26 #[.slice ra H.length ca] w1 fun e w' => e = .returned (.tuple #[.int .i64 c0, .int .i64 i0]) ∧ Below w1.heap.size w1 w') := fun w1 hb => by
    have := refCheck_any H ra ca w1 (by omega) (hA w1 (SmK.of hb))
    rwa [hv0] at this
  have z0 : (c0 != c0) = false := by simp
  have z1 : (i0 != i0) = false := by simp
  clear hO hP hA hB hT hok hbk hN hv0
  go_enter Tryz.func8, Tryz.ntmps8
  go_wp2_with fail
  refine Calls.mono HC1.out ?_
  rintro e w1 ⟨rfl, hb1⟩
  have HB1 : Hid (Below w.heap.size w w1) := hb1
  clear hb1 HC1
  go_wp2_with fail
  refine Calls.mono (HC2.out w1 HB1.out) ?_
  rintro e w2 ⟨rfl, hb2⟩
  have HB2 : Hid (Below w.heap.size w w2) := HB1.out.trans (hb2.mono HB1.out.size)
  clear hb2 HC2 HB1
  have HC3 : Hid (Calls Tryz.prog 21 #[.slice oa H.length oc, .slice or' R.length rc] w2 fun e w' => e = .returned (.tuple #[.slice none 0 0, .int .i64 100]) ∧ Below w2.heap.size w2 w') := by
    refine (reach_any H R oa or' oc rc w2 (HO.out _ (SmK.of HB2.out)) (HP.out _ (SmK.of HB2.out)) (HT.out.below HB2.out) hn hr).mono ?_
    rintro e w' ⟨h1, h2⟩
    rcases h1 with ⟨_, h1⟩ | ⟨h1, _⟩
    · exact ⟨h1, h2⟩
    · rw [HK.out] at h1; cases h1
  go_wp2_with fail
  refine Calls.mono HC3.out ?_
  rintro e w3 ⟨rfl, hb3⟩
  have HB3 : Hid (Below w.heap.size w w3) := HB2.out.trans (hb3.mono HB2.out.size)
  clear hb3 HC3 HB2
  have HC4 : Hid (Calls Tryz.prog 22 #[.slice oa H.length oc, .slice or' R.length rc] w3 fun e w' => e = .returned (.tuple #[.slice none 0 0, .int .i64 100]) ∧ Below w3.heap.size w3 w') := by
    refine (order_any H R oa or' oc rc w3 (HO.out _ (SmK.of HB3.out)) (HP.out _ (SmK.of HB3.out)) (HT.out.below HB3.out) hn hr).mono ?_
    rintro e w' ⟨h1, h2⟩
    rcases h1 with ⟨_, h1⟩ | ⟨h1, _⟩
    · exact ⟨h1, h2⟩
    · rw [HK.out] at h1; cases h1
  go_wp2_with fail
  refine Calls.mono HC4.out ?_
  rintro e w4 ⟨rfl, hb4⟩
  have HB4 : Hid (Below w.heap.size w w4) := HB3.out.trans (hb4.mono HB3.out.size)
  clear hb4 HC4 HB3
  have HC5 : Hid (Calls Tryz.prog 23 #[.slice oa H.length oc, .slice or' R.length rc] w4 fun e w' => e = .returned (.tuple #[.slice none 0 0, .slice none 0 0, .int .i64 100]) ∧ Below w4.heap.size w4 w') := by
    refine (form_any H R oa or' oc rc w4 (HO.out _ (SmK.of HB4.out)) (HP.out _ (SmK.of HB4.out)) (HT.out.below HB4.out) hn hr).mono ?_
    rintro e w' ⟨h1, h2⟩
    rcases h1 with ⟨_, h1⟩ | ⟨h1, _⟩
    · exact ⟨h1, h2⟩
    · rw [HK.out] at h1; cases h1
  go_wp2_with fail
  refine Calls.mono HC5.out ?_
  rintro e w5 ⟨rfl, hb5⟩
  have HB5 : Hid (Below w.heap.size w w5) := HB4.out.trans (hb5.mono HB4.out.size)
  clear hb5 HC5 HB4
  have HS5 : Hid (AS w w5 w5.heap.size b c N V c N V (fun _ => False)) := ⟨H0.out.below HB5.out, fun g hg => .inl hg, HB5.out.mono (Nat.zero_le _), fun g hg _ => HB5.out.block g hg, Nat.le_refl _, fun _ h => h.elim, HB5.out.size⟩
  have HC6 : Hid (∃ xs, w5.ownsRow 0 (KK 16).e (KK 16).sz (.slice none 0 0) 0 xs) := ⟨[], World.ownsRow_nil _ _ _ _⟩
  go_wp2_with fail
  obtain ⟨xs6, hxs6⟩ := HC6.out
  refine Calls.mono (putBools_any b _ _ _ _ 0 _ xs6 w5 HS5.out.bk (HN.out 16) hxs6 (Nat.zero_le _) (fun g hg => by cases hg)) ?_
  rintro e w6 ⟨⟨r6, rfl⟩, v6, hp6⟩
  have HS6 : Hid _ := HS5.out.put hp6 (fun g hg => by cases hg)
  have HKp6 : Hid (KpB w5 w6) := hp6.kp
  clear HC6 hxs6 hp6 HS5
  have HC7 : Hid (∃ xs, w6.ownsRow 0 (KK 2).e (KK 2).sz (.slice none 0 0) 0 xs) := ⟨[], World.ownsRow_nil _ _ _ _⟩
  go_wp2_with fail
  obtain ⟨xs7, hxs7⟩ := HC7.out
  refine Calls.mono (putInts_any b _ _ _ _ 0 _ xs7 w6 HS6.out.bk (by rw [upd_ne _ _ (by decide)]; exact HN.out 2) hxs7 (Nat.zero_le _) (fun g hg => by cases hg)) ?_
  rintro e w7 ⟨⟨r7, rfl⟩, v7, hp7⟩
  have HS7 : Hid _ := HS6.out.put hp7 (fun g hg => by cases hg)
  have HKp7 : Hid (KpB w5 w7) := HKp6.out.trans hp7.kp
  clear HC7 hxs7 hp7 HS6 HKp6
  have HC8 : Hid (∃ xs, w7.ownsRow 0 (KK 6).e (KK 6).sz (.slice none 0 0) 0 xs) := ⟨[], World.ownsRow_nil _ _ _ _⟩
  go_wp2_with fail
  obtain ⟨xs8, hxs8⟩ := HC8.out
  refine Calls.mono (putCells_any b _ _ _ _ 0 _ xs8 w7 HS7.out.bk (by rw [upd_ne _ _ (by decide), upd_ne _ _ (by decide)]; exact HN.out 6) hxs8 (Nat.zero_le _) (fun g hg => by cases hg)) ?_
  rintro e w8 ⟨⟨r8, rfl⟩, v8, hp8⟩
  have HS8 : Hid _ := HS7.out.put hp8 (fun g hg => by cases hg)
  have HKp8 : Hid (KpB w5 w8) := HKp7.out.trans hp8.kp
  clear HC8 hxs8 hp8 HS7 HKp7
  have HC9 : Hid (∃ xs, w8.ownsRow 0 (KK 5).e (KK 5).sz (.slice none 0 0) 0 xs) := ⟨[], World.ownsRow_nil _ _ _ _⟩
  go_wp2_with fail
  obtain ⟨xs9, hxs9⟩ := HC9.out
  refine Calls.mono (putWords_any b _ _ _ _ 0 _ xs9 w8 HS8.out.bk (by rw [upd_ne _ _ (by decide), upd_ne _ _ (by decide), upd_ne _ _ (by decide)]; exact HN.out 5) hxs9 (Nat.zero_le _) (fun g hg => by cases hg)) ?_
  rintro e w9 ⟨⟨r9, rfl⟩, v9, hp9⟩
  have HS9 : Hid _ := HS8.out.put hp9 (fun g hg => by cases hg)
  have HKp9 : Hid (KpB w5 w9) := HKp8.out.trans hp9.kp
  clear HC9 hxs9 hp9 HS8 HKp8
  have HRt : Hid (Calls Tryz.prog 14 #[.slice ra H.length ca, .slice rb R.length cb] w9 fun e w' => e = .returned (.bool false) ∧ Below w9.heap.size w9 w') := by
    have := refRight_any H R ra rb ca cb w9 (by omega) (by omega) (HA.out _ HS9.out.smk) (HB.out _ HS9.out.smk)
    rwa [HK.out] at this
  go_wp2_with fail
  refine Calls.mono HRt.out ?_
  rintro e w10 ⟨rfl, hb10⟩
  have HE : Hid (ReR w w10 b c N V) := (HS9.out.below hb10).rer (four_upd N)
  clear HRt hb10 HS9 HKp9
  go_wp2
  go_ret
  exact ⟨rfl, HE.out⟩
set_option maxRecDepth 100000 in
set_option maxHeartbeats 16000000 in
theorem reaches_good (H : List Cl) (R : List Int) (oa or' ra rb : Option Addr) (oc rc ca cb : Nat) (b : Nat) (c : Nat → Value) (N : Nat → Nat) (V : Nat → Nat → Value) (w : World) (hT : Tab w) (hn : H.length ≤ 1000000) (hr : R.length ≤ 1000000) (hbk : Bk w b c N V Fo) (hN : ∀ k, N k ≤ 1000)
    (hO : HRk (BkF b c N V Fo) w oa H) (hP : WRk (BkF b c N V Fo) w or' R) (hA : HRk (BkF b c N V Fo) w ra H) (hB : WRk (BkF b c N V Fo) w rb R) (hok : heapB H R = true) :
    Calls Tryz.prog 8 #[.slice oa H.length oc, .slice or' R.length rc, .slice ra H.length ca, .slice rb R.length cb, .pointer (some ⟨b, 0, none⟩)] w fun e w' => e = .returned (.bool true) ∧ ReR w w' b c N V := by
  have HO : Hid (HRk (BkF b c N V Fo) w oa H) := hO
  have HP : Hid (WRk (BkF b c N V Fo) w or' R) := hP
  have HA : Hid (HRk (BkF b c N V Fo) w ra H) := hA
  have HB : Hid (WRk (BkF b c N V Fo) w rb R) := hB
  have HT : Hid (Tab w) := hT
  have HK : Hid (heapB H R = true) := hok
  have HN : Hid (∀ k, N k ≤ 1000) := hN
  have H0 : Hid (Bk w b c N V Fo) := hbk
  obtain ⟨c0, i0, hv0, _⟩ := chk_two H
  have HC1 : Hid (Calls Tryz.prog 24 #[.slice oa H.length oc] w fun e w' => e = .returned (.tuple #[.int .i64 c0, .int .i64 i0]) ∧ Below w.heap.size w w') := by
    have := check_any H oa oc w (hO w ⟨Nat.le_refl _, fun _ _ _ => rfl⟩) (by omega) hT
    rwa [hv0] at this
  have HC2 : Hid (∀ w1, Below w.heap.size w w1 → Calls Tryz.prog 26 #[.slice ra H.length ca] w1 fun e w' => e = .returned (.tuple #[.int .i64 c0, .int .i64 i0]) ∧ Below w1.heap.size w1 w') := fun w1 hb => by
    have := refCheck_any H ra ca w1 (by omega) (hA w1 (SmK.of hb))
    rwa [hv0] at this
  have z0 : (c0 != c0) = false := by simp
  have z1 : (i0 != i0) = false := by simp
  clear hO hP hA hB hT hok hbk hN hv0
  go_enter Tryz.func8, Tryz.ntmps8
  go_wp2_with fail
  refine Calls.mono HC1.out ?_
  rintro e w1 ⟨rfl, hb1⟩
  have HB1 : Hid (Below w.heap.size w w1) := hb1
  clear hb1 HC1
  go_wp2_with fail
  refine Calls.mono (HC2.out w1 HB1.out) ?_
  rintro e w2 ⟨rfl, hb2⟩
  have HB2 : Hid (Below w.heap.size w w2) := HB1.out.trans (hb2.mono HB1.out.size)
  clear hb2 HC2 HB1
  obtain ⟨lw, hlw⟩ : ∃ lw, lw = (walkM H false R).length := ⟨_, rfl⟩
  have HLw : Hid (lw = (walkM H false R).length) := hlw
  have hwl : lw ≤ H.length := by rw [hlw]; exact (walk_ok false HK.out).len
  have HC3 : Hid (Calls Tryz.prog 21 #[.slice oa H.length oc, .slice or' R.length rc] w2 fun e w' => (∃ g, w2.heap.size ≤ g ∧ e = .returned (.tuple #[.slice (some ⟨g, 0, none⟩) H.length H.length, .int .i64 0]) ∧ DR w' 4 g H.length (fun k u => u = .bool (metB (walkM H false R) k))) ∧ Below w2.heap.size w2 w') := by
    refine (reach_any H R oa or' oc rc w2 (HO.out _ (SmK.of HB2.out)) (HP.out _ (SmK.of HB2.out)) (HT.out.below HB2.out) hn hr).mono ?_
    rintro e w' ⟨h1, h2⟩
    rcases h1 with ⟨h1, _⟩ | ⟨_, h1⟩
    · rw [HK.out] at h1; cases h1
    · exact ⟨h1, h2⟩
  clear hlw
  go_wp2_with fail
  refine Calls.mono HC3.out ?_
  rintro e w3 ⟨⟨gB, hgB, rfl, hdB⟩, hb3⟩
  have HB3 : Hid (Below w.heap.size w w3) := HB2.out.trans (hb3.mono HB2.out.size)
  have HDB3 : Hid (DR w3 4 gB H.length (fun k u => u = .bool (metB (walkM H false R) k))) := hdB
  have HGB : Hid (w.heap.size ≤ gB ∧ gB < w3.heap.size) := ⟨Nat.le_trans HB2.out.size hgB, hdB.lt⟩
  clear hb3 HC3 HB2 hdB hgB
  have HC4 : Hid (Calls Tryz.prog 22 #[.slice oa H.length oc, .slice or' R.length rc] w3 fun e w' => (∃ rv cv, e = .returned (.tuple #[.slice rv lw cv, .int .i64 0]) ∧ w'.ownsRow w3.heap.size 3 1 (.slice rv lw cv) lw ((walkM H false R).map (fun p => .int .i64 p.1))) ∧ Below w3.heap.size w3 w') := by
    refine (order_any H R oa or' oc rc w3 (HO.out _ (SmK.of HB3.out)) (HP.out _ (SmK.of HB3.out)) (HT.out.below HB3.out) hn hr).mono ?_
    rintro e w' ⟨h1, h2⟩
    rcases h1 with ⟨h1, _⟩ | ⟨_, h1⟩
    · rw [HK.out] at h1; cases h1
    · rw [HLw.out]; exact ⟨h1, h2⟩
  go_wp2_with fail
  refine Calls.mono HC4.out ?_
  rintro e w4 ⟨⟨rI, cI, rfl, hdI⟩, hb4⟩
  have HB4 : Hid (Below w.heap.size w w4) := HB3.out.trans (hb4.mono HB3.out.size)
  have HDB4 : Hid (DR w4 4 gB H.length (fun k u => u = .bool (metB (walkM H false R) k))) := HDB3.out.kept (hb4.block _ HGB.out.2)
  have HDI4 : Hid (w4.ownsRow w3.heap.size 3 1 (.slice rI lw cI) lw ((walkM H false R).map (fun p => .int .i64 p.1))) := hdI
  have HGI : Hid (∀ g, (Value.slice rI lw cI).ownBlock = some g → w3.heap.size ≤ g ∧ g < w4.heap.size) := fun g hg => hdI.lt g hg
  have HS34 : Hid (w.heap.size ≤ w3.heap.size ∧ w3.heap.size ≤ w4.heap.size) := ⟨HB3.out.size, hb4.size⟩
  clear hb4 HC4 HB3 hdI HDB3
  have HC5 : Hid (Calls Tryz.prog 23 #[.slice oa H.length oc, .slice or' R.length rc] w4 fun e w' => (∃ g1 g2, (w4.heap.size ≤ g1 ∧ g1 < g2) ∧ e = .returned (.tuple #[.slice (some ⟨g1, 0, none⟩) lw lw, .slice (some ⟨g2, 0, none⟩) R.length R.length, .int .i64 0])
      ∧ DR w' 55 g1 (lw * 4) (fun k u => (clCells (formH H (walkM H false R)))[k]? = some u) ∧ DR w' 53 g2 R.length (fun k u => ∀ x, R[k]? = some x → u = .int .u64 (movedM ((walkM H false R).map (·.1)) x))) ∧ Below w4.heap.size w4 w') := by
    refine (form_any H R oa or' oc rc w4 (HO.out _ (SmK.of HB4.out)) (HP.out _ (SmK.of HB4.out)) (HT.out.below HB4.out) hn hr).mono ?_
    rintro e w' ⟨h1, h2⟩
    rcases h1 with ⟨h1, _⟩ | ⟨_, h1⟩
    · rw [HK.out] at h1; cases h1
    · rw [HLw.out]; exact ⟨h1, h2⟩
  go_wp2_with fail
  refine Calls.mono HC5.out ?_
  rintro e w5 ⟨⟨g1, g2, ⟨hg1, hg2⟩, rfl, hdC, hdW⟩, hb5⟩
  have HB5 : Hid (Below w.heap.size w w5) := HB4.out.trans (hb5.mono HB4.out.size)
  have HDB : Hid (DR w5 4 gB H.length (fun k u => u = .bool (metB (walkM H false R) k))) := HDB4.out.kept (hb5.block _ HDB4.out.lt)
  have HDI : Hid (w5.ownsRow w3.heap.size 3 1 (.slice rI lw cI) lw ((walkM H false R).map (fun p => .int .i64 p.1))) := own_same HDI4.out (fun g hg => hb5.block _ (HDI4.out.lt g hg).2)
  have HDC : Hid (DR w5 55 g1 (lw * 4) (fun k u => (clCells (formH H (walkM H false R)))[k]? = some u)) := hdC
  have HDW : Hid (DR w5 53 g2 R.length (fun k u => ∀ x, R[k]? = some x → u = .int .u64 (movedM ((walkM H false R).map (·.1)) x))) := hdW
  have HFBools : Hid (∀ g, (Value.slice (some ⟨gB, 0, none⟩) H.length H.length).ownBlock = some g → w.heap.size ≤ g ∧ g < w5.heap.size ∧ ¬ False) := fun g hg => by
    have e : gB = g := by simpa [Value.ownBlock] using hg
    have := HGB.out; have := hb5.size; have := HS34.out
    exact ⟨by omega, by omega, fun h => h⟩
  have HFInts : Hid (∀ g, (Value.slice rI lw cI).ownBlock = some g → w.heap.size ≤ g ∧ g < w5.heap.size ∧ ¬ (False ∨ (Value.slice (some ⟨gB, 0, none⟩) H.length H.length).ownBlock = some g)) := fun g hg => by
    have := HGI.out g hg; have := hb5.size; have := HS34.out; have := HGB.out
    refine ⟨by omega, by omega, ?_⟩
    rintro (h | h)
    · exact h
    · have e : gB = g := by simpa [Value.ownBlock] using h
      omega
  have HFCells : Hid (∀ g, (Value.slice (some ⟨g1, 0, none⟩) lw lw).ownBlock = some g → w.heap.size ≤ g ∧ g < w5.heap.size ∧ ¬ ((False ∨ (Value.slice (some ⟨gB, 0, none⟩) H.length H.length).ownBlock = some g) ∨ (Value.slice rI lw cI).ownBlock = some g)) := fun g hg => by
    have e : g1 = g := by simpa [Value.ownBlock] using hg
    have := hb5.size; have := HS34.out; have := HGB.out; have := hdC.lt
    refine ⟨by omega, by omega, ?_⟩
    rintro ((h | h) | h)
    · exact h
    · have e : gB = g := by simpa [Value.ownBlock] using h
      omega
    · have := HGI.out g h; omega
  have HFWords : Hid (∀ g, (Value.slice (some ⟨g2, 0, none⟩) R.length R.length).ownBlock = some g → w.heap.size ≤ g ∧ g < w5.heap.size ∧ ¬ (((False ∨ (Value.slice (some ⟨gB, 0, none⟩) H.length H.length).ownBlock = some g) ∨ (Value.slice rI lw cI).ownBlock = some g) ∨ (Value.slice (some ⟨g1, 0, none⟩) lw lw).ownBlock = some g)) := fun g hg => by
    have e : g2 = g := by simpa [Value.ownBlock] using hg
    have := hb5.size; have := HS34.out; have := HGB.out; have := hdW.lt
    refine ⟨by omega, by omega, ?_⟩
    rintro (((h | h) | h) | h)
    · exact h
    · have e : gB = g := by simpa [Value.ownBlock] using h
      omega
    · have := HGI.out g h; omega
    · have e : g1 = g := by simpa [Value.ownBlock] using h
      omega
  have HS5 : Hid (AS w w5 w5.heap.size b c N V c N V (fun _ => False)) := ⟨H0.out.below HB5.out, fun g hg => .inl hg, HB5.out.mono (Nat.zero_le _), fun g hg _ => HB5.out.block g hg, Nat.le_refl _, fun _ h => h.elim, HB5.out.size⟩
  clear hb5 HC5 HB4 hdC hdW HDB4 HDI4 hg1 hg2 HGB HGI HS34
  have HC6 : Hid (∃ xs, w5.ownsRow 0 (KK 16).e (KK 16).sz (.slice (some ⟨gB, 0, none⟩) H.length H.length) H.length xs) := dr_owns (sz := 1) (by rw [Nat.mul_one]; exact HDB.out) (by unfold maxLen; omega)
  go_wp2_with fail
  obtain ⟨xs6, hxs6⟩ := HC6.out
  refine Calls.mono (putBools_any b _ _ _ _ H.length _ xs6 w5 HS5.out.bk (HN.out 16) hxs6 (by omega) (HS5.out.far H0.out HFBools.out)) ?_
  rintro e w6 ⟨⟨r6, rfl⟩, v6, hp6⟩
  have HS6 : Hid _ := HS5.out.put hp6 (fun g hg => (HFBools.out g hg).1)
  have HKp6 : Hid (KpB w5 w6) := hp6.kp
  clear HC6 hxs6 hp6 HS5
  have HC7 : Hid (∃ xs, w6.ownsRow 0 (KK 2).e (KK 2).sz (.slice rI lw cI) lw xs) := ⟨_, own_low (own_kpb (e := 3) HDI.out HKp6.out (not_rw (by simp)))⟩
  go_wp2_with fail
  obtain ⟨xs7, hxs7⟩ := HC7.out
  refine Calls.mono (putInts_any b _ _ _ _ lw _ xs7 w6 HS6.out.bk (by rw [upd_ne _ _ (by decide)]; exact HN.out 2) hxs7 (by omega) (HS6.out.far H0.out HFInts.out)) ?_
  rintro e w7 ⟨⟨r7, rfl⟩, v7, hp7⟩
  have HS7 : Hid _ := HS6.out.put hp7 (fun g hg => (HFInts.out g hg).1)
  have HKp7 : Hid (KpB w5 w7) := HKp6.out.trans hp7.kp
  clear HC7 hxs7 hp7 HS6 HKp6
  have HC8 : Hid (∃ xs, w7.ownsRow 0 (KK 6).e (KK 6).sz (.slice (some ⟨g1, 0, none⟩) lw lw) lw xs) := dr_owns (sz := 4) (HDC.out.kpb HKp7.out (not_rw (by simp))) (by unfold maxLen; omega)
  go_wp2_with fail
  obtain ⟨xs8, hxs8⟩ := HC8.out
  refine Calls.mono (putCells_any b _ _ _ _ lw _ xs8 w7 HS7.out.bk (by rw [upd_ne _ _ (by decide), upd_ne _ _ (by decide)]; exact HN.out 6) hxs8 (by omega) (HS7.out.far H0.out HFCells.out)) ?_
  rintro e w8 ⟨⟨r8, rfl⟩, v8, hp8⟩
  have HS8 : Hid _ := HS7.out.put hp8 (fun g hg => (HFCells.out g hg).1)
  have HKp8 : Hid (KpB w5 w8) := HKp7.out.trans hp8.kp
  clear HC8 hxs8 hp8 HS7 HKp7
  have HC9 : Hid (∃ xs, w8.ownsRow 0 (KK 5).e (KK 5).sz (.slice (some ⟨g2, 0, none⟩) R.length R.length) R.length xs) := dr_owns (sz := 1) (by rw [Nat.mul_one]; exact HDW.out.kpb HKp8.out (not_rw (by simp))) (by unfold maxLen; omega)
  go_wp2_with fail
  obtain ⟨xs9, hxs9⟩ := HC9.out
  refine Calls.mono (putWords_any b _ _ _ _ R.length _ xs9 w8 HS8.out.bk (by rw [upd_ne _ _ (by decide), upd_ne _ _ (by decide), upd_ne _ _ (by decide)]; exact HN.out 5) hxs9 (by omega) (HS8.out.far H0.out HFWords.out)) ?_
  rintro e w9 ⟨⟨r9, rfl⟩, v9, hp9⟩
  have HS9 : Hid _ := HS8.out.put hp9 (fun g hg => (HFWords.out g hg).1)
  have HKp9 : Hid (KpB w5 w9) := HKp8.out.trans hp9.kp
  clear HC9 hxs9 hp9 HS8 HKp8
  have HRt : Hid (Calls Tryz.prog 14 #[.slice ra H.length ca, .slice rb R.length cb] w9 fun e w' => e = .returned (.bool true) ∧ Below w9.heap.size w9 w') := by
    have := refRight_any H R ra rb ca cb w9 (by omega) (by omega) (HA.out _ HS9.out.smk) (HB.out _ HS9.out.smk)
    rwa [HK.out] at this
  have HR9 : Hid (RX Value.bool w9 (some ⟨gB, 0, none⟩) ((List.range H.length).map (metB (walkM H false R))) ∧ RX (Value.int .i64) w9 rI ((walkM H false R).map (fun p => (p.1 : Int))) ∧ HX w9 (some ⟨g1, 0, none⟩) (formH H (walkM H false R)) ∧ RX (Value.int .u64) w9 (some ⟨g2, 0, none⟩) (R.map (movedM ((walkM H false R).map (·.1))))) := by
    refine ⟨drr_rx (enc := Value.bool) (HDB.out.kpb HKp9.out (not_rw (by simp))), ?_, ?_, dr_mx (HDW.out.kpb HKp9.out (not_rw (by simp)))⟩
    · have h1 := own_kpb HDI.out HKp9.out (not_rw (by simp))
      have e1 : (walkM H false R).map (fun p => Value.int .i64 p.1) = ((walkM H false R).map (fun p => (p.1 : Int))).map (Value.int .i64) := by rw [List.map_map]; rfl
      rw [e1] at h1
      exact owni_rx h1 (by rw [HLw.out]; simp)
    · refine dr_hx ?_
      have e2 : (formH H (walkM H false R)).length = lw := by rw [HLw.out]; simp [formH]
      rw [e2]
      exact HDC.out.kpb HKp9.out (not_rw (by simp))
  clear HDB HDI HDC HDW HFBools HFInts HFCells HFWords HKp9 HB5
  go_wp2_with fail
  refine Calls.mono HRt.out ?_
  rintro e w10 ⟨rfl, hb10⟩
  have HS10 : Hid _ := HS9.out.below hb10
  have HR10 : Hid _ := HR9.out
  have HB10 : Hid (Below w9.heap.size w9 w10) := hb10
  clear HRt hb10 HS9
  have HOk : Hid (OkH H ∧ ∀ x ∈ R, fitsW H.length x = true ∧ Rng x) := ⟨okH_of HK.out (HA.out _ HS10.out.smk).ok, fun x hx => ⟨(heap_ok HK.out).2 x hx, (HB.out _ HS10.out.smk).ok x hx⟩⟩
  have HOr : Hid (orderM H R = (walkM H false R).map (·.1)) := order_walk HK.out
  have HFo : Hid (Calls Tryz.prog 30 #[.slice ra H.length ca, .slice rb R.length cb] w10 fun e w' => (∃ r1 c1 r2 c2, e = .returned (.tuple #[.slice r1 lw c1, .slice r2 R.length c2]) ∧ HX w' r1 (formH H (walkM H false R)) ∧ RX (Value.int .u64) w' r2 (R.map (movedM ((walkM H false R).map (·.1))))) ∧ Below w10.heap.size w10 w') := by
    refine (dForm_any H R ra rb ca cb w10 hn hr (HA.out _ HS10.out.smk) (HB.out _ HS10.out.smk) HOk.out.1 HOk.out.2).mono ?_
    rintro e w' ⟨⟨r1, c1, r2, c2, he, h1, h2⟩, hb⟩
    rw [HOr.out] at he h1 h2
    refine ⟨⟨r1, c1, r2, c2, ?_, ?_, h2⟩, hb⟩
    · rw [he, HLw.out, List.length_map]
    · have e3 : dFormH H ((walkM H false R).map (·.1)) = formH H (walkM H false R) := by unfold dFormH formH; rw [List.map_map]; rfl
      rwa [e3] at h1
  go_wp2_with fail
  refine Calls.mono HFo.out ?_
  rintro e w11 ⟨⟨rU, cU, rV, cV', rfl, hU, hV⟩, hb11⟩
  have HB11 : Hid (Below w9.heap.size w9 w11) := HB10.out.trans (hb11.mono HB10.out.size)
  have HS11 : Hid _ := HS10.out.below hb11
  have HUV : Hid (HX w11 rU (formH H (walkM H false R)) ∧ RX (Value.int .u64) w11 rV (R.map (movedM ((walkM H false R).map (·.1))))) := ⟨hU, hV⟩
  clear HFo hb11 HS10 hU hV HB10 HR10
  have HRe : Hid (Calls Tryz.prog 31 #[.slice ra H.length ca, .slice rb R.length cb] w11 fun e w' => (∃ g, e = .returned (.slice (some ⟨g, 0, none⟩) H.length H.length) ∧ RX Value.bool w' (some ⟨g, 0, none⟩) ((List.range H.length).map (metB (walkM H false R)))) ∧ Below w11.heap.size w11 w') := by
    refine (dReach_any H R ra rb ca cb w11 hn hr (HA.out _ HS11.out.smk) (HB.out _ HS11.out.smk) HOk.out.1 HOk.out.2).mono ?_
    rintro e w' ⟨⟨g, he, hd⟩, hb⟩
    refine ⟨⟨g, he, drr_rx (enc := Value.bool) (hd.mono (fun k u _ hu => ?_))⟩, hb⟩
    rw [hu, HOr.out, met_cs]; rfl
  go_wp2_with fail
  refine Calls.mono HRe.out ?_
  rintro e w12 ⟨⟨gR, rfl, hR⟩, hb12⟩
  have HB12 : Hid (Below w9.heap.size w9 w12) := HB11.out.trans (hb12.mono HB11.out.size)
  have HS12 : Hid _ := HS11.out.below hb12
  have HUV12 : Hid (HX w12 rU (formH H (walkM H false R)) ∧ RX (Value.int .u64) w12 rV (R.map (movedM ((walkM H false R).map (·.1))))) := ⟨HUV.out.1.below hb12, HUV.out.2.below hb12⟩
  have HSB : Hid (Calls Tryz.prog 25 #[.slice (some ⟨gB, 0, none⟩) H.length H.length, .slice (some ⟨gR, 0, none⟩) H.length H.length] w12 fun e w' => e = .returned (.bool true) ∧ Below w12.heap.size w12 w') := by
    have := sameB_any ((List.range H.length).map (metB (walkM H false R))) ((List.range H.length).map (metB (walkM H false R))) (some ⟨gB, 0, none⟩) (some ⟨gR, 0, none⟩) H.length H.length w12 (by simp; unfold maxLen; omega) (by simp; unfold maxLen; omega) (HR9.out.1.below HB12.out) hR
    rwa [decide_eq_true rfl, List.length_map, List.length_range] at this
  clear HRe hb12 HS11 hR HB11 HUV
  go_wp2_with fail
  refine Calls.mono HSB.out ?_
  rintro e w13 ⟨rfl, hb13⟩
  have HB13 : Hid (Below w9.heap.size w9 w13) := HB12.out.trans (hb13.mono HB12.out.size)
  have HS13 : Hid _ := HS12.out.below hb13
  have HUV13 : Hid (HX w13 rU (formH H (walkM H false R)) ∧ RX (Value.int .u64) w13 rV (R.map (movedM ((walkM H false R).map (·.1))))) := ⟨HUV12.out.1.below hb13, HUV12.out.2.below hb13⟩
  clear hb13 HS12 HSB HB12 HUV12
  have HOd : Hid (Calls Tryz.prog 32 #[.slice ra H.length ca, .slice rb R.length cb] w13 fun e w' => (∃ r q, e = .returned (.slice r lw q) ∧ RX (Value.int .i64) w' r ((walkM H false R).map (fun p => (p.1 : Int)))) ∧ Below w13.heap.size w13 w') := by
    refine (dOrder_any H R ra rb ca cb w13 hn hr (HA.out _ HS13.out.smk) (HB.out _ HS13.out.smk) HOk.out.1 HOk.out.2).mono ?_
    rintro e w' ⟨⟨r, q, he, ho⟩, hb⟩
    rw [HOr.out] at he ho
    rw [List.length_map, ← HLw.out] at he ho
    refine ⟨⟨r, q, he, ?_⟩, hb⟩
    have e1 : ((walkM H false R).map (·.1)).map (fun (k : Nat) => Value.int .i64 (k : Int)) = ((walkM H false R).map (fun p => (p.1 : Int))).map (Value.int .i64) := by rw [List.map_map, List.map_map]; rfl
    rw [e1] at ho
    exact owni_rx ho (by rw [HLw.out]; simp)
  go_wp2_with fail
  refine Calls.mono HOd.out ?_
  rintro e w14 ⟨⟨rO, qO, rfl, hR⟩, hb14⟩
  have HB14 : Hid (Below w9.heap.size w9 w14) := HB13.out.trans (hb14.mono HB13.out.size)
  have HS14 : Hid _ := HS13.out.below hb14
  have HUV14 : Hid (HX w14 rU (formH H (walkM H false R)) ∧ RX (Value.int .u64) w14 rV (R.map (movedM ((walkM H false R).map (·.1))))) := ⟨HUV13.out.1.below hb14, HUV13.out.2.below hb14⟩
  have HSI : Hid (Calls Tryz.prog 18 #[.slice rI lw cI, .slice rO lw qO] w14 fun e w' => e = .returned (.bool true) ∧ Below w14.heap.size w14 w') := by
    have := sameI_any ((walkM H false R).map (fun p => (p.1 : Int))) ((walkM H false R).map (fun p => (p.1 : Int))) rI rO cI qO w14 (by rw [List.length_map, ← HLw.out]; unfold maxLen; omega) (by rw [List.length_map, ← HLw.out]; unfold maxLen; omega) (HR9.out.2.1.below HB14.out) hR
    rwa [decide_eq_true rfl, List.length_map, ← HLw.out] at this
  clear HOd hb14 HS13 hR HB13 HUV13
  go_wp2_with fail
  refine Calls.mono HSI.out ?_
  rintro e w15 ⟨rfl, hb15⟩
  have HB15 : Hid (Below w9.heap.size w9 w15) := HB14.out.trans (hb15.mono HB14.out.size)
  have HS15 : Hid _ := HS14.out.below hb15
  have HSC : Hid (Calls Tryz.prog 33 #[.slice (some ⟨g1, 0, none⟩) lw lw, .slice rU lw cU] w15 fun e w' => e = .returned (.bool true) ∧ Below w15.heap.size w15 w') := by
    have e2 : (formH H (walkM H false R)).length = lw := by rw [HLw.out]; simp [formH]
    have := sameK_any (formH H (walkM H false R)) (formH H (walkM H false R)) (some ⟨g1, 0, none⟩) rU lw cU w15 (by rw [e2]; unfold maxLen; omega) (by rw [e2]; unfold maxLen; omega) (HR9.out.2.2.1.below HB15.out) (HUV14.out.1.below hb15)
    rwa [decide_eq_true rfl, e2] at this
  have HSW : Hid (RX (Value.int .u64) w15 rV (R.map (movedM ((walkM H false R).map (·.1))))) := HUV14.out.2.below hb15
  clear hb15 HS14 HSI HB14 HUV14
  go_wp2_with fail
  refine Calls.mono HSC.out ?_
  rintro e w16 ⟨rfl, hb16⟩
  have HS16 : Hid _ := HS15.out.below hb16
  have HSX : Hid (Calls Tryz.prog 34 #[.slice (some ⟨g2, 0, none⟩) R.length R.length, .slice rV R.length cV'] w16 fun e w' => e = .returned (.bool true) ∧ Below w16.heap.size w16 w') := by
    have := sameW_any (R.map (movedM ((walkM H false R).map (·.1)))) (R.map (movedM ((walkM H false R).map (·.1)))) (some ⟨g2, 0, none⟩) rV R.length cV' w16 (by simp; unfold maxLen; omega) (by simp; unfold maxLen; omega) (HR9.out.2.2.2.below (HB15.out.trans (hb16.mono HB15.out.size))) (HSW.out.below hb16)
    rwa [decide_eq_true rfl, List.length_map] at this
  clear hb16 HS15 HSC HB15 HSW HR9
  go_wp2_with fail
  refine Calls.mono HSX.out ?_
  rintro e w17 ⟨rfl, hb17⟩
  have HE : Hid (ReR w w17 b c N V) := (HS16.out.below hb17).rer (four_upd N)
  clear hb17 HS16 HSX
  go_wp2
  go_ret
  exact ⟨rfl, HE.out⟩
theorem reaches_any (H : List Cl) (R : List Int) (oa or' ra rb : Option Addr) (oc rc ca cb : Nat) (b : Nat) (c : Nat → Value) (N : Nat → Nat) (V : Nat → Nat → Value) (w : World) (hT : Tab w) (hn : H.length ≤ 1000000) (hr : R.length ≤ 1000000) (hbk : Bk w b c N V Fo) (hN : ∀ k, N k ≤ 1000)
    (hO : HRk (BkF b c N V Fo) w oa H) (hP : WRk (BkF b c N V Fo) w or' R) (hA : HRk (BkF b c N V Fo) w ra H) (hB : WRk (BkF b c N V Fo) w rb R) :
    Calls Tryz.prog 8 #[.slice oa H.length oc, .slice or' R.length rc, .slice ra H.length ca, .slice rb R.length cb, .pointer (some ⟨b, 0, none⟩)] w fun e w' => e = .returned (.bool true) ∧ ReR w w' b c N V := by
  cases hok : heapB H R
  · exact reaches_bad H R oa or' ra rb oc rc ca cb b c N V w hT hn hr hbk hN hO hP hA hB hok
  · exact reaches_good H R oa or' ra rb oc rc ca cb b c N V w hT hn hr hbk hN hO hP hA hB hok
end Go.Proofs.YtdcmkifljcdmmaaGreatDoor
