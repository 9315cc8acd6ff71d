/- AllocKeeps. -/
import Derived.Test.YtaenoenchbfeiaaHAPick
namespace Go.Proofs.Ytaenoenchbfeiaa
open Go.RowKit

set_option maxRecDepth 100000 in
set_option maxHeartbeats 8000000 in
theorem allocKeeps_walk (s : Int) (ops : List (Int × Int × Int)) (ra : Option Addr) (ca : Nat) (w : World) (hs : -9223372036854775808 ≤ s ∧ s ≤ 9223372036854775807) (hl : ops.length ≤ 281474976710656) (hO : OX w ra ops) (h64 : O64 ops) :
    Calls Try.prog 5 #[.int .i64 s, .slice ra ops.length ca] w fun e w' => e = .returned (.bool true) ∧ Below w.heap.size w w' := by
  obtain ⟨p, hp, hpk⟩ := pick_fix s 12 hs (by omega) (by omega)
  have HP : Hid (∀ w : World, Calls Try.prog 12 #[.int .i64 s, .int .i64 12] w fun e w' => e = .returned (.int .i64 p) ∧ w' = w) := hpk
  have HO : Hid (OX w ra ops) := hO
  have H64 : Hid (O64 ops) := h64
  have HW : Hid _ := works_any w
  clear hpk hO h64 hs
  by_cases hbig : ops.length ≤ 3000
  · have kbg : ¬ (ops.length : Int) > 3000 := by omega
    go_enter Try.func5, Try.ntmps5
    go_wp2_with fail
    refine Calls.mono HW.out ?_
    rintro e w1 ⟨rfl, hb⟩
    have HB1 : Hid (Below w.heap.size w w1) := hb
    clear hb HW
    go_wp2_with fail
    refine Calls.mono (HP.out w1) ?_
    rintro e w2 ⟨rfl, hw2⟩
    rw [hw2]
    clear hw2 HP
    have HN : Hid _ := new_any (4 + p) w1 (by omega) (by omega)
    obtain ⟨n, hn⟩ : ∃ n : Nat, n = 4 + p := ⟨_, rfl⟩
    rw [← hn] at HN
    have HNi : Hid ((4 : Int) + (p : Int) = (n : Int)) := by show _ = _; omega
    have n15 : n ≤ 15 := by omega
    have n4 : 4 ≤ n := by omega
    have HHn : Hid (n = 4 + p) := hn
    have kp : (p : Int) < 12 := by omega
    clear hn
    go_wp2_with fail
    rw [HNi.out]
    refine Calls.mono HN.out ?_
    rintro e w3 ⟨a, ga, gm, gf, cf, rfl, hal, hb3, hft⟩
    have HS : Hid (AL w3 a ga gm gf cf (.slice none 0 0) 0 (al0 n) ∧ Below w1.heap.size w1 w3 ∧ ∀ g, Ft a ga gm gf (.slice none 0 0) g → w1.heap.size ≤ g) := ⟨hal, hb3, hft⟩
    clear hal hb3 hft HN
    obtain ⟨i0, hi0, hz0, hz1, hz2⟩ := info_parts infoB
    go_wp2_with (at_make; refine stop_of ?_)
    unfold Hid
    refine wpList_make_full _ rfl _ _ 58 rfl w3.heap.size 4 i0 (.bool false) 1 Try.underlying58 hi0 hz0 hz1 .i64 .i64 _ _ n rfl rfl rfl rfl (by rw [hz2]; omega) (by unfold maxLen; omega) (Nat.le_refl _) ?_
    intro w4 hown hgr
    have hd4 := dr_made hown (made_bool _)
    have hb4 : Below w3.heap.size w3 w4 := grown_low hgr (fun g hg => by cases hg) (Nat.le_refl _)
    have l4 := hd4.lt
    clear hi0 hz0 hz1 hz2 hown hgr
    go_upto_region 9 with fail
    obtain ⟨W5, hW5⟩ : ∃ W5, W5 = w4.alloc (.cells #[.slice (some ⟨w3.heap.size, 0, none⟩) n n, .int .i64 0, .int .i64 0, .int .i64 0, .int .i64 0, .int .i64 0, .int .i64 0, .int .i64 0, .int .i64 0, .int .i64 0, .slice none 0 0] 62) := ⟨_, rfl⟩
    have HB5 : Hid (Below w4.heap.size w4 W5) := by rw [hW5]; exact (Below.refl _ w4).alloc (Nat.le_refl _) _
    have HD5 : Hid (DR W5 62 w4.heap.size 11 (KF w3.heap.size n 0)) := by
      rw [hW5]
      refine ⟨_, heap_alloc_new _ _, rfl, fun k u hk => ⟨fun e => ?_, fun t ht _ => (by omega), fun e => ?_⟩⟩
      · subst e; exact (Option.some.inj hk).symm
      · subst e; exact (Option.some.inj hk).symm
    have HD4 : Hid (DR w4 4 w3.heap.size n (fun _ u => u = .bool false)) := hd4
    have HB4 : Hid (Below w3.heap.size w3 w4) := hb4
    rw [← hW5]
    clear hW5 hd4 hb4
    obtain ⟨kb, hkb⟩ : ∃ kb, kb = w4.heap.size := ⟨_, rfl⟩
    obtain ⟨gw, hgw⟩ : ∃ gw, gw = w3.heap.size := ⟨_, rfl⟩
    rw [← hkb] at HD5 HB5 l4 ⊢
    rw [← hgw] at HD5 HD4 HB4 l4 ⊢
    have HKb : Hid (kb = w4.heap.size) := hkb
    have HGw : Hid (gw = w3.heap.size) := hgw
    clear hkb hgw
    go_wp2
    go_loopw [10] (fun i wr => ∃ j : Nat, i = .int .i64 j ∧ j ≤ 9 ∧ Hid (DR wr 62 kb 11 (KF gw n j)) ∧ Hid (Below kb w4 wr)) (fun i _ => 9 - (intOf i).toNat)
    case atStart => exact ⟨0, rfl, by omega, HD5, HB5⟩
    case round =>
      obtain ⟨j, rfl, hj, HD, HB⟩ := hrel
      by_cases hlt : j ≤ 8
      · have k1 : (j : Int) ≤ 8 := by omega
        have k2 : (j : Int) < 9 := by omega
        have f1 := HD.out.fz (1 + j)
        have l1 := HD.out.lt
        obtain ⟨u, hu, _⟩ := HD.out.cell (j := 1 + j) (by omega)
        have HDn : Hid (DR (wr.setCell ⟨kb, 1 + j, none⟩ (.int .i64 (-1))) 62 kb 11 (KF gw n (j + 1))) := HD.out.set (fun k u hk hp => ⟨hp.1, fun t ht e => hp.2.1 t (by omega) e, hp.2.2⟩) ⟨fun e => by omega, fun t ht e => rfl, fun e => by omega⟩
        have HBn : Hid (Below kb w4 (wr.setCell ⟨kb, 1 + j, none⟩ (.int .i64 (-1)))) := HB.out.setCell (p := ⟨kb, 1 + j, none⟩) (Nat.le_refl _) _
        clear HD HB
        go_wp2
        go_roundw
        case rel => exact ⟨j + 1, by go_num, by omega, HDn, HBn⟩
        case measure => simp [intOf]; omega
      · have hj9 : j = 9 := by omega
        subst hj9
        have HK : Hid (KtI (fun g => g < w.heap.size) a ga gm gf cf 0 kb gw n w wr) := by
          obtain ⟨hal, hb3, hft⟩ := HS.out
          have s1 := HB1.out.size
          have s3 := hb3.size
          have s4 := HB4.out.size
          have b4 : Below w.heap.size w w4 := (HB1.out.trans (hb3.mono s1)).trans (HB4.out.mono (by rw [HGw.out]; omega))
          have b34 : ∀ g, g < gw → wr.heap[g]? = w3.heap[g]? := fun g hg => (HB.out.block g (by rw [HKb.out]; rw [HGw.out] at hg; omega)).trans (HB4.out.block g hg)
          refine ⟨al0 n, ⟨.slice none 0 0, .slice none 0 0, hal.kept (fun g hg => b34 g (by rw [HGw.out]; exact hal.lt g hg)), ⟨?_, ?_, .inl ⟨rfl, rfl⟩⟩, Fr.of (b4.trans (HB.out.mono (by rw [HKb.out]; exact b4.size))) (fun _ hg _ => hg), fun g hg => Nat.not_lt.2 (Nat.le_trans s1 (hft g hg)), fun g hg => Nat.not_lt.2 ?_, fun g hg => by cases hg⟩, inv_new (by omega), full_new n, by simp [al0]⟩
          · refine HD.out.mono (fun k u _ hp => ⟨fun e => ?_, fun t ht e => ?_, hp.2.2⟩)
            · rw [hp.1 e]; simp [al0]
            · rw [hp.2.1 t (by omega) e]; unfold al0; rw [gv_zero]
          · have := HD4.out.kept (HB.out.block gw (by rw [HKb.out]; exact HD4.out.lt))
            rw [show (al0 n).who.length = n by simp [al0]]
            refine this.mono (fun k u _ hp x hx => ?_)
            rw [hp, List.eq_of_mem_replicate (List.mem_of_getElem? hx)]
            rfl
          · rcases hg with (rfl | rfl) | hg
            · rw [HKb.out]; exact b4.size
            · rw [HGw.out]; omega
            · cases hg
        clear HD HB HD4 HB4 HS HB5 HD5 HKb HGw hlt hj
        obtain ⟨v9, hv9⟩ : ∃ v9, Value.int .i64 ((9 : Nat) : Int) = v9 := ⟨_, rfl⟩
        go_wp2
        rw [hv9]
        clear hv9
        go_loopw [11, 12, 13] (fun i _ _ wr => ∃ (j m : Nat), i = .int .i64 j ∧ j ≤ ops.length ∧ m ≤ j ∧ Hid (KtI (fun g => g < w.heap.size) a ga gm gf cf m kb gw n w wr)) (fun i _ _ _ => ops.length - (intOf i).toNat)
        case atStart => exact ⟨0, 0, rfl, by omega, by omega, HK⟩
        case round =>
          clear HK
          obtain ⟨j, m, rfl, hj, hm, HK⟩ := hrel
          by_cases hlt : j < ops.length
          · have k1 : (j : Int) < (ops.length : Int) := by omega
            obtain ⟨x, hx⟩ : ∃ x, ops[j]? = some x := ⟨_, List.getElem?_eq_getElem hlt⟩
            obtain ⟨b, o, q1, q2⟩ := HO.out.at
            have q1' := q1 (by omega)
            subst q1'
            obtain ⟨q3, q4, q5, q6⟩ := q2 j x hx
            have hb0 : Fr (fun g => g < w.heap.size) w wr := by
              obtain ⟨A, hK, _⟩ := HK.out
              exact hK.fr
            have d0 := (cell_heap (o := o + j * 3) (hb0.2 b q3 q3)).trans q4
            have d1 := (cell_heap (o := o + j * 3 + 1) (hb0.2 b q3 q3)).trans q5
            have d2 := (cell_heap (o := o + j * 3 + 1 + 1) (hb0.2 b q3 q3)).trans q6
            have lb : b < wr.heap.size := Nat.lt_of_lt_of_le q3 hb0.1.size
            obtain ⟨r0, r1, r2⟩ := H64.out x (List.mem_of_getElem? hx)
            obtain ⟨c, hc8, hck⟩ := pick_fix x.1 8 r0 (by omega) (by omega)
            have HC : Hid (∀ w : World, Calls Try.prog 12 #[.int .i64 x.1, .int .i64 8] w fun e w' => e = .returned (.int .i64 c) ∧ w' = w) := hck
            clear q1 q2 q4 q5 q6 hx hb0 hck
            obtain ⟨W6, hW6⟩ : ∃ W6, W6 = wr.alloc (.cells #[.int .i64 x.1, .int .i64 x.2.1, .int .i64 x.2.2] 53) := ⟨_, rfl⟩
            have hn6 := heap_alloc_new wr (.cells #[.int .i64 x.1, .int .i64 x.2.1, .int .i64 x.2.2] 53)
            have hb6 := (Below.refl _ wr).alloc (Nat.le_refl wr.heap.size) (.cells #[.int .i64 x.1, .int .i64 x.2.1, .int .i64 x.2.2] 53)
            rw [← hW6] at hn6 hb6
            have l6 := heap_lt hn6
            have HK6 : Hid (Ahead (fun g => g < w.heap.size) (fun g => g < w.heap.size ∨ g = wr.heap.size) a ga gm gf cf m kb gw n w W6) := KtI.ahead HK.out hb6 l6
            have e0 := heap_cell (j := 0) hn6 rfl
            have e1 := heap_cell (j := 1) hn6 rfl
            have e2 := heap_cell (j := 2) hn6 rfl
            go_upto_region 18 with fail
            rw [← hW6]
            clear hW6 hn6 hb6 HK d0 d1 d2
            obtain ⟨ob, hob⟩ : ∃ ob, ob = wr.heap.size := ⟨_, rfl⟩
            rw [← hob] at e0 e1 e2 l6 HK6 ⊢
            clear hob
            go_wp2_with fail
            refine Calls.mono (HC.out W6) ?_
            rintro e w7 ⟨rfl, hw7⟩
            rw [hw7]
            clear hw7 HC r0 e0
            have hc : c = 0 ∨ c = 1 ∨ c = 2 ∨ c = 3 ∨ c = 4 ∨ c = 5 ∨ c = 6 ∨ c = 7 := by omega
            have hmx : Try.prog.follows .mixedOrders = true := by kernel_rfl
            rcases hc with rfl | rfl | rfl | rfl | rfl | rfl | rfl | rfl
            · obtain ⟨t, ht8, hta⟩ := pick_fix x.2.1 8 r1 (by omega) (by omega)
              have HA8 : Hid (∀ w : World, Calls Try.prog 12 #[.int .i64 x.2.1, .int .i64 8] w fun e w' => e = .returned (.int .i64 t) ∧ w' = w) := hta
              obtain ⟨t5, ht5, hta5⟩ := pick_fix x.2.2 5 r2 (by omega) (by omega)
              have HB5 : Hid (∀ w : World, Calls Try.prog 12 #[.int .i64 x.2.2, .int .i64 5] w fun e w' => e = .returned (.int .i64 t5) ∧ w' = w) := hta5
              clear hta hta5 r1 r2
              have HT1 : Hid (IntKind.i64.wrap ((1 : Int) + (t : Int)) = ((1 + t : Nat) : Int)) := wrap1 ht8
              have HQ : Hid _ := fun W (hW : Below W6.heap.size W6 W) => asks_in (HK6.out.to hW) (1 + t) t5 (by omega) (by omega)
              clear HK6
              go_wp2_with fail
              go_region_held3 (fun wx => (wx.cell? ⟨ob, 1, none⟩ = some (.int .i64 x.2.1) ∧ wx.cell? ⟨ob, 2, none⟩ = some (.int .i64 x.2.2)) ∧ ob < wx.heap.size) (first | (go_keep; done) | exact keepO hf9 (.inr rfl) ⟨⟨e1, e2⟩, l6⟩)
                (first
                | (go_at_call_of 12 (Value.int IntKind.i64 x.2.1); refine (HA8.out _).mono ?_; rintro e w8 ⟨rfl, rfl⟩)
                | (go_at_call_of 12 (Value.int IntKind.i64 x.2.2); refine (HB5.out _).mono ?_; rintro e w8 ⟨rfl, rfl⟩)
                | (go_at_call 13; rw [HT1.out]; refine (HQ.out _ (Below.refl _ _).drew).mono ?_; rintro e w9 ⟨rfl, hf9, m9, hm9, hk9⟩))
              have HK9 : Hid (KtI (fun g => g < w.heap.size) a ga gm gf cf m9 kb gw n w w9) := hk9
              clear hf9 hk9 HQ HA8 HB5 HT1 e1 e2 l6
              go_wp2
              go_roundw
              case rel => exact ⟨j + 1, m9, by go_num, by omega, by omega, HK9⟩
              case measure => simp [intOf]; omega
            · obtain ⟨t, ht8, hta⟩ := pick_fix x.2.1 8 r1 (by omega) (by omega)
              have HA8 : Hid (∀ w : World, Calls Try.prog 12 #[.int .i64 x.2.1, .int .i64 8] w fun e w' => e = .returned (.int .i64 t) ∧ w' = w) := hta
              obtain ⟨t5, ht5, hta5⟩ := pick_fix x.2.2 5 r2 (by omega) (by omega)
              have HB5 : Hid (∀ w : World, Calls Try.prog 12 #[.int .i64 x.2.2, .int .i64 5] w fun e w' => e = .returned (.int .i64 t5) ∧ w' = w) := hta5
              clear hta hta5 r1 r2
              have HT1 : Hid (IntKind.i64.wrap ((1 : Int) + (t : Int)) = ((1 + t : Nat) : Int)) := wrap1 ht8
              have HQ : Hid _ := fun W (hW : Below W6.heap.size W6 W) => asks_in (HK6.out.to hW) (1 + t) t5 (by omega) (by omega)
              clear HK6
              go_wp2_with fail
              go_region_held3 (fun wx => (wx.cell? ⟨ob, 1, none⟩ = some (.int .i64 x.2.1) ∧ wx.cell? ⟨ob, 2, none⟩ = some (.int .i64 x.2.2)) ∧ ob < wx.heap.size) (first | (go_keep; done) | exact keepO hf9 (.inr rfl) ⟨⟨e1, e2⟩, l6⟩)
                (first
                | (go_at_call_of 12 (Value.int IntKind.i64 x.2.1); refine (HA8.out _).mono ?_; rintro e w8 ⟨rfl, rfl⟩)
                | (go_at_call_of 12 (Value.int IntKind.i64 x.2.2); refine (HB5.out _).mono ?_; rintro e w8 ⟨rfl, rfl⟩)
                | (go_at_call 13; rw [HT1.out]; refine (HQ.out _ (Below.refl _ _).drew).mono ?_; rintro e w9 ⟨rfl, hf9, m9, hm9, hk9⟩))
              have HK9 : Hid (KtI (fun g => g < w.heap.size) a ga gm gf cf m9 kb gw n w w9) := hk9
              clear hf9 hk9 HQ HA8 HB5 HT1 e1 e2 l6
              go_wp2
              go_roundw
              case rel => exact ⟨j + 1, m9, by go_num, by omega, by omega, HK9⟩
              case measure => simp [intOf]; omega
            · obtain ⟨t, ht8, hta⟩ := pick_fix x.2.1 8 r1 (by omega) (by omega)
              have HA8 : Hid (∀ w : World, Calls Try.prog 12 #[.int .i64 x.2.1, .int .i64 8] w fun e w' => e = .returned (.int .i64 t) ∧ w' = w) := hta
              obtain ⟨t5, ht5, hta5⟩ := pick_fix x.2.2 5 r2 (by omega) (by omega)
              have HB5 : Hid (∀ w : World, Calls Try.prog 12 #[.int .i64 x.2.2, .int .i64 5] w fun e w' => e = .returned (.int .i64 t5) ∧ w' = w) := hta5
              clear hta hta5 r1 r2
              have HT1 : Hid (IntKind.i64.wrap ((1 : Int) + (t : Int)) = ((1 + t : Nat) : Int)) := wrap1 ht8
              have HQ : Hid _ := fun W (hW : Below W6.heap.size W6 W) => asks_in (HK6.out.to hW) (1 + t) t5 (by omega) (by omega)
              clear HK6
              go_wp2_with fail
              go_region_held3 (fun wx => (wx.cell? ⟨ob, 1, none⟩ = some (.int .i64 x.2.1) ∧ wx.cell? ⟨ob, 2, none⟩ = some (.int .i64 x.2.2)) ∧ ob < wx.heap.size) (first | (go_keep; done) | exact keepO hf9 (.inr rfl) ⟨⟨e1, e2⟩, l6⟩)
                (first
                | (go_at_call_of 12 (Value.int IntKind.i64 x.2.1); refine (HA8.out _).mono ?_; rintro e w8 ⟨rfl, rfl⟩)
                | (go_at_call_of 12 (Value.int IntKind.i64 x.2.2); refine (HB5.out _).mono ?_; rintro e w8 ⟨rfl, rfl⟩)
                | (go_at_call 13; rw [HT1.out]; refine (HQ.out _ (Below.refl _ _).drew).mono ?_; rintro e w9 ⟨rfl, hf9, m9, hm9, hk9⟩))
              have HK9 : Hid (KtI (fun g => g < w.heap.size) a ga gm gf cf m9 kb gw n w w9) := hk9
              clear hf9 hk9 HQ HA8 HB5 HT1 e1 e2 l6
              go_wp2
              go_roundw
              case rel => exact ⟨j + 1, m9, by go_num, by omega, by omega, HK9⟩
              case measure => simp [intOf]; omega
            · obtain ⟨t, ht8, hta⟩ := pick_fix x.2.1 8 r1 (by omega) (by omega)
              have HA8 : Hid (∀ w : World, Calls Try.prog 12 #[.int .i64 x.2.1, .int .i64 8] w fun e w' => e = .returned (.int .i64 t) ∧ w' = w) := hta
              obtain ⟨t5, ht5, hta5⟩ := pick_fix x.2.2 5 r2 (by omega) (by omega)
              have HB5 : Hid (∀ w : World, Calls Try.prog 12 #[.int .i64 x.2.2, .int .i64 5] w fun e w' => e = .returned (.int .i64 t5) ∧ w' = w) := hta5
              clear hta hta5 r1 r2
              have HT1 : Hid (IntKind.i64.wrap ((1 : Int) + (t : Int)) = ((1 + t : Nat) : Int)) := wrap1 ht8
              have HQ : Hid _ := fun W (hW : Below W6.heap.size W6 W) => asks_in (HK6.out.to hW) (1 + t) t5 (by omega) (by omega)
              clear HK6
              go_wp2_with fail
              go_region_held3 (fun wx => (wx.cell? ⟨ob, 1, none⟩ = some (.int .i64 x.2.1) ∧ wx.cell? ⟨ob, 2, none⟩ = some (.int .i64 x.2.2)) ∧ ob < wx.heap.size) (first | (go_keep; done) | exact keepO hf9 (.inr rfl) ⟨⟨e1, e2⟩, l6⟩)
                (first
                | (go_at_call_of 12 (Value.int IntKind.i64 x.2.1); refine (HA8.out _).mono ?_; rintro e w8 ⟨rfl, rfl⟩)
                | (go_at_call_of 12 (Value.int IntKind.i64 x.2.2); refine (HB5.out _).mono ?_; rintro e w8 ⟨rfl, rfl⟩)
                | (go_at_call 13; rw [HT1.out]; refine (HQ.out _ (Below.refl _ _).drew).mono ?_; rintro e w9 ⟨rfl, hf9, m9, hm9, hk9⟩))
              have HK9 : Hid (KtI (fun g => g < w.heap.size) a ga gm gf cf m9 kb gw n w w9) := hk9
              clear hf9 hk9 HQ HA8 HB5 HT1 e1 e2 l6
              go_wp2
              go_roundw
              case rel => exact ⟨j + 1, m9, by go_num, by omega, by omega, HK9⟩
              case measure => simp [intOf]; omega
            · obtain ⟨t, htn, hta⟩ := pick_fix x.2.1 n r1 (by omega) (by omega)
              have HA8 : Hid (∀ w : World, Calls Try.prog 12 #[.int .i64 x.2.1, .int .i64 n] w fun e w' => e = .returned (.int .i64 t) ∧ w' = w) := hta
              clear hta r1 r2
              have HQ : Hid _ := backs_in HK6.out (by omega) t htn
              clear HK6
              go_wp2_with fail
              refine Calls.mono (HA8.out W6) ?_
              rintro e w8 ⟨rfl, hw8⟩
              rw [hw8]
              clear hw8 HA8
              go_wp2_with fail
              refine Calls.mono HQ.out ?_
              rintro e w9 ⟨rfl, hf9, m9, hm9, hk9⟩
              have HK9 : Hid (KtI (fun g => g < w.heap.size) a ga gm gf cf m9 kb gw n w w9) := hk9
              clear hf9 hk9 HQ e1 e2 l6
              go_wp2
              go_roundw
              case rel => exact ⟨j + 1, m9, by go_num, by omega, by omega, HK9⟩
              case measure => simp [intOf]; omega
            · obtain ⟨t, htn, hta⟩ := pick_fix x.2.1 n r1 (by omega) (by omega)
              have HA8 : Hid (∀ w : World, Calls Try.prog 12 #[.int .i64 x.2.1, .int .i64 n] w fun e w' => e = .returned (.int .i64 t) ∧ w' = w) := hta
              clear hta r1 r2
              have HQ : Hid _ := backs_in HK6.out (by omega) t htn
              clear HK6
              go_wp2_with fail
              refine Calls.mono (HA8.out W6) ?_
              rintro e w8 ⟨rfl, hw8⟩
              rw [hw8]
              clear hw8 HA8
              go_wp2_with fail
              refine Calls.mono HQ.out ?_
              rintro e w9 ⟨rfl, hf9, m9, hm9, hk9⟩
              have HK9 : Hid (KtI (fun g => g < w.heap.size) a ga gm gf cf m9 kb gw n w w9) := hk9
              clear hf9 hk9 HQ e1 e2 l6
              go_wp2
              go_roundw
              case rel => exact ⟨j + 1, m9, by go_num, by omega, by omega, HK9⟩
              case measure => simp [intOf]; omega
            · obtain ⟨t, htn, hta⟩ := pick_fix x.2.1 n r1 (by omega) (by omega)
              have HA8 : Hid (∀ w : World, Calls Try.prog 12 #[.int .i64 x.2.1, .int .i64 n] w fun e w' => e = .returned (.int .i64 t) ∧ w' = w) := hta
              clear hta r1 r2
              have HQ : Hid _ := backs_in HK6.out (by omega) t htn
              clear HK6
              go_wp2_with fail
              refine Calls.mono (HA8.out W6) ?_
              rintro e w8 ⟨rfl, hw8⟩
              rw [hw8]
              clear hw8 HA8
              go_wp2_with fail
              refine Calls.mono HQ.out ?_
              rintro e w9 ⟨rfl, hf9, m9, hm9, hk9⟩
              have HK9 : Hid (KtI (fun g => g < w.heap.size) a ga gm gf cf m9 kb gw n w w9) := hk9
              clear hf9 hk9 HQ e1 e2 l6
              go_wp2
              go_roundw
              case rel => exact ⟨j + 1, m9, by go_num, by omega, by omega, HK9⟩
              case measure => simp [intOf]; omega
            · obtain ⟨t, ht8, hta⟩ := pick_fix x.2.1 5 r1 (by omega) (by omega)
              have HA8 : Hid (∀ w : World, Calls Try.prog 12 #[.int .i64 x.2.1, .int .i64 5] w fun e w' => e = .returned (.int .i64 t) ∧ w' = w) := hta
              obtain ⟨t5, ht5, hta5⟩ := pick_fix x.2.2 2 r2 (by omega) (by omega)
              have HB5 : Hid (∀ w : World, Calls Try.prog 12 #[.int .i64 x.2.2, .int .i64 2] w fun e w' => e = .returned (.int .i64 t5) ∧ w' = w) := hta5
              clear hta hta5 r1 r2
              have HQ : Hid _ := fun W (hW : Below W6.heap.size W6 W) => ends_in (HK6.out.to hW) t t5
              clear HK6
              go_wp2_with fail
              go_region_held3 (fun wx => (wx.cell? ⟨ob, 1, none⟩ = some (.int .i64 x.2.1) ∧ wx.cell? ⟨ob, 2, none⟩ = some (.int .i64 x.2.2)) ∧ ob < wx.heap.size) (first | (go_keep; done) | exact keepO hf9 (.inr rfl) ⟨⟨e1, e2⟩, l6⟩)
                (first
                | (go_at_call_of 12 (Value.int IntKind.i64 x.2.1); refine (HA8.out _).mono ?_; rintro e w8 ⟨rfl, rfl⟩)
                | (go_at_call_of 12 (Value.int IntKind.i64 x.2.2); refine (HB5.out _).mono ?_; rintro e w8 ⟨rfl, rfl⟩)
                | (go_at_call 15; refine (HQ.out _ (Below.refl _ _).drew).mono ?_; rintro e w9 ⟨rfl, hf9, m9, hm9, hk9⟩))
              have HK9 : Hid (KtI (fun g => g < w.heap.size) a ga gm gf cf m9 kb gw n w w9) := hk9
              clear hf9 hk9 HQ HA8 HB5 e1 e2 l6
              go_wp2
              go_roundw
              case rel => exact ⟨j + 1, m9, by go_num, by omega, by omega, HK9⟩
              case measure => simp [intOf]; omega
          · obtain rfl : j = ops.length := by omega
            have k1 : ¬ (ops.length : Int) < (ops.length : Int) := by omega
            obtain ⟨A, hKT, hI, hF, hlen⟩ := HK.out
            obtain ⟨vr, vw, hA, hKl, hb0, hf, hk, hd⟩ := hKT
            have HFr : Hid _ := free_any a ga gm gf cf m vr A wr hA hI
            have HF : Hid (Fr (fun g => g < w.heap.size) w wr) := hb0
            have HX : Hid (AL wr a ga gm gf cf vr m A ∧ KL wr kb gw vw A ∧ Inv A ∧ Full A) := ⟨hA, hKl, hI, hF⟩
            clear hA hKl hI hF hb0 hf hk hd HK hlt hj HO H64
            go_wp2_with fail
            refine Calls.mono HFr.out ?_
            rintro e w6 ⟨⟨v', rfl, ho6⟩, hb6⟩
            obtain ⟨rf, cf', hvf⟩ := own_sl ho6
            subst hvf
            have HR6 : Hid (RX (Value.int .i64) w6 rf (frs 0 A.who)) := own_rx ho6 rfl
            have HX6 : Hid (AL w6 a ga gm gf cf vr m A ∧ KL w6 kb gw vw A ∧ Inv A ∧ Full A) := ⟨HX.out.1.kept (fun g hg => hb6.block g (HX.out.1.lt g hg)), HX.out.2.1.kept (fun g hg => hb6.block g (HX.out.2.1.lt g hg)), HX.out.2.2⟩
            have HF6 : Hid (Below w.heap.size w w6) := (HF.out.below (Nat.le_refl _)).trans (hb6.mono HF.out.1.size)
            have c0 := HX6.out.2.1.c0
            have lk := HX6.out.2.1.kp.lt
            have lgw := HX6.out.2.1.kw.lt
            rw [hlen] at c0
            have HLn : Hid (A.who.length = n) := hlen
            have hfl : (frs 0 A.who).length ≤ n := by rw [← hlen]; exact frs_len 0 A.who
            obtain ⟨fl, hfe⟩ : ∃ fl, (frs 0 A.who).length = fl := ⟨_, rfl⟩
            rw [hfe] at hfl ⊢
            have HFe : Hid ((frs 0 A.who).length = fl) := hfe
            clear ho6 hb6 HFr HX HF hlen hfe
            go_wp2
            go_loopw [15, 16] (fun mm i wr => ∃ j : Nat, i = .int .i64 j ∧ j ≤ n ∧ mm = .int .i64 ((frs 0 (A.who.take j)).length : Nat) ∧ wr = w6) (fun _ i _ => n - (intOf i).toNat)
            case atStart => exact ⟨0, rfl, Nat.zero_le _, rfl, rfl⟩
            case round =>
              obtain ⟨j, rfl, hj, rfl, rfl⟩ := hrel
              have hml : (frs 0 (A.who.take j)).length ≤ n := Nat.le_trans (frs_len 0 _) (by rw [List.length_take]; omega)
              by_cases hlt : j < n
              · have k2 : (j : Int) < (n : Int) := by omega
                obtain ⟨y, hy⟩ : ∃ y, A.who[j]? = some y := ⟨_, List.getElem?_eq_getElem (by rw [HLn.out]; exact hlt)⟩
                have cw := HX6.out.2.1.who hy
                have HN : Hid (frs 0 (A.who.take (j + 1)) = frs 0 (A.who.take j) ++ if y = 0 then [(j : Int)] else []) := frs_next hy
                by_cases h0 : y = 0
                · subst h0
                  have cw' : wr.cell? ⟨gw, j, none⟩ = some (.bool false) := cw
                  have hat := frs_at hy
                  have hlm := (List.getElem?_eq_some_iff.1 hat).1
                  rw [HFe.out] at hlm
                  obtain ⟨bl, ol, q6, q7⟩ := HR6.out.at
                  have hrf := q6 (by rw [HFe.out]; omega)
                  subst hrf
                  obtain ⟨q8, q9⟩ := q7 _ _ hat
                  have HLm : Hid ((frs 0 (A.who.take (j + 1))).length = (frs 0 (A.who.take j)).length + 1) := by show _ = _; rw [HN.out, if_pos rfl, List.length_append]; rfl
                  clear HN cw q6 q7 hat hy
                  obtain ⟨mm, hmm⟩ : ∃ mm, (frs 0 (A.who.take j)).length = mm := ⟨_, rfl⟩
                  rw [hmm] at HLm q9 hlm hml ⊢
                  have k3 : (mm : Int) < (fl : Int) := by omega
                  have k4 : ¬ (mm : Int) ≥ (fl : Int) := by omega
                  have z2 : ((j : Int) == (j : Int)) = true := by simp
                  go_wp2
                  go_roundw
                  case rel => exact ⟨j + 1, by go_num, by omega, by rw [HLm.out]; go_num, trivial⟩
                  case measure => simp [intOf]; omega
                · rw [decide_eq_true h0] at cw
                  have HLm : Hid ((frs 0 (A.who.take (j + 1))).length = (frs 0 (A.who.take j)).length) := by show _ = _; rw [HN.out, if_neg h0, List.append_nil]
                  clear HN hy
                  go_wp2
                  go_roundw
                  case rel => exact ⟨j + 1, by go_num, by omega, by rw [HLm.out], trivial⟩
                  case measure => simp [intOf]; omega
              · obtain rfl : j = n := by omega
                have k2 : ¬ (j : Int) < (j : Int) := by omega
                rw [List.take_of_length_le (Nat.le_of_eq HLn.out), HFe.out]
                clear hlt hj hml
                obtain ⟨hA6, hK6, hI6, hF6⟩ := HX6.out
                have hrl := row_le hI6
                obtain ⟨rw', cw', hvw⟩ := hK6.wt.sl
                have HWX : Hid (WX wr rw' A.row) := by
                  have := hK6.wt
                  rw [hvw] at this
                  exact this.wx
                have c10 := hK6.cw
                rw [hvw] at c10
                have HWt : Hid (∀ W : World, Below wr.heap.size wr W → Calls Try.prog 18 #[.pointer (some ⟨a, 0, none⟩)] W fun e w' => OutW A.row e W w') := fun W hW => waiting_any a ga gm gf cf m vr A W (hA6.kept (fun g hg => hW.block g (hA6.lt g hg))) (by omega)
                have HFu : Hid (Full A) := hF6
                have hmx : Try.prog.follows .mixedOrders = true := by kernel_rfl
                have lkd : kb < wr.heap.size := lk
                clear hA6 hK6 hI6 hF6 hvw c0 HX6 HR6
                go_wp2_with fail
                go_region_held3 (fun wx => wx.cell? ⟨kb, 10, none⟩ = some (.slice rw' A.row.length cw') ∧ kb < wx.heap.size) (first | (go_keep; done) | exact ⟨(hb8.cell (p := ⟨kb, 10, none⟩) lk).trans c10, Nat.lt_of_lt_of_le lk hb8.size⟩ | exact ⟨(hb9.cell (p := ⟨kb, 10, none⟩) lk8).trans c108, Nat.lt_of_lt_of_le lk8 hb9.size⟩)
                  (first
                  | (go_at_call 18; refine (HWt.out _ (Below.refl _ _).drew).mono ?_; rintro e w8 ⟨⟨v8, rfl, ho8⟩, hb8⟩; obtain ⟨r8, c8, hv8⟩ := own_sl ho8; subst hv8; have c108 := (hb8.cell (p := ⟨kb, 10, none⟩) lk).trans c10; have lk8 : kb < w8.heap.size := Nat.lt_of_lt_of_le lk hb8.size)
                  | (go_at_call 17; refine (sameW_any A.row A.row r8 rw' c8 cw' w8 (by unfold maxLen; omega) (by unfold maxLen; omega) (own_wx ho8 rfl) ((HWX.out.below (Below.refl _ _).drew).below hb8)).mono ?_; rintro e w9 ⟨rfl, hb9⟩))
                have c109 := (hb9.cell (p := ⟨kb, 10, none⟩) lk8).trans c108
                have lk9 : kb < w9.heap.size := Nat.lt_of_lt_of_le lk8 hb9.size
                have HB9 : Hid (Below w.heap.size w w9) := (HF6.out.drew.trans (hb8.mono HF6.out.size)).trans (hb9.mono (Nat.le_trans HF6.out.size hb8.size))
                clear hb8 hb9 ho8 c10 c108 lk8 HWX HWt HF6
                by_cases h0 : fl = 0
                · subst h0
                  go_wp2
                  go_ret
                  exact ⟨rfl, HB9.out⟩
                · have hr0 : A.row = [] := by
                    rcases HFu.out with h | h
                    · exact h
                    · have h1 := HFe.out
                      rw [frs_nil h] at h1
                      exact absurd h1.symm h0
                  rw [hr0, List.length_nil] at c109
                  have z0 : ((fl : Int) == 0) = false := by simp; omega
                  have z1 : ((fl : Int) == (fl : Int)) = true := by simp
                  go_wp2
                  go_ret
                  exact ⟨rfl, HB9.out⟩
  · have kbg : (ops.length : Int) > 3000 := by omega
    go_enter Try.func5, Try.ntmps5
    go_wp2_with fail
    refine Calls.mono HW.out ?_
    rintro e w1 ⟨rfl, hb⟩
    have HB1 : Hid (Below w.heap.size w w1) := hb
    clear hb HW
    go_wp2
    go_ret
    exact ⟨rfl, HB1.out⟩
end Go.Proofs.Ytaenoenchbfeiaa
