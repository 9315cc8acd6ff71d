/- The document's Parse, walked. -/
import Derived.Test.YtpkohocjgnodnaaGreatDoorGBB
namespace Go.Proofs.YtpkohocjgnodnaaGreatDoor
open Go.RowKit

theorem zc_cells {W : World} {b : Nat} (h : W.heap[b]? = some ZC) : W.cell? ⟨b, 0, none⟩ = some (.slice none 0 0) ∧ W.cell? ⟨b, 1, none⟩ = some (.slice none 0 0) ∧ W.cell? ⟨b, 2, none⟩ = some (.slice none 0 0) ∧ W.frozen? ⟨b, 0, none⟩ = false ∧ W.frozen? ⟨b, 1, none⟩ = false ∧ W.frozen? ⟨b, 2, none⟩ = false ∧ b < W.heap.size := by
  refine ⟨?_, ?_, ?_, ?_, ?_, ?_, (Array.getElem?_eq_some_iff.1 h).1⟩ <;> simp [World.cell?, World.frozen?, h]
set_option maxRecDepth 100000 in
set_option maxHeartbeats 8000000 in
theorem dParse_any (B : ByteArray) (w : World) (hl : B.size ≤ 1099511627000) :
    Calls Tryz.prog 14 #[.string B] w fun e w' => ParseR B.data.toList (w.heap.size + 3) e w' ∧ Below w.heap.size w w' := by
  have hL := size_len B
  have HL : Hid (B.size = B.data.toList.length) := hL
  have hmx : B.size ≤ 9223372036854775807 := by omega
  have HP0 : Hid (PB w (((w.alloc ZC).alloc ZC).alloc ZC) (.slice none 0 0) (.slice none 0 0) (.slice none 0 0) [] noCd) := PB.new w
  have HG0 : Hid (Lim noCd 0 ∧ GoodC B.size noCd) := ⟨⟨Nat.zero_le _, Nat.zero_le _, Nat.zero_le _, fun p hp => (by cases hp)⟩, ⟨fun x hx => (by cases hx), fun x hx => (by cases hx), fun x hx => (by cases hx)⟩⟩
  have HLn : Hid (∀ (c : Cd) (s : List UInt8) (v1 v2 v3 : Value) (vs : List Value) (w5 : World), s.length ≤ B.size → OC w5 (w.heap.size + 3) v1 v2 v3 vs c → w.heap.size + 3 ≤ w5.heap.size → Lim c B.size → Calls Tryz.prog 41 #[.agg #[v1, v2, v3], S s] w5 fun e w' => LineR (takeV c s) (w.heap.size + 3) e w' ∧ Below (w.heap.size + 3) w5 w' ∧ KC w5 w') :=
    fun c s v1 v2 v3 vs w5 hs ho hb hm => dLine_any c s _ v1 v2 v3 vs w5 (by omega) ho hb (by obtain ⟨m1, m2, m3, m4⟩ := hm; exact ⟨by omega, by omega, by omega, fun p hp => Nat.le_trans (m4 p hp) (by omega)⟩)
  clear hL
  go_enter Tryz.func14, Tryz.ntmps14
  go_wp2_with fail
  go_loopw [7, 8, 9, 10, 11] (fun n f _ _ _ wr => ∃ (k m : Nat) (v1 v2 v3 : Value) (vs : List Value) (c : Cd), f = .int .i64 k ∧ n = .int .i64 m ∧ k ≤ B.size ∧ m ≤ k ∧ Hid (parsedV (B.data.toList.drop k) c ((m : Int) + 1) = parsedV B.data.toList noCd 1) ∧ Hid (Lim c k ∧ GoodC B.size c) ∧ Hid (PB w wr v1 v2 v3 vs c)) (fun _ f _ _ _ _ => B.size - (intOf f).toNat)
  case atStart => exact ⟨0, 0, _, _, _, _, noCd, rfl, rfl, Nat.zero_le _, Nat.le_refl _, by show _ = _; rw [List.drop_zero]; rfl, HG0, HP0⟩
  case round =>
    clear HP0 HG0
    obtain ⟨k, m, v1, v2, v3, vs, c, rfl, rfl, hk, hmk, HV, HG, HP⟩ := hrel
    obtain ⟨r1, d1, r2, d2, r3, d3, rfl, rfl, rfl⟩ := HP.out.slices
    obtain ⟨N1, hN1⟩ : ∃ n, n = c.consts.length := ⟨_, rfl⟩
    obtain ⟨N2, hN2⟩ : ∃ n, n = c.procs.length := ⟨_, rfl⟩
    obtain ⟨N3, hN3⟩ : ∃ n, n = c.globals.length := ⟨_, rfl⟩
    rw [← hN1, ← hN2, ← hN3] at HP
    clear hN1 hN2 hN3
    obtain ⟨⟨z0, z1, z2, y0, y1, y2⟩, ⟨x0, x1, x2⟩, q0, q1, q2, f0, f1, f2⟩ := HP.out.cells
    have hlt3 := HP.out.lt
    by_cases hlt : k < B.size
    · have i1 : (k : Int) < (B.size : Int) := by omega
      go_wp2_with fail
      go_loop [9] (fun i => ∃ j : Nat, i = .int .i64 j ∧ k ≤ j ∧ j ≤ B.size ∧ Hid ((10 : UInt8) ∉ (B.data.toList.drop k).take (j - k))) (fun i => B.size - (intOf i).toNat)
      case atStart => exact ⟨k, rfl, Nat.le_refl _, hk, by show _ ∉ _; rw [Nat.sub_self, List.take_zero]; exact List.not_mem_nil⟩
      case round =>
        obtain ⟨j, rfl, hkj, hj, H10⟩ := hrel
        by_cases hj2 : j < B.size
        · have j1 : (j : Int) < (B.size : Int) := by omega
          have hbl := byte_le B j hj2
          have hdj : Hid (B.data.toList.drop j = B[j] :: B.data.toList.drop (j + 1)) := drop_step B j hj2
          have hdk : Hid ((B.data.toList.drop k).drop (j - k) = B[j] :: B.data.toList.drop (j + 1)) := by
            show _ = _
            rw [List.drop_drop, show k + (j - k) = j by omega]
            exact hdj.out
          by_cases c10 : B[j].toNat = 10
          · have d10 : (B[j].toNat : Int) = 10 := by omega
            have e10 : Hid (B[j] = 10) := UInt8.toNat_inj.1 c10
            have j2 : ((j : Int) == (B.size : Int)) = false := by simp; omega
            have HT : Hid (parsedV B.data.toList noCd 1 = match takeV c ((B.data.toList.drop k).take (j - k)) with | some c' => parsedV (B.data.toList.drop (j + 1)) c' ((m : Int) + 1 + 1) | none => (noCd, (m : Int) + 1)) := by
              show _ = _
              rw [← HV.out]
              exact parsed_next H10.out _ (by rw [hdk.out, e10.out])
            have hll : ((B.data.toList.drop k).take (j - k)).length ≤ B.size := by rw [List.length_take, List.length_drop, ← HL.out]; omega
            have HK : Hid (∀ w5 : World, Below wr.heap.size wr w5 → Calls Tryz.prog 41 #[.agg #[.slice r1 N1 d1, .slice r2 N2 d2, .slice r3 N3 d3], .string (B.extract k j)] w5 fun e w' => LineR (takeV c ((B.data.toList.drop k).take (j - k))) (w.heap.size + 3) e w' ∧ Below (w.heap.size + 3) w5 w' ∧ KC w5 w') := fun w5 h5 => by
              rw [S_extractM]
              exact HLn.out c _ _ _ _ vs w5 hll (HP.out.oc.below h5) (by have := h5.size; omega) (HG.out.1.mono hk)
            have HTk : Hid (∀ c', takeV c ((B.data.toList.drop k).take (j - k)) = some c' → Lim c' (j + 1) ∧ GoodC B.size c') := fun c' h => ⟨(HG.out.1.take h).mono (by omega), HG.out.2.take h hll⟩
            generalize (B.data.toList.drop k).take (j - k) = l at *
            have HKp : Hid (∀ wx, Below (w.heap.size + 3) wr wx → wx.cell? ⟨w.heap.size + 2, 0, none⟩ = some (.slice r1 N1 d1) ∧ wx.cell? ⟨w.heap.size + 2, 1, none⟩ = some (.slice r2 N2 d2) ∧ wx.cell? ⟨w.heap.size + 2, 2, none⟩ = some (.slice r3 N3 d3) ∧ w.heap.size + 2 < wx.heap.size) := fun wx hb => ⟨(hb.cell (p := ⟨w.heap.size + 2, 0, none⟩) (by show w.heap.size + 2 < _; omega)).trans q0, (hb.cell (p := ⟨w.heap.size + 2, 1, none⟩) (by show w.heap.size + 2 < _; omega)).trans q1, (hb.cell (p := ⟨w.heap.size + 2, 2, none⟩) (by show w.heap.size + 2 < _; omega)).trans q2, Nat.lt_of_lt_of_le hlt3 hb.size⟩
            have k1 : (0 : Int) ≤ (k : Int) := by omega
            have k2 : (k : Int) ≤ (j : Int) := by omega
            have k3 : (j : Int) ≤ (B.size : Int) := by omega
            have HBd : Hid (Below wr.heap.size wr wr.drew) := (Below.refl _ wr).drew
            have HBa : Hid (Below wr.heap.size wr (wr.alloc ZC).drew) := ((Below.refl _ wr).alloc (Nat.le_refl _) _).drew
            have HBe : Hid (∀ (w5 : World), Below (w.heap.size + 3) wr.drew w5 → Below (w.heap.size + 3) wr w5) := fun w5 h => ((Below.refl _ wr).drew).trans h
            have HBf : Hid (∀ (w5 : World), Below (w.heap.size + 3) (wr.alloc ZC).drew w5 → Below (w.heap.size + 3) wr w5) := fun w5 h => (((Below.refl _ wr).alloc (by omega) _).drew).trans h
            have HBg : Hid (∀ (w5 : World) (X : Obj), Below (w.heap.size + 3) wr w5 → Below (w.heap.size + 3) wr (w5.alloc X)) := fun w5 X h => h.alloc (by have := h.size; omega) X
            have HBs : Hid (∀ (w5 : World) (x y z : Value), Below (w.heap.size + 3) wr w5 → Below (w.heap.size + 3) wr (((w5.setCell ⟨wr.heap.size, 0, none⟩ x).setCell ⟨wr.heap.size, 1, none⟩ y).setCell ⟨wr.heap.size, 2, none⟩ z)) := fun w5 x y z h => ((h.setCell (p := ⟨wr.heap.size, 0, none⟩) hlt3 x).setCell (p := ⟨wr.heap.size, 1, none⟩) hlt3 y).setCell (p := ⟨wr.heap.size, 2, none⟩) hlt3 z
            have HNb : Hid (∀ (w5 : World), KC (wr.alloc ZC).drew w5 → w5.heap[wr.heap.size]? = some ZC) := fun w5 h => (h wr.heap.size (by show _ < (wr.alloc ZC).heap.size; rw [World.size_alloc]; omega) ⟨_, heap_alloc_new wr ZC⟩).trans (heap_alloc_new wr ZC)
            clear hdj hdk e10 HV H10 hll c10
            go_upto_region 12 with fail
            go_region_held3 (fun wx : World => wx.cell? ⟨w.heap.size + 2, 0, none⟩ = some (.slice r1 N1 d1) ∧ wx.cell? ⟨w.heap.size + 2, 1, none⟩ = some (.slice r2 N2 d2) ∧ wx.cell? ⟨w.heap.size + 2, 2, none⟩ = some (.slice r3 N3 d3) ∧ w.heap.size + 2 < wx.heap.size) (first | exact ⟨q0, q1, q2, hlt3⟩ | (go_keep; done) | exact HKp.out _ hB5 | exact HKp.out _ (HBg.out _ _ hB5) | exact HKp.out _ (HBa.out.mono (by omega)) | exact HKp.out _ (HBs.out _ _ _ _ hB5)) (first | (go_at_call 41; refine (HK.out _ HBd.out).mono ?_; rintro e w5 ⟨⟨a1, m1, e1, a2, m2, e2, a3, m3, e3, ok, rfl, hr⟩, h5, hkc⟩; have hB5 := HBe.out w5 h5; have HR : Hid ((∃ c' vs, takeV c l = some c' ∧ ok = true ∧ OC w5 (w.heap.size + 3) (.slice a1 m1 e1) (.slice a2 m2 e2) (.slice a3 m3 e3) vs c') ∨ (takeV c l = none ∧ ok = false)) := hr; clear hr hkc h5) | (go_at_call 41; refine (HK.out _ HBa.out).mono ?_; rintro e w5 ⟨⟨a1, m1, e1, a2, m2, e2, a3, m3, e3, ok, rfl, hr⟩, h5, hkc⟩; have hB5 := HBf.out w5 h5; have HR : Hid ((∃ c' vs, takeV c l = some c' ∧ ok = true ∧ OC w5 (w.heap.size + 3) (.slice a1 m1 e1) (.slice a2 m2 e2) (.slice a3 m3 e3) vs c') ∨ (takeV c l = none ∧ ok = false)) := hr; have hnb := HNb.out w5 hkc; obtain ⟨g0, g1, g2, g3, g4, g5, g6⟩ := zc_cells hnb; clear hr hkc h5) | fail)
            · have HB6 : Hid (Below (w.heap.size + 3) wr (w5.alloc (CO (.slice a1 m1 e1) (.slice a2 m2 e2) (.slice a3 m3 e3)))) := HBg.out w5 _ hB5
              have HR6 : Hid ((∃ c' vs, takeV c l = some c' ∧ ok = true ∧ OC (w5.alloc (CO (.slice a1 m1 e1) (.slice a2 m2 e2) (.slice a3 m3 e3))) (w.heap.size + 3) (.slice a1 m1 e1) (.slice a2 m2 e2) (.slice a3 m3 e3) vs c') ∨ (takeV c l = none ∧ ok = false)) := by
                rcases HR.out with ⟨c', vs', h1, h2, ho⟩ | h
                · exact .inl ⟨c', vs', h1, h2, ho.below ((Below.refl _ w5).alloc (Nat.le_refl _) _)⟩
                · exact .inr h
              have HT6 : Hid ((w5.alloc (CO (.slice a1 m1 e1) (.slice a2 m2 e2) (.slice a3 m3 e3))).heap[w5.heap.size]? = some (.cells #[.slice a1 m1 e1, .slice a2 m2 e2, .slice a3 m3 e3] 26 (0, 0))) := heap_alloc_new w5 _
              generalize (w5.alloc (CO (.slice a1 m1 e1) (.slice a2 m2 e2) (.slice a3 m3 e3))) = w6 at *
              clear z0 z1 z2 y0 y1 y2 x0 x1 x2 q0 q1 q2 f0 f1 f2 HR hB5 HK HKp HBd HBa HBe HBf HBg HBs HNb
              have HN6 : Hid (PN w w6 (.slice r1 N1 d1) (.slice r2 N2 d2) (.slice r3 N3 d3)) := HP.out.away HB6.out
              obtain ⟨⟨z0, z1, z2, y0, y1, y2⟩, ⟨x0, x1, x2⟩, q0, q1, q2, f0, f1, f2⟩ := HN6.out.cells
              have l6 := HN6.out.lt
              have l7 : w5.heap.size < w6.heap.size := (Array.getElem?_eq_some_iff.1 HT6.out).1
              have t0 : w6.cell? ⟨w5.heap.size, 0, none⟩ = some (.slice a1 m1 e1) := by simp [World.cell?, HT6.out]
              have t1 : w6.cell? ⟨w5.heap.size, 1, none⟩ = some (.slice a2 m2 e2) := by simp [World.cell?, HT6.out]
              have t2 : w6.cell? ⟨w5.heap.size, 2, none⟩ = some (.slice a3 m3 e3) := by simp [World.cell?, HT6.out]
              rcases HR6.out with ⟨c', vs', h1, rfl, ho⟩ | ⟨h1, rfl⟩
              · have HV' : Hid (parsedV (B.data.toList.drop (j + 1)) c' (((m + 1 : Nat) : Int) + 1) = parsedV B.data.toList noCd 1) := by
                  show _ = _
                  rw [HT.out, h1]
                  rfl
                have HG' : Hid (Lim c' (j + 1) ∧ GoodC B.size c') := HTk.out c' h1
                have HP' : Hid (PB w (((w6.setCell ⟨w.heap.size + 2, 0, none⟩ (.slice a1 m1 e1)).setCell ⟨w.heap.size + 2, 1, none⟩ (.slice a2 m2 e2)).setCell ⟨w.heap.size + 2, 2, none⟩ (.slice a3 m3 e3)) (.slice a1 m1 e1) (.slice a2 m2 e2) (.slice a3 m3 e3) vs' c') := HN6.out.next ho
                clear HT h1 ho HR6 HT6 HTk
                go_wp2
                go_roundw
                case rel => exact ⟨j + 1, m + 1, _, _, _, vs', c', by go_num, by go_num, by omega, by omega, HV', HG', HP'⟩
                case measure => simp [intOf]; omega
              · have HV2 : Hid (parsedV B.data.toList noCd 1 = (noCd, (m : Int) + 1)) := by show _ = _; rw [HT.out, h1]
                have HN : Hid ((m : Int) + 1 ≠ 0) := by show _ ≠ _; omega
                clear HT h1 HR6 HT6 HTk
                go_wp2
                refine bodyPost_ret (v := .tuple #[nilC, .int .i64 81, .int .i64 ((m : Int) + 1)]) (by simp [nilC, results, Tryz.results14, go_sem, z0, z1, z2]) rfl ⟨parseR_text HV2.out HN.out, HN6.out.fin _ _ _⟩
            · have Hnb : Hid (w5.heap[wr.heap.size]? = some ZC) := hnb
              clear hnb g0 g1 g2 g3 g4 g5 g6
              have HB6 : Hid (Below (w.heap.size + 3) wr (((w5.setCell ⟨wr.heap.size, 0, none⟩ (.slice a1 m1 e1)).setCell ⟨wr.heap.size, 1, none⟩ (.slice a2 m2 e2)).setCell ⟨wr.heap.size, 2, none⟩ (.slice a3 m3 e3))) := HBs.out w5 _ _ _ hB5
              have HR6 : Hid ((∃ c' vs, takeV c l = some c' ∧ ok = true ∧ OC (((w5.setCell ⟨wr.heap.size, 0, none⟩ (.slice a1 m1 e1)).setCell ⟨wr.heap.size, 1, none⟩ (.slice a2 m2 e2)).setCell ⟨wr.heap.size, 2, none⟩ (.slice a3 m3 e3)) (w.heap.size + 3) (.slice a1 m1 e1) (.slice a2 m2 e2) (.slice a3 m3 e3) vs c') ∨ (takeV c l = none ∧ ok = false)) := by
                rcases HR.out with ⟨c', vs', h1, h2, ho⟩ | h
                · exact .inl ⟨c', vs', h1, h2, ho.set3 ⟨_, Hnb.out⟩ _ _ _⟩
                · exact .inr h
              have HT6 : Hid ((((w5.setCell ⟨wr.heap.size, 0, none⟩ (.slice a1 m1 e1)).setCell ⟨wr.heap.size, 1, none⟩ (.slice a2 m2 e2)).setCell ⟨wr.heap.size, 2, none⟩ (.slice a3 m3 e3)).heap[wr.heap.size]? = some (.cells #[.slice a1 m1 e1, .slice a2 m2 e2, .slice a3 m3 e3] 26 (0, 0))) := set_atC (j := 2) (set_atC (j := 1) (set_atC (j := 0) Hnb.out (.slice a1 m1 e1)) (.slice a2 m2 e2)) (.slice a3 m3 e3)
              generalize (((w5.setCell ⟨wr.heap.size, 0, none⟩ (.slice a1 m1 e1)).setCell ⟨wr.heap.size, 1, none⟩ (.slice a2 m2 e2)).setCell ⟨wr.heap.size, 2, none⟩ (.slice a3 m3 e3)) = w6 at *
              clear z0 z1 z2 y0 y1 y2 x0 x1 x2 q0 q1 q2 f0 f1 f2 HR hB5 HK HKp HBd HBa HBe HBf HBg HBs HNb
              have HN6 : Hid (PN w w6 (.slice r1 N1 d1) (.slice r2 N2 d2) (.slice r3 N3 d3)) := HP.out.away HB6.out
              obtain ⟨⟨z0, z1, z2, y0, y1, y2⟩, ⟨x0, x1, x2⟩, q0, q1, q2, f0, f1, f2⟩ := HN6.out.cells
              have l6 := HN6.out.lt
              have l7 : wr.heap.size < w6.heap.size := (Array.getElem?_eq_some_iff.1 HT6.out).1
              have t0 : w6.cell? ⟨wr.heap.size, 0, none⟩ = some (.slice a1 m1 e1) := by simp [World.cell?, HT6.out]
              have t1 : w6.cell? ⟨wr.heap.size, 1, none⟩ = some (.slice a2 m2 e2) := by simp [World.cell?, HT6.out]
              have t2 : w6.cell? ⟨wr.heap.size, 2, none⟩ = some (.slice a3 m3 e3) := by simp [World.cell?, HT6.out]
              rcases HR6.out with ⟨c', vs', h1, rfl, ho⟩ | ⟨h1, rfl⟩
              · have HV' : Hid (parsedV (B.data.toList.drop (j + 1)) c' (((m + 1 : Nat) : Int) + 1) = parsedV B.data.toList noCd 1) := by
                  show _ = _
                  rw [HT.out, h1]
                  rfl
                have HG' : Hid (Lim c' (j + 1) ∧ GoodC B.size c') := HTk.out c' h1
                have HP' : Hid (PB w (((w6.setCell ⟨w.heap.size + 2, 0, none⟩ (.slice a1 m1 e1)).setCell ⟨w.heap.size + 2, 1, none⟩ (.slice a2 m2 e2)).setCell ⟨w.heap.size + 2, 2, none⟩ (.slice a3 m3 e3)) (.slice a1 m1 e1) (.slice a2 m2 e2) (.slice a3 m3 e3) vs' c') := HN6.out.next ho
                clear HT h1 ho HR6 HT6 HTk
                go_wp2
                go_roundw
                case rel => exact ⟨j + 1, m + 1, _, _, _, vs', c', by go_num, by go_num, by omega, by omega, HV', HG', HP'⟩
                case measure => simp [intOf]; omega
              · have HV2 : Hid (parsedV B.data.toList noCd 1 = (noCd, (m : Int) + 1)) := by show _ = _; rw [HT.out, h1]
                have HN : Hid ((m : Int) + 1 ≠ 0) := by show _ ≠ _; omega
                clear HT h1 HR6 HT6 HTk
                go_wp2
                refine bodyPost_ret (v := .tuple #[nilC, .int .i64 81, .int .i64 ((m : Int) + 1)]) (by simp [nilC, results, Tryz.results14, go_sem, z0, z1, z2]) rfl ⟨parseR_text HV2.out HN.out, HN6.out.fin _ _ _⟩
          · have d10 : ((B[j].toNat : Int) == 10) = false := by simp; omega
            have d11 : ((B[j].toNat : Int) != 10) = true := by simp; omega
            have HN : Hid ((10 : UInt8) ∉ (B.data.toList.drop k).take (j + 1 - k)) := by
              show _ ∉ _
              rw [show j + 1 - k = (j - k) + 1 by omega, List.take_add, hdk.out]
              intro hm
              rcases List.mem_append.1 hm with h | h
              · exact H10.out h
              · have : (10 : UInt8) = B[j] := by simpa using h
                exact c10 (by rw [← this]; rfl)
            clear hdj hdk c10 H10
            go_wp2
            go_round
            case rel => exact ⟨j + 1, by go_num, by omega, by omega, HN⟩
            case measure => simp [intOf]; omega
        · have j1 : ¬ (j : Int) < (B.size : Int) := by omega
          have hjB : j = B.size := by omega
          have j2 : ((j : Int) == (B.size : Int)) = true := by simp; omega
          have HV2 : Hid (parsedV B.data.toList noCd 1 = (noCd, (m : Int) + 1)) := by
            show _ = _
            rw [← HV.out]
            refine parsedV_open (line_none10 H10.out (by rw [List.length_drop, ← HL.out]; omega)) (fun e => ?_)
            rw [drop_step B k hlt] at e
            cases e
          have HN : Hid ((m : Int) + 1 ≠ 0) := by show _ ≠ _; omega
          clear hjB HV H10
          go_wp2
          refine bodyPost_ret (v := .tuple #[nilC, .int .i64 81, .int .i64 ((m : Int) + 1)]) (by simp [nilC, results, Tryz.results14, go_sem, z0, z1, z2]) rfl ⟨parseR_text HV2.out HN.out, (HP.out.fin _ _ _).1⟩
    · have hkk : k = B.size := by omega
      have i1 : ¬ (k : Int) < (B.size : Int) := by omega
      have HV2 : Hid (parsedV B.data.toList noCd 1 = (c, 0)) := by show _ = _; rw [← HV.out, drop_all B k (by omega)]; exact parsedV_nil _ _
      clear hkk HV
      have HCk : Hid (Calls Tryz.prog 7 #[.agg #[.slice r1 N1 d1, .slice r2 N2 d2, .slice r3 N3 d3]] wr fun e w' => e = .returned (eppV (chkC c)) ∧ Below wr.heap.size wr w') :=
        dCheck_any c _ _ (HP.out.oc.cv HG.out.2 (by unfold maxLen; omega)) (fun t ht => Nat.le_trans (HG.out.2.gs t ht) (by omega))
      go_wp2_with fail
      refine Calls.mono HCk.out ?_
      rintro e w2 ⟨rfl, hb2⟩
      have HP2 : Hid (PB w w2 (.slice r1 N1 d1) (.slice r2 N2 d2) (.slice r3 N3 d3) vs c) := HP.out.below hb2
      clear z0 z1 z2 y0 y1 y2 x0 x1 x2 q0 q1 q2 f0 f1 f2 hlt3 hb2 HP HCk
      obtain ⟨⟨z0, z1, z2, y0, y1, y2⟩, ⟨x0, x1, x2⟩, q0, q1, q2, f0, f1, f2⟩ := HP2.out.cells
      have hlt3 := HP2.out.lt
      unfold eppV
      generalize hck : chkC c = ck at *
      obtain ⟨e0, p0, qq0⟩ := ck
      have HCK : Hid (chkC c = (e0, p0, qq0)) := hck
      clear hck
      by_cases he0 : e0 = 0
      · subst he0
        go_wp2
        refine bodyPost_ret (v := .tuple #[.agg #[.slice r1 N1 d1, .slice r2 N2 d2, .slice r3 N3 d3], .int .i64 0, .int .i64 0]) (by simp [results, Tryz.results14, go_sem, z0, z1, z2]) rfl ⟨parseR_ok HV2.out HCK.out (HP2.out.fin _ _ _).2 (by rw [← HL.out]; exact HG.out.2), (HP2.out.fin _ _ _).1⟩
      · have hen0 : (e0 == 0) = false := by simpa using he0
        have hen1 : (e0 != 0) = true := by simpa using he0
        have HN : Hid (e0 ≠ 0) := he0
        clear he0
        go_wp2
        refine bodyPost_ret (v := .tuple #[nilC, .int .i64 e0, .int .i64 0]) (by simp [nilC, results, Tryz.results14, go_sem, z0, z1, z2]) rfl ⟨parseR_form HV2.out HCK.out HN.out, (HP2.out.fin _ _ _).1⟩
end Go.Proofs.YtpkohocjgnodnaaGreatDoor
