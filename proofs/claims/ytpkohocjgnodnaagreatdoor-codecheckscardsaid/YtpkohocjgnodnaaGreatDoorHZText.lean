/- The document's Text. -/
import Derived.Test.YtpkohocjgnodnaaGreatDoorGW
namespace Go.Proofs.YtpkohocjgnodnaaGreatDoor
open Go.RowKit

theorem text_in {x y it : List UInt8} (h : it = x ++ ([32] ++ y)) : ((⟨(32 :: x).toArray⟩ ++ ⟨#[32]⟩ ++ ⟨y.toArray⟩) ++ ⟨#[10]⟩ : ByteArray) = ⟨([32] ++ (it ++ [10])).toArray⟩ := by
  subst h
  apply ByteArray.ext
  simp
theorem text_pr (x : List UInt8) : (⟨(112 :: 114 :: 111 :: 99 :: 32 :: x).toArray⟩ ++ ⟨#[10]⟩ : ByteArray) = ⟨([112, 114, 111, 99, 32] ++ (x ++ [10])).toArray⟩ := by
  rfl
theorem text_nl (x : List UInt8) : (⟨(103 :: 108 :: 111 :: 98 :: 97 :: 108 :: 32 :: x).toArray⟩ ++ ⟨#[10]⟩ : ByteArray) = ⟨([103, 108, 111, 98, 97, 108, 32] ++ (x ++ [10])).toArray⟩ := by
  rfl
set_option maxRecDepth 100000 in
set_option maxHeartbeats 16000000 in
theorem dText_any (c : Cd) (v : Value) (w : World) (hv : CV w v c) (hx : ∀ t ∈ c.globals, t.length ≤ 281474976710656) (hlen : (writtenT c).length ≤ 140737488355328) :
    Calls Tryz.prog 8 #[v] w fun e w' => e = .returned (textV c) ∧ Below w.heap.size w w' := by
  have HCh : Hid (∀ w5, Below w.heap.size w w5 → Calls Tryz.prog 7 #[v] w5 fun e w' => e = .returned (eppV (chkC c)) ∧ Below w5.heap.size w5 w') := fun w5 h5 => dCheck_any c v w5 (hv.below h5) hx
  have HC : Hid ((chkC c).1 = 0 → ∀ x ∈ c.consts, (1 ≤ ofT x ∧ ofT x ≤ 7) ∧ (-9223372036854775807 ≤ ofN x ∧ ofN x ≤ 9223372036854775807)) := fun h0 x hx => by
    have h1 := (listsE_ok (chkC_ok h0).1).2.2.2.2.1 x hx
    exact ⟨const_tag h1, const_num h1⟩
  have HP : Hid ((chkC c).1 = 0 → ∀ p ∈ c.procs, (0 ≤ p.params ∧ p.params ≤ 256) ∧ ∀ x ∈ p.code, (0 ≤ x.op ∧ x.op ≤ 18) ∧ (-9223372036854775807 ≤ x.a ∧ x.a ≤ 9223372036854775807)) := fun h0 p hp => by
    obtain ⟨a1, a2⟩ := chkC_ok h0
    refine ⟨(chkP_ok (a2 p hp)).2.2.1, fun x hx => ?_⟩
    obtain ⟨d1, d2⟩ := (chkP_ok (a2 p hp)).2.2.2 x hx
    have d3 := (chkP_ok (a2 p hp)).1
    obtain ⟨l1, l2, l3, _⟩ := listsE_ok a1
    unfold isOpB at d1
    unfold fitsB at d2
    rw [decide_eq_true_eq] at d1 d2
    have q1 : 0 ≤ leastA x.op := by unfold leastA; split <;> omega
    have q2 : mostA c.consts.length c.globals.length c.procs.length p.code.length x.op ≤ 100000 := by unfold mostA; (repeat' split) <;> omega
    exact ⟨⟨by omega, by omega⟩, by omega, by omega⟩
  obtain ⟨⟨r1, c1, r2, c2, r3, c3, rfl, hw, hp, hxr, hc3⟩, hl⟩ := hv
  have HPR : Hid (PR w r2 c.procs) := hp
  have HL : Hid ((writtenT c).length ≤ 140737488355328) := hlen
  have HC0 : Hid (CX w (w.alloc (.cells #[.slice r1 c.consts.length c1, .slice r2 c.procs.length c2, .slice r3 c.globals.length c3] 26)) w.heap.size r1 r2 r3 c.consts.length c.procs.length c.globals.length c1 c2 c3) := ⟨heap_alloc_new _ _, (Below.refl _ w).alloc (Nat.le_refl _) _⟩
  obtain ⟨n1, n2, n3⟩ := hl
  unfold maxLen at n1 n2 n3
  obtain ⟨b1, o1, q1, q2⟩ := WR.at hw
  have Q1 : Hid (c.consts.length ≠ 0 → r1 = some ⟨b1, o1, none⟩) := q1
  have Q2 : Hid (∀ j x, c.consts[j]? = some x → b1 < w.heap.size ∧ w.cell? ⟨b1, o1 + j, none⟩ = some (.int .u64 x) ∧ Rng x) := q2
  obtain ⟨b3, o3, g1, g2⟩ := XR.at hxr
  have G1 : Hid (c.globals.length ≠ 0 → r3 = some ⟨b3, o3, none⟩) := g1
  have G2 : Hid (∀ j x, c.globals[j]? = some x → b3 < w.heap.size ∧ w.cell? ⟨b3, o3 + j, none⟩ = some (S x) ∧ x.length ≤ maxLen) := g2
  clear hw hp hxr hx hlen hc3 q1 q2 g1 g2
  go_enter Tryz.func8, Tryz.ntmps8
  go_wp2_with fail
  refine (HCh.out _ HC0.out.b).mono ?_
  rintro e w1 ⟨rfl, hb1⟩
  have HC1 : Hid (CX w w1 w.heap.size r1 r2 r3 c.consts.length c.procs.length c.globals.length c1 c2 c3) := HC0.out.below hb1
  clear hb1 HCh HC0
  have HV : Hid (textV c = if (chkC c).1 = 0 then .tuple #[S (writtenT c), .int .i64 0] else .tuple #[S [], .int .i64 (chkC c).1]) := by show _ = _; rfl
  generalize chkC c = r at HV HC HP ⊢
  obtain ⟨er, pr, pl⟩ := r
  unfold eppV
  obtain ⟨bc, hbc⟩ : ∃ bc, bc = w.heap.size := ⟨_, rfl⟩
  rw [← hbc] at HC1 ⊢
  have Hbc : Hid (bc = w.heap.size) := hbc
  clear hbc
  have hs1 : bc < w1.heap.size := heap_lt HC1.out.h
  by_cases her : er = 0
  · subst her
    have HV2 : Hid (textV c = .tuple #[S (writtenT c), .int .i64 0]) := by show _ = _; rw [HV.out]; rfl
    have HC2 : Hid (∀ x ∈ c.consts, (1 ≤ ofT x ∧ ofT x ≤ 7) ∧ (-9223372036854775807 ≤ ofN x ∧ ofN x ≤ 9223372036854775807)) := HC.out rfl
    have HP2 : Hid (∀ p ∈ c.procs, (0 ≤ p.params ∧ p.params ≤ 256) ∧ ∀ x ∈ p.code, (0 ≤ x.op ∧ x.op ≤ 18) ∧ (-9223372036854775807 ≤ x.a ∧ x.a ≤ 9223372036854775807)) := HP.out rfl
    clear HV HC HP
    have HK0 : Hid (Below w1.heap.size w1 w1) := Below.refl _ _
    have HU0 : Hid (BO w1.heap.size [] (.slice none 0 0) w1) := World.ownsRow_nil _ _ _ _
    go_wp2_with fail
    go_loopw [7, 8] (fun vb i wr => ∃ (j : Nat) (m : List UInt8), i = .int .i64 j ∧ j ≤ c.consts.length ∧ Hid (m ++ (constsT (c.consts.drop j) ++ (globsT c.globals ++ procsT c.procs)) = writtenT c) ∧ Hid (BO w1.heap.size m vb wr) ∧ Hid (Below w1.heap.size w1 wr)) (fun _ i _ => c.consts.length - (intOf i).toNat)
    case atStart => exact ⟨0, [], rfl, Nat.zero_le _, by show _ = _; simp [writtenT], HU0, HK0⟩
    case round =>
      obtain ⟨j, m, rfl, hj, HM, HU, HK⟩ := hrel
      have HBw : Hid (Below w.heap.size w wr) := HC1.out.b.trans (HK.out.mono HC1.out.b.size)
      have hBr : w1.heap.size ≤ wr.heap.size := HK.out.size
      obtain ⟨u0, u1, u2, lu⟩ := (HC1.out.below HK.out).at
      by_cases hlt : j < c.consts.length
      · have i1 : (j : Int) < (c.consts.length : Int) := by omega
        have hra := Q1.out (by omega)
        subst hra
        have hx : c.consts[j]? = some c.consts[j] := List.getElem?_eq_getElem hlt
        have hdr : c.consts.drop j = c.consts[j] :: c.consts.drop (j + 1) := List.drop_eq_getElem_cons hlt
        generalize c.consts[j] = x at hx hdr
        obtain ⟨k0, k1, k2⟩ := Q2.out j x hx
        have f1 : wr.cell? ⟨b1, o1 + j, none⟩ = some (.int .u64 x) := (HBw.out.cell (p := ⟨b1, o1 + j, none⟩) k0).trans k1
        have f0 : b1 < wr.heap.size := Nat.lt_of_lt_of_le k0 HBw.out.size
        obtain ⟨ln, hln⟩ : ∃ ln, ln = [99, 111, 110, 115, 116, 32] ++ (constT x ++ [10]) := ⟨_, rfl⟩
        have HM2 : Hid (m ++ (ln ++ constsT (c.consts.drop (j + 1)) ++ (globsT c.globals ++ procsT c.procs)) = writtenT c) := by show _ = _; rw [← HM.out, hdr, hln]; rfl
        have HLn : Hid (m.length + ln.length ≤ 140737488355328) := by
          show _ ≤ _
          have h5 := congrArg List.length HM2.out
          have h6 := HL.out
          simp only [List.length_append] at h5 ⊢
          omega
        have HCt : Hid (Calls Tryz.prog 25 #[.int .u64 x] wr fun e w' => e = .returned (S ln) ∧ Below wr.heap.size wr w') := by
          have u := HC2.out x (List.mem_of_getElem? hx)
          rw [hln]
          exact dConst_any x wr k2 u.1 u.2
        clear hx hdr k0 k1 k2 hln
        go_wp2_with fail
        refine Calls.mono HCt.out ?_
        rintro e w3 ⟨rfl, hb3⟩
        have HU3 : Hid (BO w1.heap.size m u7 w3) := HU.out.below hb3
        have HK3 : Hid (Below w1.heap.size w1 w3) := HK.out.trans (hb3.mono hBr)
        have hB3 : w1.heap.size ≤ w3.heap.size := Nat.le_trans hBr hb3.size
        clear hb3 HCt
        go_wp2_with (at_builtin; refine wpList_append_text rfl _ _ rfl w1.heap.size m ln _ _ rfl rfl rfl HU3.out HLn.out hB3 ?_; intro v4 w4 hu4 hb4 _)
        go_roundw
        case rel =>
          refine ⟨j + 1, m ++ ln, by go_num, by omega, ?_, hu4, HK3.out.trans hb4⟩
          show _ = _
          rw [← HM2.out]; simp only [List.append_assoc]
        case measure => simp [intOf]; omega
      · have i1 : ¬ (j : Int) < (c.consts.length : Int) := by omega
        have HM3 : Hid (m ++ (globsT c.globals ++ procsT c.procs) = writtenT c) := by show _ = _; rw [← HM.out, List.drop_of_length_le (by omega)]; rfl
        clear HM hlt hj
        go_wp2_with fail
        clear i1
        go_loopw [7, 9] (fun vb i wr => ∃ (j : Nat) (m : List UInt8), i = .int .i64 j ∧ j ≤ c.globals.length ∧ Hid (m ++ (globsT (c.globals.drop j) ++ procsT c.procs) = writtenT c) ∧ Hid (BO w1.heap.size m vb wr) ∧ Hid (Below w1.heap.size w1 wr)) (fun _ i _ => c.globals.length - (intOf i).toNat)
        case atStart => exact ⟨0, m, rfl, Nat.zero_le _, by show _ = _; simpa using HM3.out, HU, HK⟩
        case round =>
          clear HM3 HU HK HBw hBr u0 u1 u2 lu
          obtain ⟨j, m, rfl, hj, HM, HU, HK⟩ := hrel
          have HBw : Hid (Below w.heap.size w wr) := HC1.out.b.trans (HK.out.mono HC1.out.b.size)
          have hBr : w1.heap.size ≤ wr.heap.size := HK.out.size
          obtain ⟨u0, u1, u2, lu⟩ := (HC1.out.below HK.out).at
          by_cases hlt : j < c.globals.length
          · have i1 : (j : Int) < (c.globals.length : Int) := by omega
            have hra := G1.out (by omega)
            subst hra
            have hx : c.globals[j]? = some c.globals[j] := List.getElem?_eq_getElem hlt
            have hdr : c.globals.drop j = c.globals[j] :: c.globals.drop (j + 1) := List.drop_eq_getElem_cons hlt
            generalize c.globals[j] = x at hx hdr
            obtain ⟨k0, k1, k2⟩ := G2.out j x hx
            have f1 : wr.cell? ⟨b3, o3 + j, none⟩ = some (S x) := (HBw.out.cell (p := ⟨b3, o3 + j, none⟩) k0).trans k1
            have f0 : b3 < wr.heap.size := Nat.lt_of_lt_of_le k0 HBw.out.size
            have HM2 : Hid (m ++ (([103, 108, 111, 98, 97, 108, 32] ++ (x ++ [10])) ++ globsT (c.globals.drop (j + 1)) ++ procsT c.procs) = writtenT c) := by show _ = _; rw [← HM.out, hdr]; rfl
            have HLn : Hid (m.length + ([103, 108, 111, 98, 97, 108, 32] ++ (x ++ [(10 : UInt8)])).length ≤ 140737488355328) := by
              show _ ≤ _
              have h5 := congrArg List.length HM2.out
              have h6 := HL.out
              simp only [List.length_append, List.length_cons, List.length_nil] at h5 ⊢
              omega
            have hxl : x.length ≤ 140737488355328 := by
              have h5 := HLn.out
              simp only [List.length_append, List.length_cons, List.length_nil] at h5
              omega
            clear hx hdr k0 k1 k2
            go_wp2_with (at_builtin; refine wpList_append_text rfl _ _ rfl w1.heap.size m ([103, 108, 111, 98, 97, 108, 32] ++ (x ++ [10])) _ _ rfl rfl (text_nl x) HU.out HLn.out hBr ?_; intro v4 w4 hu4 hb4 _)
            go_roundw
            case rel =>
              refine ⟨j + 1, _, by go_num, by omega, ?_, hu4, HK.out.trans hb4⟩
              show _ = _
              rw [← HM2.out]; simp only [List.append_assoc]
            case measure => simp [intOf]; omega
          · have i1 : ¬ (j : Int) < (c.globals.length : Int) := by omega
            have HM3 : Hid (m ++ procsT c.procs = writtenT c) := by show _ = _; rw [← HM.out, List.drop_of_length_le (by omega)]; rfl
            clear HM hlt hj
            go_wp2_with fail
            refine (dNames_any _).mono ?_
            rintro e wN ⟨⟨bN, rfl, hN⟩, hbN⟩
            have HN0 : Hid (NS wN bN) := hN
            have HUN : Hid (BO w1.heap.size m _ wN) := HU.out.below hbN
            have HKN : Hid (Below w1.heap.size w1 wN) := HK.out.trans (hbN.mono hBr)
            clear hN hbN HU HK HBw hBr u0 u1 u2 lu i1
            go_wp2_with fail
            go_loopw [7, 11, 12, 13, 14] (fun vb i _ _ _ wr => ∃ (j : Nat) (m : List UInt8), i = .int .i64 j ∧ j ≤ c.procs.length ∧ Hid (m ++ procsT (c.procs.drop j) = writtenT c) ∧ Hid (BO w1.heap.size m vb wr) ∧ Hid (Below w1.heap.size w1 wr) ∧ Hid (NS wr bN)) (fun _ i _ _ _ _ => c.procs.length - (intOf i).toNat)
            case atStart => exact ⟨0, m, rfl, Nat.zero_le _, by show _ = _; simpa using HM3.out, HUN, HKN, HN0⟩
            case round =>
              clear HM3 HUN HKN HN0
              obtain ⟨j, m, rfl, hj, HM, HU, HK, HN⟩ := hrel
              obtain ⟨wA, rfl⟩ : ∃ wA, wA = wr := ⟨wr, rfl⟩
              have HBw : Hid (Below w.heap.size w wA) := HC1.out.b.trans (HK.out.mono HC1.out.b.size)
              have hBr : w1.heap.size ≤ wA.heap.size := HK.out.size
              obtain ⟨u0, u1, u2, lu⟩ := (HC1.out.below HK.out).at
              by_cases hlt : j < c.procs.length
              · have i1 : (j : Int) < (c.procs.length : Int) := by omega
                obtain ⟨b2, o2, p1, p2⟩ := PR.at HPR.out
                have hra := p1 (by omega)
                subst hra
                have hx : c.procs[j]? = some c.procs[j] := List.getElem?_eq_getElem hlt
                have hdr : c.procs.drop j = c.procs[j] :: c.procs.drop (j + 1) := List.drop_eq_getElem_cons hlt
                generalize c.procs[j] = x at hx hdr
                obtain ⟨k0, k1, ⟨rc, cc, k2, k3⟩, k4⟩ := p2 j x hx
                have hpx := HP2.out x (List.mem_of_getElem? hx)
                have HPX : Hid (∀ y ∈ x.code, (0 ≤ y.op ∧ y.op ≤ 18) ∧ (-9223372036854775807 ≤ y.a ∧ y.a ≤ 9223372036854775807)) := hpx.2
                have HF : Hid (∀ w5, Below w.heap.size w w5 → w5.cell? ⟨b2, o2 + j * 2, none⟩ = some (.int .i64 x.params) ∧ w5.cell? ⟨b2, o2 + j * 2 + 1, none⟩ = some (.slice rc x.code.length cc) ∧ b2 < w5.heap.size) := fun w5 h5 => ⟨(h5.cell (p := ⟨b2, o2 + j * 2, none⟩) k0).trans k1, (h5.cell (p := ⟨b2, o2 + j * 2 + 1, none⟩) k0).trans k2, Nat.lt_of_lt_of_le k0 h5.size⟩
                obtain ⟨f1, f2, f0⟩ := HF.out wA HBw.out
                have HM2 : Hid (m ++ ((([112, 114, 111, 99, 32] ++ (Lib.itoa x.params ++ [10])) ++ codeT x.code) ++ procsT (c.procs.drop (j + 1))) = writtenT c) := by show _ = _; rw [← HM.out, hdr]; rfl
                have HDg : Hid (∀ w5, Calls Tryz.prog 27 #[.int .i64 x.params] w5 fun e w' => e = .returned (S (Lib.itoa x.params)) ∧ Below w5.heap.size w5 w') := fun w5 => digits_any _ (by omega) (by omega) w5
                have hil : (Lib.itoa x.params).length ≤ 100 := Nat.le_trans (Lib.itoa_length_le _ (by omega) (by omega)) (by decide)
                generalize Lib.itoa x.params = dg at HM2 HDg hil
                have HLn : Hid (m.length + ([112, 114, 111, 99, 32] ++ (dg ++ [(10 : UInt8)])).length ≤ 140737488355328) := by
                  show _ ≤ _
                  have h5 := congrArg List.length HM2.out
                  have h6 := HL.out
                  simp only [List.length_append, List.length_cons, List.length_nil] at h5 ⊢
                  omega
                have HNR : Hid (NR w rc x.code) := k3
                have n4 : x.code.length ≤ 2 ^ 63 - 1 := k4
                clear hx hdr k0 k1 k2 k3 k4 hpx p1 p2 HM
                go_wp2_with fail
                refine (HDg.out _).mono ?_
                rintro e w3 ⟨rfl, hb3⟩
                have HU3 : Hid (BO w1.heap.size m _ w3) := HU.out.below hb3
                have HK3 : Hid (Below w1.heap.size w1 w3) := HK.out.trans (hb3.mono hBr)
                have HN3 : Hid (NS w3 bN) := HN.out.below hb3
                have hB3 : w1.heap.size ≤ w3.heap.size := Nat.le_trans hBr hb3.size
                clear hb3 HDg f1 f2 f0 u0 u1 u2 lu HBw
                go_wp2_with (at_builtin; refine wpList_append_text rfl _ _ rfl w1.heap.size m ([112, 114, 111, 99, 32] ++ (dg ++ [10])) _ _ rfl rfl (text_pr dg) HU3.out HLn.out hB3 ?_; intro v4 w4 hu4 hb4 hg4)
                have HU4 : Hid (BO w1.heap.size (m ++ ([112, 114, 111, 99, 32] ++ (dg ++ [10]))) v4 w4) := hu4
                have HK4 : Hid (Below w1.heap.size w1 w4) := HK3.out.trans hb4
                have HN4 : Hid (NS w4 bN) := HN3.out.grown HU3.out hg4
                clear hu4 hb4 hg4 hil
                go_wp2_with fail
                go_loopw [7, 12, 13, 14] (fun vb i _ _ wr => ∃ (k : Nat) (m : List UInt8), i = .int .i64 k ∧ k ≤ x.code.length ∧ Hid (m ++ (codeT (x.code.drop k) ++ procsT (c.procs.drop (j + 1))) = writtenT c) ∧ Hid (BO w1.heap.size m vb wr) ∧ Hid (Below w1.heap.size w1 wr) ∧ Hid (NS wr bN)) (fun _ i _ _ _ => x.code.length - (intOf i).toNat)
                case atStart => exact ⟨0, _, rfl, Nat.zero_le _, by show _ = _; rw [← HM2.out]; simp only [List.append_assoc, List.drop_zero], HU4, HK4, HN4⟩
                case round =>
                  clear HU4 HK4 HN4 HU3 HK3 HN3 HU HK HN HM2 HLn hBr hB3
                  obtain ⟨k, m', rfl, hk, HM', HU, HK, HN⟩ := hrel
                  have HBw : Hid (Below w.heap.size w wr) := HC1.out.b.trans (HK.out.mono HC1.out.b.size)
                  have hBr : w1.heap.size ≤ wr.heap.size := HK.out.size
                  obtain ⟨u0, u1, u2, lu⟩ := (HC1.out.below HK.out).at
                  obtain ⟨f1, f2, f0⟩ := HF.out wr HBw.out
                  by_cases hlt2 : k < x.code.length
                  · have i2 : (k : Int) < (x.code.length : Int) := by omega
                    obtain ⟨b4, o4, t1, t2⟩ := NR.at HNR.out
                    have hrc := t1 (by omega)
                    subst hrc
                    have hy : x.code[k]? = some x.code[k] := List.getElem?_eq_getElem hlt2
                    have hdy : x.code.drop k = x.code[k] :: x.code.drop (k + 1) := List.drop_eq_getElem_cons hlt2
                    generalize x.code[k] = y at hy hdy
                    obtain ⟨k0, k1, k2⟩ := t2 k y hy
                    have hpy := HPX.out y (List.mem_of_getElem? hy)
                    have f4 : wr.cell? ⟨b4, o4 + k * 2, none⟩ = some (.int .u8 y.op) := (HBw.out.cell (p := ⟨b4, o4 + k * 2, none⟩) k0).trans k1
                    have f5 : wr.cell? ⟨b4, o4 + k * 2 + 1, none⟩ = some (.int .i64 y.a) := (HBw.out.cell (p := ⟨b4, o4 + k * 2 + 1, none⟩) k0).trans k2
                    have f6 : b4 < wr.heap.size := Nat.lt_of_lt_of_le k0 HBw.out.size
                    have HM4 : Hid (m' ++ ((([32] ++ (instrT y ++ [10])) ++ codeT (x.code.drop (k + 1))) ++ procsT (c.procs.drop (j + 1))) = writtenT c) := by show _ = _; rw [← HM'.out, hdy]; rfl
                    have HLm : Hid (m'.length + ([32] ++ (instrT y ++ [(10 : UInt8)])).length ≤ 140737488355328) := by
                      show _ ≤ _
                      have h5 := congrArg List.length HM4.out
                      have h6 := HL.out
                      simp only [List.length_append, List.length_cons, List.length_nil] at h5 ⊢
                      omega
                    obtain ⟨yo, ya⟩ := y
                    obtain ⟨n, hn⟩ : ∃ n : Nat, yo = (n : Int) := ⟨yo.toNat, by have := hpy.1.1; show yo = (yo.toNat : Int); simp only at this; omega⟩
                    subst hn
                    have i3 : (n : Int) < 19 := by have := hpy.1.2; simp only at this; omega
                    have HDg : Hid (∀ w5, Calls Tryz.prog 27 #[.int .i64 ya] w5 fun e w' => e = .returned (S (Lib.itoa ya)) ∧ Below w5.heap.size w5 w') := fun w5 => digits_any _ hpy.2.1 hpy.2.2 w5
                    have hil : (Lib.itoa ya).length ≤ 100 := Nat.le_trans (Lib.itoa_length_le _ (by have := hpy.2.1; simp only at this; omega) (by have := hpy.2.2; simp only at this; omega)) (by decide)
                    have HV : Hid (instrT ⟨n, ya⟩ = if opNumB n then opNames.getD n [] ++ ([32] ++ Lib.itoa ya) else opNames.getD n []) := rfl
                    obtain ⟨f7, f8⟩ := HN.out.at (j := n) (by omega)
                    have hnl := opNames_len n (by omega)
                    generalize Lib.itoa ya = dg' at HDg hil HV
                    generalize opNames.getD n [] = nm at f7 hnl HV
                    generalize instrT ⟨n, ya⟩ = it at HV HM4 HLm
                    have HHa : Hid (∀ w5, Calls Tryz.prog 28 #[.int .u8 (n : Int)] w5 fun e w' => e = .returned (.bool (opNumB n)) ∧ w' = w5) := fun w5 => dHas_any n w5
                    simp only at f4 f5
                    clear hy hdy k0 k1 k2 hpy t1 t2 HM'
                    have HAl : Hid (Below wr.heap.size wr (wr.alloc (.cells #[.int .u8 (n : Int), .int .i64 ya] 79))) := (Below.refl _ wr).alloc (Nat.le_refl _) _
                    generalize opNumB n = hb at HV HHa
                    cases hb
                    · have HV2 : Hid (it = nm) := by show _ = _; rw [HV.out]; rfl
                      clear HV
                      go_wp2_with fail
                      refine (HHa.out _).mono ?_
                      rintro e w5 ⟨rfl, hw5⟩
                      have HB5 : Hid (Below wr.heap.size wr w5) := by rw [hw5]; exact HAl.out
                      have HU5 : Hid (BO w1.heap.size m' _ w5) := HU.out.below HB5.out
                      have HN5 : Hid (NS w5 bN) := HN.out.below HB5.out
                      have HK5 : Hid (Below w1.heap.size w1 w5) := HK.out.trans (HB5.out.mono hBr)
                      have hB5 : w1.heap.size ≤ w5.heap.size := HK5.out.size
                      clear hw5 HDg hil u0 u1 u2 lu f1 f2 f0 f4 f5 f6 f7 f8 HAl
                      go_wp2_with (at_builtin; refine wpList_append_text rfl _ _ rfl w1.heap.size m' ([32] ++ (it ++ [10])) _ _ rfl rfl (by rw [HV2.out]; rfl) HU5.out HLm.out hB5 ?_; intro v6 w6 hu6 hb6 hg6)
                      have HN6 : Hid (NS w6 bN) := HN5.out.grown HU5.out hg6
                      go_roundw
                      case rel =>
                        refine ⟨k + 1, _, by go_num, by omega, ?_, hu6, HK5.out.trans hb6, HN6⟩
                        show _ = _
                        rw [← HM4.out]; simp only [List.append_assoc]
                      case measure => simp [intOf]; omega
                    · have HV2 : Hid (it = nm ++ ([32] ++ dg')) := by show _ = _; rw [HV.out]; rfl
                      clear HV
                      go_wp2_with fail
                      refine (HHa.out _).mono ?_
                      rintro e w5 ⟨rfl, hw5⟩
                      have HB5 : Hid (Below wr.heap.size wr w5) := by rw [hw5]; exact HAl.out
                      have v0 : w5.cell? ⟨wr.heap.size, 0, none⟩ = some (.int .u8 (n : Int)) := by rw [hw5]; exact heap_cell (heap_alloc_new _ _) rfl
                      have v1 : w5.cell? ⟨wr.heap.size, 1, none⟩ = some (.int .i64 ya) := by rw [hw5]; exact heap_cell (heap_alloc_new _ _) rfl
                      have lv : wr.heap.size < w5.heap.size := by rw [hw5]; simp
                      clear hw5 u0 u1 u2 lu f1 f2 f0 f4 f5 f6 f7 f8 HAl
                      go_wp2_with fail
                      refine (HDg.out _).mono ?_
                      rintro e w7 ⟨rfl, hb7⟩
                      have HB7 : Hid (Below wr.heap.size wr w7) := HB5.out.trans (hb7.mono HB5.out.size)
                      have HU7 : Hid (BO w1.heap.size m' _ w7) := HU.out.below HB7.out
                      have HN7 : Hid (NS w7 bN) := HN.out.below HB7.out
                      have HK7 : Hid (Below w1.heap.size w1 w7) := HK.out.trans (HB7.out.mono hBr)
                      have hB7 : w1.heap.size ≤ w7.heap.size := HK7.out.size
                      clear hb7 v0 v1 lv HDg HB5 HB7
                      go_wp2_with (at_builtin; refine wpList_append_text rfl _ _ rfl w1.heap.size m' ([32] ++ (it ++ [10])) _ _ rfl rfl (text_in HV2.out) HU7.out HLm.out hB7 ?_; intro v6 w6 hu6 hb6 hg6)
                      have HN6 : Hid (NS w6 bN) := HN7.out.grown HU7.out hg6
                      go_roundw
                      case rel =>
                        refine ⟨k + 1, _, by go_num, by omega, ?_, hu6, HK7.out.trans hb6, HN6⟩
                        show _ = _
                        rw [← HM4.out]; simp only [List.append_assoc]
                      case measure => simp [intOf]; omega
                  · have i2 : ¬ (k : Int) < (x.code.length : Int) := by omega
                    have HM5 : Hid (m' ++ procsT (c.procs.drop (j + 1)) = writtenT c) := by show _ = _; rw [← HM'.out, show x.code.drop k = [] from List.drop_of_length_le (by omega)]; rfl
                    go_wp2
                    go_roundw
                    case rel => exact ⟨j + 1, m', by go_num, by omega, HM5, HU, HK, HN⟩
                    case measure => simp [intOf]; omega
              · have i1 : ¬ (j : Int) < (c.procs.length : Int) := by omega
                have HM3 : Hid (m = writtenT c) := by show _ = _; rw [← HM.out, List.drop_of_length_le (by omega)]; simp [procsT]
                have hcv := conv_own HU.out
                go_wp2
                go_ret2
                exact ⟨by rw [HV2.out, ← HM3.out]; rfl, HBw.out⟩
  · have HV2 : Hid (textV c = .tuple #[S [], .int .i64 er]) := by show _ = _; rw [HV.out, if_neg her]
    clear HV HC HP
    go_wp2
    go_ret2
    exact ⟨by rw [HV2.out]; rfl, HC1.out.b⟩
end Go.Proofs.YtpkohocjgnodnaaGreatDoor
