/- labels: how many labels a text gives, and how many it comes back to.; How much is handed in. -/
import Derived.Test.YtejmoopgfnjaaaaDoorK12
import Derived.Test.YtejmoopgfnjaaaaDoorK14
import Derived.Test.YtejmoopgfnjaaaaDoorK27
import Derived.Deep.CutBlock
/- labels: how many labels a text gives, and how many it comes back to. -/
namespace Go.Proofs.YtejmoopgfnjaaaaDoor
open Go.RowKit

/-- What the signs ahead say. -/
def lA (T : List UInt8) (j : Nat) : Nat × Nat × Nat := lrun 0 (T.take j)
theorem lA_step {T : List UInt8} {j : Nat} {b : UInt8} (h : T[j]? = some b) : lA T (j + 1) = ((lstep (lA T j).1 b).1, (lA T j).2.1 + (lstep (lA T j).1 b).2.1, (lA T j).2.2 + (lstep (lA T j).1 b).2.2) := by
  unfold lA
  rw [List.take_add_one, h]
  show lrun 0 (T.take j ++ [b]) = _
  rw [lrun_app, lrun_cons]
  simp [lrun]
theorem lstep_le (s : Nat) (b : UInt8) : (lstep s b).2.1 ≤ 1 ∧ (lstep s b).2.2 ≤ 1 := by
  unfold lstep
  repeat' split
  all_goals simp
theorem lA_le (T : List UInt8) : ∀ j, (lA T j).2.1 ≤ j ∧ (lA T j).2.2 ≤ j
  | 0 => by simp [lA, lrun]
  | j + 1 => by
    have ih := lA_le T j
    cases h : T[j]? with
    | none =>
      have e : lA T (j + 1) = lA T j := by unfold lA; rw [List.take_add_one, h]; simp
      rw [e]; omega
    | some b =>
      rw [lA_step h]
      have := lstep_le (lA T j).1 b
      dsimp only
      omega
theorem lA_all {T : List UInt8} {j : Nat} (h : T.length ≤ j) : lA T j = lrun 0 T := by unfold lA; rw [List.take_of_length_le h]
/-- Behind a sign that is no digit: no label's digits. -/
theorem lA_no {T : List UInt8} {p : Nat} {b : UInt8} (h : T[p]? = some b) (hb : isD b = false) : ¬ (lA T (p + 1)).1 = 2 ∧ ((lA T (p + 1)).1 = 1 ↔ b = 35) := by
  rw [lA_step h]
  unfold lstep
  rw [if_neg (by rw [hb]; decide)]
  by_cases h1 : b = 35
  · simp [h1]
  · simp only [if_neg h1]
    split <;> simp [h1]
theorem lA_dig {T : List UInt8} {p : Nat} {b : UInt8} (h : T[p]? = some b) (hb : isD b = true) : ((lA T (p + 1)).1 = 2 ↔ ((lA T p).1 = 1 ∨ (lA T p).1 = 2)) ∧ ¬ (lA T (p + 1)).1 = 1 := by
  rw [lA_step h]
  unfold lstep
  rw [if_pos hb]
  dsimp only
  split
  · rename_i h1; simp [h1]
  · rename_i h1; simp [h1]
theorem lA_cnt {T : List UInt8} {j : Nat} {b : UInt8} (h : T[j]? = some b) : (lA T (j + 1)).2.1 = (lA T j).2.1 + (if (lA T j).1 = 2 ∧ b = 61 then 1 else 0) ∧ (lA T (j + 1)).2.2 = (lA T j).2.2 + (if (lA T j).1 = 2 ∧ b = 35 then 1 else 0) := by
  rw [lA_step h]
  unfold lstep
  by_cases hd : isD b = true
  · rw [if_pos hd]
    have h1 : ¬ b = 61 := fun e => by rw [e] at hd; exact absurd hd (by decide)
    have h2 : ¬ b = 35 := fun e => by rw [e] at hd; exact absurd hd (by decide)
    simp [h1, h2]
  · rw [if_neg hd]
    by_cases h2 : b = 35
    · subst h2
      simp
    · rw [if_neg h2]
      by_cases h1 : b = 61
      · subst h1
        simp
      · rw [if_neg h1]
        simp [h1, h2]
theorem at_byte (s : ByteArray) (k : Nat) (h : k < s.size) : s.data.toList[k]? = some s[k] := by
  rw [Array.getElem?_toList]
  exact Array.getElem?_eq_getElem h
theorem isD_byte (b : UInt8) : isD b = (decide (48 ≤ (b.toNat : Int)) && decide ((b.toNat : Int) ≤ 57)) := by
  unfold isD isDI; rfl
theorem eq_byte {b : UInt8} {n : Nat} (hn : n < 256) : b = UInt8.ofNat n ↔ ((b.toNat : Int) = (n : Int)) := by
  constructor
  · intro h; rw [h, UInt8.toNat_ofNat']; omega
  · intro h
    apply UInt8.toNat_inj.1
    rw [UInt8.toNat_ofNat']
    omega
set_option maxRecDepth 100000 in
set_option maxHeartbeats 8000000 in
theorem labels_any (s : ByteArray) (w : World) (hs : s.size ≤ 100000000) :
    Calls Tryd.prog 13 #[.string s] w fun e w' => e = .returned (.tuple #[.int .i64 ((lrun 0 s.data.toList).2.1 : Nat), .int .i64 ((lrun 0 s.data.toList).2.2 : Nat)]) ∧ w' = w := by
  obtain ⟨T, hT⟩ : ∃ T, T = s.data.toList := ⟨_, rfl⟩
  have HT : Hid (T = s.data.toList) := hT
  have HL : Hid (T.length = s.size) := by show _ = _; rw [hT, size_len]
  rw [← hT]
  clear hT
  go_enter Tryd.func13, Tryd.ntmps13
  go_wp2
  go_loop [4, 5, 6, 7, 8] (fun g b i _ _ => ∃ (j : Nat) (G B : Nat), g = .int .i64 G ∧ b = .int .i64 B ∧ i = .int .i64 j ∧ 1 ≤ j ∧ j ≤ s.size + 1 ∧ Hid (G = (lA T j).2.1 ∧ B = (lA T j).2.2) ∧ G ≤ 200000000 ∧ B ≤ 200000000) (fun _ _ i _ _ => s.size + 1 - (intOf i).toNat)
  case atStart =>
    refine ⟨1, 0, 0, rfl, rfl, rfl, Nat.le_refl _, by omega, ?_, by omega, by omega⟩
    show _ ∧ _
    cases h : T[0]? with
    | none =>
      have e : T = [] := by simpa using h
      rw [e]; exact ⟨rfl, rfl⟩
    | some b =>
      have := lA_cnt h
      have z : lA T 0 = (0, 0, 0) := rfl
      rw [z] at this
      simpa using ⟨this.1.symm, this.2.symm⟩
  case round =>
    obtain ⟨j, G, B, rfl, rfl, rfl, hj1, hj2, HGB, hG, hB⟩ := hrel
    by_cases hlt : j < s.size
    · have k1 : (j : Int) < (s.size : Int) := by omega
      obtain ⟨p, hp⟩ : ∃ p, p + 1 = j := ⟨j - 1, by omega⟩
      have e1 : (j : Int) - 1 = (p : Int) := by omega
      have hps : p < s.size := by omega
      have hb1 := byte_le s p hps
      have hb2 := byte_le s j hlt
      have HP : Hid (T[p]? = some s[p]) := by show _ = _; rw [HT.out]; exact at_byte s p hps
      have HJ : Hid (T[j]? = some s[j]) := by show _ = _; rw [HT.out]; exact at_byte s j hlt
      have HPJ : Hid (p + 1 = j) := hp
      have HD := isD_byte s[p]
      have HC : Hid _ := lA_cnt HJ.out
      clear hp
      by_cases hd1 : (48 : Int) ≤ (s[p].toNat : Int)
      · by_cases hd2 : (s[p].toNat : Int) ≤ 57
        · have HDT : Hid (isD s[p] = true) := by show _ = _; rw [HD]; simp [hd1, hd2]
          clear HD
          go_upto_block 2 with fail
          go_cut [7] from 9 to 73 (fun v wx => ∃ (k : Nat), v = .int .i64 k ∧ k ≤ p ∧ Hid (((lA T j).1 = 2 ↔ ((lA T k).1 = 1 ∨ (lA T k).1 = 2)) ∧ (k = 0 ∨ ∃ (k' : Nat) (hk : k' < s.size), k' + 1 = k ∧ isD s[k'] = false)) ∧ wx = w)
          case first =>
            go_wp2
            go_loop [7] (fun v => ∃ (k : Nat), v = .int .i64 k ∧ k ≤ p ∧ Hid ((lA T j).1 = 2 ↔ ((lA T k).1 = 1 ∨ (lA T k).1 = 2))) (fun v => (intOf v).toNat)
            case atStart =>
              refine ⟨p, rfl, Nat.le_refl _, ?_⟩
              show _ ↔ _
              rw [← HPJ.out]
              exact (lA_dig HP.out HDT.out).1
            case round =>
              obtain ⟨k, rfl, hkp, HK⟩ := hrel
              by_cases hk0 : 0 < k
              · have i1 : (k : Int) > 0 := by omega
                obtain ⟨k', hk'⟩ : ∃ k', k' + 1 = k := ⟨k - 1, by omega⟩
                have e2 : (k : Int) - 1 = (k' : Int) := by omega
                have hks : k' < s.size := by omega
                have hb3 := byte_le s k' hks
                have HK' : Hid (T[k']? = some s[k'] ∧ k' + 1 = k) := ⟨by rw [HT.out]; exact at_byte s k' hks, hk'⟩
                have HDk := isD_byte s[k']
                clear hk'
                by_cases hq1 : (48 : Int) ≤ (s[k'].toNat : Int)
                · by_cases hq2 : (s[k'].toNat : Int) ≤ 57
                  · have HX : Hid ((lA T j).1 = 2 ↔ ((lA T k').1 = 1 ∨ (lA T k').1 = 2)) := by
                      show _ ↔ _
                      have h1 := lA_dig HK'.out.1 (by rw [HDk]; simp [hq1, hq2])
                      rw [HK'.out.2] at h1
                      rw [HK.out]
                      constructor
                      · rintro (h | h)
                        · exact absurd h h1.2
                        · exact h1.1.1 h
                      · intro h; exact .inr (h1.1.2 h)
                    clear HDk
                    go_wp2
                    go_round
                    case rel => exact ⟨k', rfl, by have := HK'.out.2; omega, HX⟩
                    case measure => have := HK'.out.2; simp [intOf]; omega
                  · have HX : Hid (((lA T j).1 = 2 ↔ ((lA T k).1 = 1 ∨ (lA T k).1 = 2)) ∧ (k = 0 ∨ ∃ (k' : Nat) (hk : k' < s.size), k' + 1 = k ∧ isD s[k'] = false)) := ⟨HK.out, .inr ⟨k', hks, HK'.out.2, by rw [HDk]; simp [hq2]⟩⟩
                    clear HDk
                    go_wp2
                    go_meet
                    exact ⟨k, rfl, hkp, HX, rfl⟩
                · have HX : Hid (((lA T j).1 = 2 ↔ ((lA T k).1 = 1 ∨ (lA T k).1 = 2)) ∧ (k = 0 ∨ ∃ (k' : Nat) (hk : k' < s.size), k' + 1 = k ∧ isD s[k'] = false)) := ⟨HK.out, .inr ⟨k', hks, HK'.out.2, by rw [HDk]; simp [hq1]⟩⟩
                  clear HDk
                  go_wp2
                  go_meet
                  exact ⟨k, rfl, hkp, HX, rfl⟩
              · have i1 : ¬ (k : Int) > 0 := by omega
                have HX : Hid (((lA T j).1 = 2 ↔ ((lA T k).1 = 1 ∨ (lA T k).1 = 2)) ∧ (k = 0 ∨ ∃ (k' : Nat) (hk : k' < s.size), k' + 1 = k ∧ isD s[k'] = false)) := ⟨HK.out, .inl (by omega)⟩
                go_wp2
                go_meet
                exact ⟨k, rfl, hkp, HX, rfl⟩
          case rest =>
            obtain ⟨k, rfl, hkp, HK, rfl⟩ := hcut
            by_cases hk0 : 0 < k
            · have i1 : (k : Int) > 0 := by omega
              obtain ⟨k', hks, hk', hnd⟩ := HK.out.2.resolve_left (by omega)
              have e2 : (k : Int) - 1 = (k' : Int) := by omega
              have hb3 := byte_le s k' hks
              have HL2 : Hid ((lA T j).1 = 2 ↔ s[k'] = 35) := by
                show _ ↔ _
                have h1 := lA_no (T := T) (p := k') (by rw [HT.out]; exact at_byte s k' hks) hnd
                rw [hk'] at h1
                rw [HK.out.1, ← h1.2]
                exact ⟨fun h => h.resolve_right h1.1, fun h => .inl h⟩
              clear hk' hnd HK
              by_cases h35 : s[k'] = 35
              · have q35 : ((s[k'].toNat : Int) == 35) = true := by rw [h35]; decide
                have HS : Hid ((lA T j).1 = 2) := HL2.out.2 h35
                clear h35 HL2
                by_cases b61 : s[j] = 61
                · have r1 : ((s[j].toNat : Int) == 61) = true := by rw [b61]; decide
                  have r2 : ((s[j].toNat : Int) == 35) = false := by rw [b61]; decide
                  have HX : Hid (G + 1 = (lA T (j + 1)).2.1 ∧ B = (lA T (j + 1)).2.2) := by
                    show _ ∧ _
                    rw [HC.out.1, HC.out.2, if_pos ⟨HS.out, b61⟩, if_neg (fun h => absurd (b61.symm.trans h.2) (by decide))]
                    exact ⟨by rw [HGB.out.1], HGB.out.2⟩
                  clear b61 HC
                  go_wp2
                  go_round
                  case rel => exact ⟨j + 1, G + 1, B, by go_num, by go_num, by go_num, by omega, by omega, HX, by have := lA_le T (j + 1); have := HX.out; omega, by have := lA_le T (j + 1); have := HX.out; omega⟩
                  case measure => simp [intOf]; omega
                · by_cases b35 : s[j] = 35
                  · have r1 : ((s[j].toNat : Int) == 61) = false := by rw [b35]; decide
                    have r2 : ((s[j].toNat : Int) == 35) = true := by rw [b35]; decide
                    have HX : Hid (G = (lA T (j + 1)).2.1 ∧ B + 1 = (lA T (j + 1)).2.2) := by
                      show _ ∧ _
                      rw [HC.out.1, HC.out.2, if_neg (fun h => b61 h.2), if_pos ⟨HS.out, b35⟩]
                      exact ⟨HGB.out.1, by rw [HGB.out.2]⟩
                    clear b61 b35 HC
                    go_wp2
                    go_round
                    case rel => exact ⟨j + 1, G, B + 1, by go_num, by go_num, by go_num, by omega, by omega, HX, by have := lA_le T (j + 1); have := HX.out; omega, by have := lA_le T (j + 1); have := HX.out; omega⟩
                    case measure => simp [intOf]; omega
                  · have r1 : ((s[j].toNat : Int) == 61) = false := by rw [beq_eq_false_iff_ne]; exact fun e => b61 ((eq_byte (n := 61) (by omega)).2 e)
                    have r2 : ((s[j].toNat : Int) == 35) = false := by rw [beq_eq_false_iff_ne]; exact fun e => b35 ((eq_byte (n := 35) (by omega)).2 e)
                    have HX : Hid (G = (lA T (j + 1)).2.1 ∧ B = (lA T (j + 1)).2.2) := by
                      show _ ∧ _
                      rw [HC.out.1, HC.out.2, if_neg (fun h => b61 h.2), if_neg (fun h => b35 h.2)]
                      exact HGB.out
                    clear b61 b35 HC
                    go_wp2
                    go_round
                    case rel => exact ⟨j + 1, G, B, by go_num, by go_num, by go_num, by omega, by omega, HX, by have := lA_le T (j + 1); have := HX.out; omega, by have := lA_le T (j + 1); have := HX.out; omega⟩
                    case measure => simp [intOf]; omega
              · have q35 : ((s[k'].toNat : Int) == 35) = false := by rw [beq_eq_false_iff_ne]; exact fun e => h35 ((eq_byte (n := 35) (by omega)).2 e)
                have HX : Hid (G = (lA T (j + 1)).2.1 ∧ B = (lA T (j + 1)).2.2) := by
                  show _ ∧ _
                  rw [HC.out.1, HC.out.2, if_neg (fun h => h35 (HL2.out.1 h.1)), if_neg (fun h => h35 (HL2.out.1 h.1))]
                  exact HGB.out
                clear h35 HL2 HC
                go_wp2
                go_round
                case rel => exact ⟨j + 1, G, B, by go_num, by go_num, by go_num, by omega, by omega, HX, by have := lA_le T (j + 1); have := HX.out; omega, by have := lA_le T (j + 1); have := HX.out; omega⟩
                case measure => simp [intOf]; omega
            · have i1 : ¬ (k : Int) > 0 := by omega
              have HX : Hid (G = (lA T (j + 1)).2.1 ∧ B = (lA T (j + 1)).2.2) := by
                show _ ∧ _
                have h0 : k = 0 := by omega
                have hn : ¬ (lA T j).1 = 2 := fun h => by
                  have := HK.out.1.1 h
                  rw [h0] at this
                  have z : (lA T 0).1 = 0 := rfl
                  omega
                rw [HC.out.1, HC.out.2, if_neg (fun h => hn h.1), if_neg (fun h => hn h.1)]
                exact HGB.out
              clear HK HC
              go_wp2
              go_round
              case rel => exact ⟨j + 1, G, B, by go_num, by go_num, by go_num, by omega, by omega, HX, by have := lA_le T (j + 1); have := HX.out; omega, by have := lA_le T (j + 1); have := HX.out; omega⟩
              case measure => simp [intOf]; omega
        · have HN : Hid (¬ (lA T j).1 = 2) := by
            show ¬ _
            rw [← HPJ.out]
            exact (lA_no HP.out (by rw [HD]; simp [hd2])).1
          have HX : Hid (G = (lA T (j + 1)).2.1 ∧ B = (lA T (j + 1)).2.2) := by
            show _ ∧ _
            rw [HC.out.1, HC.out.2, if_neg (fun h => HN.out h.1), if_neg (fun h => HN.out h.1)]
            exact HGB.out
          clear HD HC
          go_wp2
          go_round
          case rel => exact ⟨j + 1, G, B, by go_num, by go_num, by go_num, by omega, by omega, HX, by have := lA_le T (j + 1); have := HX.out; omega, by have := lA_le T (j + 1); have := HX.out; omega⟩
          case measure => simp [intOf]; omega
      · have HN : Hid (¬ (lA T j).1 = 2) := by
          show ¬ _
          rw [← HPJ.out]
          exact (lA_no HP.out (by rw [HD]; simp [hd1])).1
        have HX : Hid (G = (lA T (j + 1)).2.1 ∧ B = (lA T (j + 1)).2.2) := by
          show _ ∧ _
          rw [HC.out.1, HC.out.2, if_neg (fun h => HN.out h.1), if_neg (fun h => HN.out h.1)]
          exact HGB.out
        clear HD HC
        go_wp2
        go_round
        case rel => exact ⟨j + 1, G, B, by go_num, by go_num, by go_num, by omega, by omega, HX, by have := lA_le T (j + 1); have := HX.out; omega, by have := lA_le T (j + 1); have := HX.out; omega⟩
        case measure => simp [intOf]; omega
    · have k1 : ¬ (j : Int) < (s.size : Int) := by omega
      have HE : Hid (G = (lrun 0 T).2.1 ∧ B = (lrun 0 T).2.2) := by
        show _ ∧ _
        have := HGB.out
        rwa [lA_all (by rw [HL.out]; omega)] at this
      go_wp2
      go_ret2
      exact ⟨by rw [← HE.out.1, ← HE.out.2]; rfl, rfl⟩
end Go.Proofs.YtejmoopgfnjaaaaDoor

/- How much is handed in. -/
namespace Go.Proofs.YtejmoopgfnjaaaaDoor
open Go.RowKit

theorem TX.len {w : World} {ra : Option Addr} {l : List (List UInt8)} (h : TX w ra l) : ∀ t ∈ l, t.length ≤ 281474976710656 := fun t ht => by
  obtain ⟨b, o, _, h2⟩ := h
  obtain ⟨j, hj, e⟩ := List.mem_iff_getElem.1 ht
  exact (h2 j t (by rw [List.getElem?_eq_getElem hj, e])).2.2
theorem TX.at {w : World} {ra : Option Addr} {l : List (List UInt8)} (h : TX w ra l) : ∃ b o, (l.length ≠ 0 → ra = some ⟨b, o, none⟩) ∧ ∀ (j : Nat) (x : List UInt8), l[j]? = some x → b < w.heap.size ∧ w.cell? ⟨b, o + j, none⟩ = some (S x) ∧ x.length ≤ 281474976710656 := by
  obtain ⟨b, o, h1, h2⟩ := h
  exact ⟨b, o, fun h => h1.resolve_left h, h2⟩
def wtT : List (List UInt8) → Nat
  | [] => 0
  | t :: r => (1 + t.length) + wtT r
theorem wtT_app : ∀ (l m : List (List UInt8)), wtT (l ++ m) = wtT l + wtT m
  | [], m => by simp [wtT]
  | t :: l, m => by rw [List.cons_append, wtT, wtT_app l m, wtT]; omega
theorem wtT_step {l : List (List UInt8)} {j : Nat} {x : List UInt8} (h : l[j]? = some x) : wtT (l.take (j + 1)) = wtT (l.take j) + (1 + x.length) := by
  rw [List.take_add_one, h, wtT_app]; simp [wtT]
def OfR (B wt : Nat) (e : Ending) : Prop := ∃ n : Nat, e = .returned (.int .i64 n) ∧ n ≤ B ∧ (n ≤ 2147483647 → n = wt)
set_option maxRecDepth 100000 in
set_option maxHeartbeats 4000000 in
theorem ofTexts_any (l : List (List UInt8)) (ra : Option Addr) (ca : Nat) (w : World) (hR : TX w ra l) (hl : l.length ≤ 281474976710656) :
    Calls Tryd.prog 16 #[.slice ra l.length ca] w fun e w' => OfR 1125899906842624 (wtT l) e ∧ w' = w := by
  have hx : ∀ t ∈ l, t.length ≤ 281474976710656 := hR.len
  obtain ⟨b, o, h1, h2⟩ := hR.at
  have H1 : Hid (l.length ≠ 0 → ra = some ⟨b, o, none⟩) := h1
  have H2 : Hid (∀ (j : Nat) (x : List UInt8), l[j]? = some x → b < w.heap.size ∧ w.cell? ⟨b, o + j, none⟩ = some (S x) ∧ x.length ≤ 281474976710656) := h2
  have HX : Hid (∀ t ∈ l, t.length ≤ 281474976710656) := hx
  clear h1 h2 hR hx
  go_enter Tryd.func16, Tryd.ntmps16
  go_wp2
  go_loopw [4, 3] (fun i s wr => ∃ j n : Nat, i = .int .i64 j ∧ s = .int .i64 n ∧ j ≤ l.length ∧ n ≤ 562949953421312 ∧ Hid (n = wtT (l.take j)) ∧ wr = w) (fun i _ _ => l.length - (intOf i).toNat)
  case atStart => exact ⟨0, 0, rfl, rfl, Nat.zero_le _, by omega, by show _ = _; simp [wtT], rfl⟩
  case round =>
    obtain ⟨j, n, rfl, rfl, hj, hn, HN, rfl⟩ := hrel
    by_cases hlt : j < l.length
    · have i1 : (j : Int) < (l.length : Int) := by omega
      by_cases hnb : n ≤ 2147483647
      · have i2 : (n : Int) ≤ 2147483647 := by omega
        have hra := H1.out (by omega)
        subst hra
        obtain ⟨x, hx⟩ : ∃ x, l[j]? = some x := ⟨_, List.getElem?_eq_getElem hlt⟩
        obtain ⟨hb, hc, _⟩ := H2.out j x hx
        have hxl := HX.out x (List.mem_of_getElem? hx)
        have HS : Hid (wtT (l.take (j + 1)) = wtT (l.take j) + (1 + x.length)) := wtT_step hx
        have hsz : (ByteArray.mk x.toArray).size = x.length := rfl
        have i3 : (1 : Int) + (x.length : Int) ≤ 9223372036854775807 := by omega
        have i4 : (n : Int) + (1 + (x.length : Int)) ≤ 9223372036854775807 := by omega
        clear hx
        go_wp2
        go_roundw
        case rel => exact ⟨j + 1, n + (1 + x.length), by go_num, by go_num, by omega, by omega, by show _ = _; rw [HS.out, HN.out], trivial⟩
        case measure => simp [intOf]; omega
      · have i2 : ¬ (n : Int) ≤ 2147483647 := by omega
        go_wp2
        go_ret
        exact ⟨⟨n, rfl, by omega, fun h => absurd h hnb⟩, rfl⟩
    · have i1 : ¬ (j : Int) < (l.length : Int) := by omega
      have HE : Hid (n = wtT l) := by show _ = _; rw [HN.out, List.take_of_length_le (by omega)]
      go_wp2
      go_ret
      exact ⟨⟨n, rfl, by omega, fun _ => HE.out⟩, rfl⟩
def HvR (hl : Nat) (N : List (List UInt8)) (e : Ending) : Prop := ∃ b, e = .returned (.bool b) ∧ (b = false → hl ≤ 5000 ∧ N.length ≤ 300 ∧ wtT N ≤ 1000000)
set_option maxRecDepth 100000 in
set_option maxHeartbeats 4000000 in
theorem heavy_any (hl : Nat) (N : List (List UInt8)) (ra rn : Option Addr) (ca cn : Nat) (w : World) (hh : hl ≤ 281474976710656) (hR : TX w rn N) (hN : N.length ≤ 281474976710656) :
    Calls Tryd.prog 7 #[.slice ra hl ca, .slice rn N.length cn] w fun e w' => HvR hl N e ∧ Below w.heap.size w w' := by
  have HO : Hid _ := ofTexts_any N rn cn w hR hN
  have HB : Hid (Below w.heap.size w w) := Below.refl _ _
  have HD : Hid (Below w.heap.size w w.drew) := (Below.refl _ _).drew
  clear hR
  by_cases h1 : hl ≤ 5000
  · have k1 : ¬ ((hl : Int) > 5000) := by omega
    by_cases h2 : N.length ≤ 300
    · have k2 : ¬ ((N.length : Int) > 300) := by omega
      go_enter Tryd.func7, Tryd.ntmps7
      go_wp2_with fail
      refine Calls.mono HO.out ?_
      rintro e w1 ⟨⟨n, rfl, hn, hw⟩, hw1⟩
      rw [hw1]
      clear hw1 HO
      have HW : Hid (n ≤ 2147483647 → n = wtT N) := hw
      clear hw
      go_wp2
      go_ret
      refine ⟨⟨_, rfl, fun e => ?_⟩, HB.out⟩
      have h3 : ¬ (1000000 : Int) < n := of_decide_eq_false e
      exact ⟨h1, h2, by rw [← HW.out (by omega)]; omega⟩
    · have k2 : (N.length : Int) > 300 := by omega
      clear HO
      go_enter Tryd.func7, Tryd.ntmps7
      go_wp2
      go_ret
      exact ⟨⟨true, rfl, fun e => by cases e⟩, HB.out⟩
  · have k1 : (hl : Int) > 5000 := by omega
    clear HO
    go_enter Tryd.func7, Tryd.ntmps7
    go_wp2
    go_ret
    exact ⟨⟨true, rfl, fun e => by cases e⟩, HB.out⟩
end Go.Proofs.YtejmoopgfnjaaaaDoor
