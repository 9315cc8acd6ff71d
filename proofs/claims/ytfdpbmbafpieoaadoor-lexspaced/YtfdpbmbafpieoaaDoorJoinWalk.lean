/- The walk of LexJoined. -/
import Derived.Test.YtfdpbmbafpieoaaDoorRows2
import Derived.Test.YtfdpbmbafpieoaaDoorJoinMath
import Derived.Stop.LaidErr
namespace Go.Proofs.YtfdpbmbafpieoaaDoor
open Go.RowKit

theorem fine_iff (xs : List (Tok × Int)) : fine xs ↔ fineB xs = true := by
  simp [fine, fineB, List.all_eq_true]
theorem not_fine {q : List (Tok × Int)} {x : Tok × Int} {xs : List (Tok × Int)} (h : q ++ [x] <+: xs) (hx : ¬ x.2 = 0) : fineB xs = false := by
  rw [Bool.eq_false_iff]; intro hf
  exact hx ((fine_iff xs).2 hf x (h.subset (by simp)))

/-- What Tokens does, told by whether there is an error. -/
theorem tokens_fine (s : ByteArray) (hs : s.size ≤ 281474976710656) (w : World) (hE : EV w) (hf : fineB (items s.data.toList) = true) :
    Calls Tryd.prog 13 #[.string s] w fun e w' => Below w.heap.size w w' ∧ ∃ g cap, e = .returned (.tuple #[.slice (some ⟨g, 0, none⟩) (items s.data.toList).length cap, .int .i64 0, .int .i64 0]) ∧ w.heap.size ≤ g ∧ TRow w' g (items s.data.toList) := by
  refine (tokens_any s hs w hE).mono ?_
  rintro e w' ⟨hb, (⟨v, rfl, _, hrow⟩ | ⟨q, x, hp, _, hx, _⟩)⟩
  · obtain ⟨g, cap, rfl, hg, ht⟩ := trow_of (items_ne _) hrow
    exact ⟨hb, g, cap, rfl, hg, ht⟩
  · rw [not_fine hp hx] at hf; cases hf
theorem tokens_err (s : ByteArray) (hs : s.size ≤ 281474976710656) (w : World) (hE : EV w) (hf : fineB (items s.data.toList) = false) :
    Calls Tryd.prog 13 #[.string s] w fun e w' => Below w.heap.size w w' ∧ ∃ er p : Int, e = .returned (.tuple #[.slice none 0 0, .int .i64 er, .int .i64 p]) ∧ (er != 0) = true := by
  refine (tokens_any s hs w hE).mono ?_
  rintro e w' ⟨hb, (⟨v, _, hf', _⟩ | ⟨q, x, _, _, hx, rfl⟩)⟩
  · rw [(fine_iff _).1 hf'] at hf; cases hf
  · exact ⟨hb, _, _, rfl, by simpa using hx⟩

/-- The three sources' tokens. -/
theorem joined_items (l t : List UInt8) (h : l.length + t.length + 1 ≤ 65536) :
    items (l ++ 10 :: t) = if fineB (items l) then (items l).dropLast ++ (items t).map (shift (l.length + 1 : Nat)) else items l := by
  rw [items_sc l (by omega), items_sc t (by omega), items_sc (l ++ 10 :: t) (by simp; omega)]
  have e : (l ++ 10 :: t).length = l.length + 1 + t.length := by simp; omega
  rw [e, sc_join l.length t l.length l (Nat.le_refl _)]
  have := sc_shift t.length (l.length + 1) t.length t (Nat.le_refl _)
  rw [show t.length + (l.length + 1) = l.length + 1 + t.length from by omega] at this
  rw [this]
theorem joined_fine (l t : List UInt8) (h : l.length + t.length + 1 ≤ 65536) : fineB (items (l ++ 10 :: t)) = (fineB (items l) && fineB (items t)) := by
  rw [joined_items l t h]
  cases hl : fineB (items l)
  · simp [hl]
  · simp only [if_true, Bool.true_and]
    have : fineB ((items l).dropLast ++ (items t).map (shift (l.length + 1 : Nat))) = (fineB (items l).dropLast && fineB ((items t).map (shift (l.length + 1 : Nat)))) := by simp [fineB]
    rw [this, fineB_shift]
    have h1 : fineB (items l).dropLast = true := by
      simp only [fineB, List.all_eq_true] at hl ⊢
      exact fun x hx => hl x (List.dropLast_subset _ hx)
    rw [h1]; simp

set_option maxRecDepth 100000 in
set_option maxHeartbeats 2000000 in
theorem lexJoined_walk (s t : ByteArray) (w : World) (hs : s.size ≤ 281474976710656) (ht : t.size ≤ 281474976710656) (hE : EV w) :
    Calls Tryd.prog 8 #[.string s, .string t] w fun e w' => e = .returned (.bool true) ∧ Below w.heap.size w w' := by
  have HE : Hid (EV w) := hE
  clear hE
  by_cases hbig : 65536 < s.size + t.size + 1
  · have hbig' : (65536 : Int) < (s.size : Int) + (t.size : Int) + 1 := by omega
    clear hbig
    go_enter Tryd.func8, Tryd.ntmps8
    go_wp2_with fail
    refine (works_any _ HE.out).mono ?_
    rintro e w1 ⟨rfl, hb1⟩
    go_wp2_with fail
    go_ret
    exact ⟨rfl, hb1⟩
  have hdec : decide ((65536 : Int) < (s.size : Int) + (t.size : Int) + 1) = false := decide_eq_false (by omega)
  have hsa : (s.size : Int) ≤ 100000 := by omega
  have hta : (t.size : Int) ≤ 100000 := by omega
  have Hs : Hid _ := hs
  have Ht : Hid _ := ht
  have hsm' : s.data.toList.length + t.data.toList.length + 1 ≤ 65536 := by rw [← size_len, ← size_len]; omega
  have Hfine : Hid _ := joined_fine s.data.toList t.data.toList hsm'
  have Hit : Hid _ := joined_items s.data.toList t.data.toList hsm'
  clear hbig hsm'
  have hcat : ∃ u : ByteArray, s ++ ⟨#[10]⟩ ++ t = u ∧ u.data.toList = s.data.toList ++ 10 :: t.data.toList ∧ u.size = s.size + t.size + 1 := by
    refine ⟨_, rfl, ?_, ?_⟩
    · rw [Joins.data_append, Joins.data_append]; simp
    · rw [size_len, Joins.data_append, Joins.data_append, size_len s, size_len t]; simp; omega
  obtain ⟨u, hu, hul, hus⟩ := hcat
  have Hu : Hid _ := hu
  have Hul : Hid _ := hul
  have hus' : u.size ≤ 281474976710656 := by omega
  have Hus : Hid _ := hus'
  clear hu hul hus hus' hs ht
  go_enter Tryd.func8, Tryd.ntmps8
  go_wp2_with fail
  refine (works_any _ HE.out).mono ?_
  rintro e w1 ⟨rfl, hb1⟩
  have HE1 : Hid (EV w1) := HE.out.below hb1 HE.out.lt
  go_wp2_with fail
  cases h1 : fineB (items s.data.toList)
  · have H3 : Hid (fineB (items u.data.toList) = false) := by show _ = _; rw [Hul.out, Hfine.out, h1]; rfl
    refine (tokens_err s Hs.out _ HE1.out h1).mono ?_
    rintro e w2 ⟨hb2, er, p, rfl, her⟩
    have HE2 : Hid (EV w2) := HE1.out.below hb2 HE1.out.lt
    go_wp2_with fail
    cases h2 : fineB (items t.data.toList)
    · refine (tokens_err t Ht.out _ HE2.out h2).mono ?_
      rintro e w3 ⟨hb3, er2, p2, rfl, her2⟩
      have HE3 : Hid (EV w3) := HE2.out.below hb3 HE2.out.lt
      go_wp2_with fail
      rw [Hu.out]
      refine (tokens_err u Hus.out _ HE3.out H3.out).mono ?_
      rintro e w4 ⟨hb4, er3, p3, rfl, her3⟩
      go_wp2
      go_ret
      exact ⟨rfl, hb1.trans ((hb2.trans ((hb3.trans (hb4.mono hb3.size)).mono hb2.size)).mono hb1.size)⟩
    · refine (tokens_fine t Ht.out _ HE2.out h2).mono ?_
      rintro e w3 ⟨hb3, g2, cap2, rfl, hg2, hr2⟩
      have HE3 : Hid (EV w3) := HE2.out.below hb3 HE2.out.lt
      clear hr2
      go_wp2_with fail
      rw [Hu.out]
      refine (tokens_err u Hus.out _ HE3.out H3.out).mono ?_
      rintro e w4 ⟨hb4, er3, p3, rfl, her3⟩
      go_wp2
      go_ret
      exact ⟨rfl, hb1.trans ((hb2.trans ((hb3.trans (hb4.mono hb3.size)).mono hb2.size)).mono hb1.size)⟩
  · refine (tokens_fine s Hs.out _ HE1.out h1).mono ?_
    rintro e w2 ⟨hb2, g1, cap1, rfl, hg1, hr1⟩
    have HR1 : Hid (TRow w2 g1 (items s.data.toList)) := hr1
    clear hr1
    have HE2 : Hid (EV w2) := HE1.out.below hb2 HE1.out.lt
    go_wp2_with fail
    cases h2 : fineB (items t.data.toList)
    · have H3 : Hid (fineB (items u.data.toList) = false) := by show _ = _; rw [Hul.out, Hfine.out, h1, h2]; rfl
      refine (tokens_err t Ht.out _ HE2.out h2).mono ?_
      rintro e w3 ⟨hb3, er2, p2, rfl, her2⟩
      have HE3 : Hid (EV w3) := HE2.out.below hb3 HE2.out.lt
      go_wp2_with fail
      rw [Hu.out]
      refine (tokens_err u Hus.out _ HE3.out H3.out).mono ?_
      rintro e w4 ⟨hb4, er3, p3, rfl, her3⟩
      go_wp2
      go_ret
      exact ⟨rfl, hb1.trans ((hb2.trans ((hb3.trans (hb4.mono hb3.size)).mono hb2.size)).mono hb1.size)⟩
    · have H3 : Hid (fineB (items u.data.toList) = true) := by show _ = _; rw [Hul.out, Hfine.out, h1, h2]; rfl
      refine (tokens_fine t Ht.out _ HE2.out h2).mono ?_
      rintro e w3 ⟨hb3, g2, cap2, rfl, hg2, hr2⟩
      have HR2 : Hid (TRow w3 g2 (items t.data.toList)) := hr2
      clear hr2
      have HE3 : Hid (EV w3) := HE2.out.below hb3 HE2.out.lt
      go_wp2_with fail
      rw [Hu.out]
      refine (tokens_fine u Hus.out _ HE3.out H3.out).mono ?_
      rintro e w4 ⟨hb4, g3, cap3, rfl, hg3, hr3⟩
      have hb13 : Hid (Below w.heap.size w w4) := hb1.trans ((hb2.trans ((hb3.trans (hb4.mono hb3.size)).mono hb2.size)).mono hb1.size)
      have HR3 : Hid (TRow w4 g3 (items u.data.toList)) := hr3
      have HR1' : Hid (TRow w4 g1 (items s.data.toList)) := (HR1.out.below hb3 HR1.out.1).below hb4 (Nat.lt_of_lt_of_le HR1.out.1 hb3.size)
      have HR2' : Hid (TRow w4 g2 (items t.data.toList)) := HR2.out.below hb4 HR2.out.1
      have hiu : Hid (items u.data.toList = (items s.data.toList).dropLast ++ (items t.data.toList).map (shift (s.size + 1 : Nat))) := by
        show _ = _
        rw [Hul.out, Hit.out, if_pos h1, ← size_len]
      have hl1 := List.length_pos_iff.2 (items_ne s.data.toList)
      have hl2 := List.length_pos_iff.2 (items_ne t.data.toList)
      have hl3 : (items u.data.toList).length = (items s.data.toList).length - 1 + (items t.data.toList).length := by rw [hiu.out]; simp
      have hm1 := (items_len s.data.toList).2
      have hm2 := (items_len t.data.toList).2
      clear hr3 HR1 HR2 h1 h2 hb1 hb2 hb3 hb4
      generalize hL1 : (items s.data.toList).length = n1 at *
      generalize hL2 : (items t.data.toList).length = n2 at *
      generalize hL3 : (items u.data.toList).length = n3 at *
      have HL1 : Hid _ := hL1
      have HL2 : Hid _ := hL2
      have HL3 : Hid _ := hL3
      clear hL1 hL2 hL3
      have hz1 : ((n1 : Int) == 0) = false := beq_eq_false_iff_ne.2 (by omega)
      have hz2 : ((n2 : Int) == 0) = false := beq_eq_false_iff_ne.2 (by omega)
      have hz3 : ((n3 : Int) != (n1 : Int) - 1 + (n2 : Int)) = false := by rw [bne_eq_false_iff_eq]; omega
      have Hl3 : Hid _ := hl3
      clear hl3
      go_wp2
      go_loopw [15] (fun i wr => ∃ k : Nat, k ≤ n3 ∧ i = .int .i64 k ∧ Hid (Below w4.heap.size w4 wr)) (fun i _ => n3 - (intOf i).toNat)
      case atStart => exact ⟨0, Nat.zero_le _, rfl, Below.refl _ _⟩
      case round =>
        obtain ⟨k, hk, rfl, HB⟩ := hrel
        by_cases hlt : k < n3
        · have hR3 : Hid (TRow wr g3 (items u.data.toList)) := HR3.out.below HB.out HR3.out.1
          by_cases hk1 : k < n1 - 1
          · have hR1 : Hid (TRow wr g1 (items s.data.toList)) := HR1'.out.below HB.out HR1'.out.1
            obtain ⟨x, hx⟩ : ∃ x, (items s.data.toList)[k]? = some x := ⟨_, List.getElem?_eq_getElem (by rw [HL1.out]; omega)⟩
            have hxu : (items u.data.toList)[k]? = some x := by
              rw [hiu.out, List.getElem?_append_left (by rw [List.length_dropLast, HL1.out]; omega), List.getElem?_dropLast, if_pos (by rw [HL1.out]; omega)]; exact hx
            obtain ⟨a0, a1, a2, a3⟩ := hR1.out.2 k x hx
            obtain ⟨b0, b1, b2, b3⟩ := hR3.out.2 k x hxu
            clear hx hxu
            have hq := fun wx => neqTok_same x.1.kind x.1.n x.1.pos ⟨x.1.text.toArray⟩ wx
            have i1 : (k : Int) < (n1 : Int) - 1 := by omega
            have i2 : (k : Int) < (n1 : Int) := by omega
            have i3 : (k : Int) < (n3 : Int) := by omega
            go_wp2_with fail
            go_quiet (fail)
            go_wp2
            go_roundw
            case rel => exact ⟨k + 1, by omega, by go_num, below_drewN HB.out _⟩
            case measure => simp [intOf]; omega
          · have hR2 : Hid (TRow wr g2 (items t.data.toList)) := HR2'.out.below HB.out HR2'.out.1
            obtain ⟨j, hj⟩ : ∃ j, k = n1 - 1 + j := ⟨k - (n1 - 1), by omega⟩
            have HJ : Hid _ := hj
            have hjlt : j < n2 := by have := Hl3.out; omega
            obtain ⟨x, hx⟩ : ∃ x, (items t.data.toList)[j]? = some x := ⟨_, List.getElem?_eq_getElem (by rw [HL2.out]; omega)⟩
            have hxu : (items u.data.toList)[k]? = some (shift (s.size + 1 : Nat) x) := by
              rw [hiu.out, List.getElem?_append_right (by rw [List.length_dropLast, HL1.out]; omega), List.length_dropLast, HL1.out, List.getElem?_map, show k - (n1 - 1) = j from by omega, hx]; rfl
            obtain ⟨a0, a1, a2, a3⟩ := hR2.out.2 j x hx
            obtain ⟨b0, b1, b2, b3⟩ := hR3.out.2 k _ hxu
            simp only [shift, put] at b0 b1 b2 b3
            rw [show x.1.pos + ((s.size + 1 : Nat) : Int) = x.1.pos + (s.size : Int) + 1 from by omega] at b3
            obtain ⟨p0, p1⟩ := items_pos _ x (List.mem_of_getElem? hx)
            have hq := fun wx => neqTok_same x.1.kind x.1.n (x.1.pos + (s.size : Int) + 1) ⟨x.1.text.toArray⟩ wx
            have b0' := fun o => cell?_alloc_old (W := wr) o b0
            have b1' := fun o => cell?_alloc_old (W := wr) o b1
            have b2' := fun o => cell?_alloc_old (W := wr) o b2
            have b3' := fun o => cell?_alloc_old (W := wr) o b3
            clear hx hxu hj b0 b1 b2 b3
            have j1 : (k : Int) - ((n1 : Int) - 1) = (j : Int) := by have := HJ.out; omega
            have j2 : (j : Int) < (n2 : Int) := by omega
            have i1 : ¬ (k : Int) < (n1 : Int) - 1 := by omega
            have i3 : (k : Int) < (n3 : Int) := by omega
            go_wp2_with fail
            go_quiet (fail)
            go_wp2
            go_roundw
            case rel => exact ⟨k + 1, by omega, by go_num, below_drewN (HB.out.alloc HB.out.size _) _⟩
            case measure => simp [intOf]; omega
        · go_wp2
          go_ret
          exact ⟨rfl, hb13.out.trans (HB.out.mono hb13.out.size)⟩
end Go.Proofs.YtfdpbmbafpieoaaDoor
