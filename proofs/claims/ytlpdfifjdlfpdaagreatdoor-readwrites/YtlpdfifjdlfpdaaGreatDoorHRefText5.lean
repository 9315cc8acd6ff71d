/- The document's text. -/
import Derived.Test.YtlpdfifjdlfpdaaGreatDoorHRefText3
import Derived.Test.YtlpdfifjdlfpdaaGreatDoorHRefText4
namespace Go.Proofs.YtlpdfifjdlfpdaaGreatDoor
open Go.RowKit

set_option maxRecDepth 100000 in
set_option maxHeartbeats 4000000 in
theorem text_q {N : Nat} (h : ∀ M, M < N → TextC M) (n1 : Int) (s1 : Fo) (d1 : Bool) (k2 n2 : Int) (t2 : List UInt8) (s2 : Fo) (d2 : Bool) (rk : Option Addr) (ck : Nat) (w : World) (hN : s2.size < N) (hb : s2.size ≤ 999999) (hi : isDat k2 n2 t2 s2 d2 = true) (hA : allD s2 = true) (hR : RS w rk (.cons 2 n1 quoteB s1 d1 (.cons k2 n2 t2 s2 d2 .nil))) :
    Calls Tryz.prog 50 #[.agg #[.int .u8 5, .int .i64 0, S [], .slice rk 2 ck, .bool false]] w fun e w' => e = .returned (S (39 :: oneT k2 n2 t2 s2 d2 (textsT s2))) ∧ Below w.heap.size w w' := by
  have HC : Hid (∀ M, M < N → TextC M) := h
  have Hal : Hid (Below w.heap.size w (w.alloc (.cells #[.int .u8 5, .int .i64 0, S [], .slice rk 2 ck, .bool false] 58))) := (Below.refl _ w).alloc (Nat.le_refl _) _
  have Hi : Hid (isDat k2 n2 t2 s2 d2 = true) := hi
  have HA : Hid (allD s2 = true) := hA
  have hlen : (oneT k2 n2 t2 s2 d2 (textsT s2)).length ≤ 40000000 := by
    have := sum3_texts (.cons k2 n2 t2 s2 d2 .nil) (by simp [allD, hi, hA])
    simp only [textsT, sum3, Fo.size] at this
    omega
  obtain ⟨b, o, hab, hRd⟩ := hR
  have hra : rk = some ⟨b, o, none⟩ := hab.resolve_left (by simp [Fo.len])
  subst hra
  obtain ⟨⟨y0, y1, y2, y3, y4, y5⟩, ⟨rk1, ck1, bk1, ok1, yk, yz, ys⟩, ⟨⟨x0, x1, x2, x3, x4, x5⟩, ⟨rk2, ck2, bk2, ok2, xk, xz, xs⟩, _⟩⟩ := hRd
  have HR2 : Hid (RS w rk2 s2) := ⟨bk2, ok2, xz, xs⟩
  unfold quoteB at y3
  clear h hi hA hab yz ys xz xs
  go_enter Tryz.func50, Tryz.ntmps50
  go_wp2_with fail
  refine (HC.out s2.size hN k2 n2 t2 s2 d2 rk2 ck2 _ (Nat.le_refl _) (by omega) x5 Hi.out HA.out (HR2.out.below Hal.out)).mono ?_
  rintro e w2 ⟨rfl, hb2⟩
  have HB2 : Hid (Below w.heap.size w w2) := Hal.out.trans (hb2.mono Hal.out.size)
  clear hb2
  go_wp2
  go_ret
  exact ⟨rfl, HB2.out⟩

theorem text_all : ∀ N, TextC N := fun N => by
  induction N using Nat.strongRecOn with
  | _ N ih =>
    intro k n t s d rk ck w hN hb hm hi hA hR
    rcases isDat_kind hi with rfl | rfl | rfl | rfl | rfl
    · have hf := (isDat_num hi).1
      simp only [fits, Bool.and_eq_true, decide_eq_true_eq] at hf
      exact text_1 n (by omega) (by omega) t _ d w
    · exact text_2 n t _ d w
    · exact text_3 n t _ d w
    · exact text_4 n t _ d w
    · obtain ⟨rfl, rfl, hT⟩ := isDat_list hi
      have e : ∀ ts, oneT 5 0 [] s d ts = if isQ s d then 39 :: ts.getD 1 [] else 40 :: (kidsT d true ts ++ [41]) := fun ts => by
        simp only [oneT, show ¬ (5 : Int) = 1 by decide, show ¬ (5 : Int) = 2 by decide, show ¬ (5 : Int) = 3 by decide, show ¬ (5 : Int) = 4 by decide, if_false]
      rw [e]
      cases d with
      | true =>
        have q : isQ s true = false := by
          unfold isQ; split <;> simp
        rw [q]
        by_cases h2 : s.len = 2
        · exact text_d2 ih s rk ck w hN hb hm hA hR h2
        · exact text_dno2 ih s rk ck w hN hb hm hA hR h2
      | false =>
        by_cases h2 : s.len = 2
        · obtain ⟨k1, n1, t1, s1, d1, k2, n2, t2, s2, d2, hs⟩ : ∃ k1 n1 t1 s1 d1 k2 n2 t2 s2 d2, s = .cons k1 n1 t1 s1 d1 (.cons k2 n2 t2 s2 d2 .nil) := by
            cases s with
            | nil => simp [Fo.len] at h2
            | cons k1 n1 t1 s1 d1 r1 =>
              cases r1 with
              | nil => simp [Fo.len] at h2
              | cons k2 n2 t2 s2 d2 r2 =>
                have : r2 = .nil := Fo.len0 (by simp only [Fo.len] at h2; omega)
                subst this
                exact ⟨_, _, _, _, _, _, _, _, _, _, rfl⟩
          have hA' := hA
          rw [hs] at hA'
          simp only [allD, Bool.and_eq_true] at hA'
          obtain ⟨hi1, hs1, hi2, hs2, _⟩ := hA'
          by_cases hk : k1 = 2
          · by_cases ht : t1 = quoteB
            · subst hk ht
              obtain ⟨_, rfl, rfl, rfl⟩ := isDat_sym hi1
              subst hs
              have q : isQ (.cons 2 0 quoteB .nil false (.cons k2 n2 t2 s2 d2 .nil)) false = true := by simp [isQ, sameB, Fo.same]
              rw [q]
              simp only [Fo.size] at hN hb
              exact text_q ih 0 .nil false k2 n2 t2 s2 d2 rk ck w (by omega) (by omega) hi2 hs2 hR
            · have q : isQ s false = false := by
                rw [hs]; simp [isQ, sameB, ht]
              rw [q]
              refine text_t2 ih s rk ck w hN hb hm hA hR h2 (fun a1 a2 a3 a4 a5 a6 ha => ?_)
              rw [hs] at ha
              injection ha with e1 e2 e3
              subst e1 e3
              exact ⟨hk, ht⟩
          · have q : isQ s false = false := by
              rw [hs]; simp [isQ, sameB, hk]
            rw [q]
            refine text_k2 ih s rk ck w hN hb hm hA hR h2 (fun a1 a2 a3 a4 a5 a6 ha => ?_)
            rw [hs] at ha
            injection ha with e1
            subst e1
            exact beq_eq_false_iff_ne.2 hk
        · have q : isQ s false = false := by
            unfold isQ; split
            · simp [Fo.len] at h2
            · rfl
          rw [q]
          exact text_no2 ih s rk ck w hN hb hm hA hR h2
end Go.Proofs.YtlpdfifjdlfpdaaGreatDoor
