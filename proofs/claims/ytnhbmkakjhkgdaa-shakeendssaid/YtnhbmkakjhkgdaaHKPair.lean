/- A shake beside the document's: each call is answered alike, and all that is told behind it. -/
import Derived.Test.YtnhbmkakjhkgdaaHKRef3
namespace Go.Proofs.Ytnhbmkakjhkgdaa
open Go.RowKit

structure PX (w : World) (b r : Nat) (v : Value) (s : Sk) : Prop where
  sl : SL w b s
  dl : ∃ L, DL w r v L s.c ∧ Mt s L
  ok : Ok s
def PF (b r : Nat) (v : Value) (g : Nat) : Prop := g = b ∨ DF r v g
theorem PX.ne {w : World} {b r : Nat} {v : Value} {s : Sk} (h : PX w b r v s) : ¬ DF r v b := fun hd => by
  obtain ⟨cs, hc, _⟩ := h.sl.ex
  obtain ⟨L, hL, _⟩ := h.dl
  rcases hd with e | e
  · subst e
    exact ty_ne hc hL.obj (by decide) rfl
  · obtain ⟨ds, hd⟩ := own_blk hL.row e
    exact ty_ne hc hd (by decide) rfl
theorem PX.lt {w : World} {b r : Nat} {v : Value} {s : Sk} (h : PX w b r v s) : ∀ g, PF b r v g → g < w.heap.size := fun g hg => by
  obtain ⟨L, hL, _⟩ := h.dl
  rcases hg with rfl | rfl | hg
  · exact h.sl.lt
  · exact hL.lt
  · obtain ⟨cs, hc⟩ := own_blk hL.row hg
    exact heap_lt hc
theorem PX.kept {w w' : World} {b r : Nat} {v : Value} {s : Sk} (h : PX w b r v s) (hk : ∀ g, PF b r v g → w'.heap[g]? = w.heap[g]?) : PX w' b r v s := by
  obtain ⟨L, hL, hm⟩ := h.dl
  exact ⟨h.sl.kept (hk b (.inl rfl)), ⟨L, hL.kept (fun g hg => hk g (.inr hg)), hm⟩, h.ok⟩
/-- What a call of both leaves. -/
def PR (b r : Nat) (v : Value) (s' : Sk) (w w' : World) : Prop := ∃ v', PX w' b r v' s' ∧ (∀ g, g < w.heap.size → ¬ PF b r v g → w'.heap[g]? = w.heap[g]?) ∧ Below 0 w w' ∧ ∀ g, v'.ownBlock = some g → v.ownBlock = some g ∨ w.heap.size ≤ g
theorem PX.same {w : World} {b r : Nat} {v : Value} {s : Sk} (h : PX w b r v s) : PR b r v s w w := ⟨v, h, fun _ _ _ => rfl, Below.refl _ _, fun _ h => .inl h⟩
/-- First the shake's, then the document's. -/
theorem PX.both {w w1 w2 : World} {b r : Nat} {v : Value} {s s' : Sk} (h : PX w b r v s) (h1 : KR b s' w w1) (h2 : RP r v s' w1 w2) (hk : Ok s') : PR b r v s' w w2 := by
  obtain ⟨v', L', d1, d2, d3, d4, d5⟩ := h2
  have hb := h1.1.lt
  refine ⟨v', ⟨h1.1.kept (d3 b hb h.ne), ⟨L', d1, d2⟩, hk⟩, fun g hg hn => ?_, h1.2.2.1.trans d4, fun g hg => ?_⟩
  · rw [d3 g (by rw [h1.2.2.2]; exact hg) (fun e => hn (.inr e)), h1.2.1 g (fun e => hn (.inl e))]
  · rcases d5 g hg with e | e
    · exact .inl e
    · exact .inr (by rw [← h1.2.2.2]; exact e)
/-- The document's stands as it did behind the shake's call. -/
theorem PX.doc {w w1 : World} {b r : Nat} {v : Value} {s s' : Sk} (h : PX w b r v s) (h1 : KR b s' w w1) : ∃ L, DL w1 r v L s.c ∧ Mt s L := by
  obtain ⟨L, hL, hm⟩ := h.dl
  exact ⟨L, hL.kept (fun g hg => h1.2.1 g (fun e => h.ne (by rw [← e]; exact hg))), hm⟩
def stepM (s : Sk) (k t : Int) : Sk := if k = 1 then (bornM s t).2 else if k = 2 then (begM s).2 else if k = 3 then (askM s t).2 else if k = 4 then (layM s t).2 else if k = 5 then (endM s).2 else s
theorem PR.trans0 {w0 w w' : World} {b r : Nat} {v : Value} {s' : Sk} (h : PR b r v s' w w') (hb : Below w0.heap.size w0 w) : PR b r v s' w0 w' := by
  obtain ⟨v', h1, h2, h3, h4⟩ := h
  refine ⟨v', h1, fun g hg hn => (h2 g (Nat.lt_of_lt_of_le hg hb.size) hn).trans (hb.block g hg), (hb.mono (Nat.zero_le _)).trans h3, fun g hg => ?_⟩
  rcases h4 g hg with e | e
  · exact .inl e
  · exact .inr (Nat.le_trans hb.size e)
set_option maxRecDepth 100000 in
set_option maxHeartbeats 8000000 in
theorem does_any (b r : Nat) (v : Value) (s : Sk) (k t : Int) (w : World) (h : PX w b r v s) :
    Calls Try.prog 8 #[.pointer (some ⟨b, 0, none⟩), .pointer (some ⟨r, 0, none⟩), .agg #[.int .i64 k, .int .i64 t]] w fun e w' => e = .returned (.bool true) ∧ PR b r v (stepM s k t) w w' := by
  have a0 := (Below.refl _ w).alloc (Nat.le_refl w.heap.size) (.cells #[.int .i64 k, .int .i64 t] 34)
  have b0 := heap_alloc_new w (.cells #[.int .i64 k, .int .i64 t] 34)
  have hlt := h.lt
  have h0 : PX (w.alloc (.cells #[.int .i64 k, .int .i64 t] 34)) b r v s := h.kept (fun g hg => a0.block g (hlt g hg))
  have q0 : (w.alloc (.cells #[.int .i64 k, .int .i64 t] 34)).cell? ⟨w.heap.size, 0, none⟩ = some (.int .i64 k) := heap_cell b0 rfl
  have q1 : (w.alloc (.cells #[.int .i64 k, .int .i64 t] 34)).cell? ⟨w.heap.size, 1, none⟩ = some (.int .i64 t) := heap_cell b0 rfl
  have hnb : w.heap.size ≠ b := fun e => by have := hlt b (.inl rfl); omega
  have H0 : Hid (PX (w.alloc (.cells #[.int .i64 k, .int .i64 t] 34)) b r v s) := h0
  have HB : Hid (Below w.heap.size w (w.alloc (.cells #[.int .i64 k, .int .i64 t] 34))) := a0
  have l0 := heap_lt b0
  obtain ⟨W, hW⟩ : ∃ W, W = w.alloc (.cells #[.int .i64 k, .int .i64 t] 34) := ⟨_, rfl⟩
  have h8 := h.ok.le
  have HQ : Hid (∀ (s' : Sk) (w1 : World), KR b s' W w1 → w1.cell? ⟨w.heap.size, 1, none⟩ = some (.int .i64 t) ∧ w.heap.size < w1.heap.size) := fun s' w1 h1 => by
    rw [hW] at h1
    refine ⟨?_, by rw [h1.2.2.2]; exact l0⟩
    have := h1.2.1 w.heap.size hnb
    simp only [World.cell?] at q1 ⊢
    rw [this]
    exact q1
  go_enter Try.func8, Try.ntmps8
  go_upto_region 1 with fail
  rw [← hW] at q0 q1 H0 HB l0 ⊢
  clear h a0 b0 h0 hlt hW
  by_cases k1 : k = 1
  · subst k1
    have eS : stepM s 1 t = (bornM s t).2 := rfl
    go_wp2_with fail
    refine Calls.mono (born_any b s t W H0.out.sl h8) ?_
    rintro e w1 ⟨rfl, hk1⟩
    obtain ⟨d1, d2⟩ := HQ.out _ _ hk1
    have HK1 : Hid (KR b (bornM s t).2 W w1) := hk1
    clear hk1 q0 q1
    go_wp2_with fail
    obtain ⟨L, hL, hm⟩ := H0.out.doc HK1.out
    refine Calls.mono (refBorn_any r v L s t w1 hL hm H0.out.ok) ?_
    rintro e w2 ⟨rfl, hk2⟩
    have HE : Hid (PR b r v (bornM s t).2 w w2) := (H0.out.both HK1.out hk2 (born_ok H0.out.ok t)).trans0 HB.out
    clear hk2 hL hm HK1
    go_wp2
    go_ret
    exact ⟨by simp, by rw [eS]; exact HE.out⟩
  · skip
    by_cases k2 : k = 2
    · subst k2
      have eS : stepM s 2 t = (begM s).2 := rfl
      go_wp2_with fail
      refine Calls.mono (begin_any b s W H0.out.sl h8) ?_
      rintro e w1 ⟨rfl, hk1⟩
      obtain ⟨d1, d2⟩ := HQ.out _ _ hk1
      have HK1 : Hid (KR b (begM s).2 W w1) := hk1
      clear hk1 q0 q1
      go_wp2_with fail
      obtain ⟨L, hL, hm⟩ := H0.out.doc HK1.out
      refine Calls.mono (refBegin_any r v L s w1 hL hm H0.out.ok) ?_
      rintro e w2 ⟨rfl, hk2⟩
      have HE : Hid (PR b r v (begM s).2 w w2) := (H0.out.both HK1.out hk2 (beg_ok H0.out.ok)).trans0 HB.out
      clear hk2 hL hm HK1
      go_wp2
      go_ret
      exact ⟨by simp, by rw [eS]; exact HE.out⟩
    · skip
      by_cases k3 : k = 3
      · subst k3
        have eS : stepM s 3 t = (askM s t).2 := rfl
        go_wp2_with fail
        refine Calls.mono (ask_any b s t W H0.out.sl h8) ?_
        rintro e w1 ⟨rfl, hk1⟩
        obtain ⟨d1, d2⟩ := HQ.out _ _ hk1
        have HK1 : Hid (KR b (askM s t).2 W w1) := hk1
        clear hk1 q0 q1
        go_wp2_with fail
        obtain ⟨L, hL, hm⟩ := H0.out.doc HK1.out
        refine Calls.mono (refAsk_any r v L s t w1 hL hm H0.out.ok) ?_
        rintro e w2 ⟨rfl, hk2⟩
        have HE : Hid (PR b r v (askM s t).2 w w2) := (H0.out.both HK1.out hk2 (ask_ok H0.out.ok t)).trans0 HB.out
        clear hk2 hL hm HK1
        go_wp2
        go_ret
        exact ⟨by simp, by rw [eS]; exact HE.out⟩
      · skip
        by_cases k4 : k = 4
        · subst k4
          have eS : stepM s 4 t = (layM s t).2 := rfl
          go_wp2_with fail
          refine Calls.mono (lay_any b s t W H0.out.sl h8) ?_
          rintro e w1 ⟨rfl, hk1⟩
          obtain ⟨d1, d2⟩ := HQ.out _ _ hk1
          have HK1 : Hid (KR b (layM s t).2 W w1) := hk1
          clear hk1 q0 q1
          go_wp2_with fail
          obtain ⟨L, hL, hm⟩ := H0.out.doc HK1.out
          refine Calls.mono (refLay_any r v L s t w1 hL hm H0.out.ok) ?_
          rintro e w2 ⟨rfl, hk2⟩
          have HE : Hid (PR b r v (layM s t).2 w w2) := (H0.out.both HK1.out hk2 (lay_ok H0.out.ok t)).trans0 HB.out
          clear hk2 hL hm HK1
          go_wp2
          go_ret
          exact ⟨by simp, by rw [eS]; exact HE.out⟩
        · skip
          by_cases k5 : k = 5
          · subst k5
            have eS : stepM s 5 t = (endM s).2 := rfl
            go_wp2_with fail
            refine Calls.mono (end_any b s W H0.out.sl h8) ?_
            rintro e w1 ⟨rfl, hk1⟩
            obtain ⟨d1, d2⟩ := HQ.out _ _ hk1
            have HK1 : Hid (KR b (endM s).2 W w1) := hk1
            clear hk1 q0 q1
            go_wp2_with fail
            obtain ⟨L, hL, hm⟩ := H0.out.doc HK1.out
            refine Calls.mono (refEnd_any r v L s w1 hL hm H0.out.ok) ?_
            rintro e w2 ⟨rfl, hk2⟩
            have HE : Hid (PR b r v (endM s).2 w w2) := (H0.out.both HK1.out hk2 (end_ok H0.out.ok)).trans0 HB.out
            clear hk2 hL hm HK1
            go_wp2
            go_ret
            exact ⟨by simp, by rw [eS]; exact HE.out⟩
          · have eS : stepM s k t = s := by unfold stepM; rw [if_neg k1, if_neg k2, if_neg k3, if_neg k4, if_neg k5]
            have HE : Hid (PR b r v s w W) := H0.out.same.trans0 HB.out
            go_wp2
            go_ret
            exact ⟨rfl, by rw [eS]; exact HE.out⟩
end Go.Proofs.Ytnhbmkakjhkgdaa
