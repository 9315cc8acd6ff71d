/- plain. -/
import Derived.Test.YtkgnigloboajcaaGreatDoorPlainM
import Derived.Test.YtkgnigloboajcaaGreatDoorPAt
import Derived.Deep.DeepCutAuto
import Derived.Deep.AppendLies
namespace Go.Proofs.YtkgnigloboajcaaGreatDoor
open Go.RowKit

theorem nd_app : ∀ (q : Fo) {k n : Int} {t : List UInt8} {s : Fo} {d : Bool} (r : Fo), (q.app (.cons k n t s d r)).nd q.len = some ⟨k, n, t, s, d⟩
  | .nil, _, _, _, _, _, _ => rfl
  | .cons _ _ _ _ _ q, _, _, _, _, _, r => nd_app q r
theorem plF_snoc : ∀ (q : Fo) (k n : Int) (t : List UInt8) (s : Fo) (d : Bool), plF (q.app (.cons k n t s d .nil)) = (plF q).app ((plD ⟨k, n, t, s, d⟩).fo .nil)
  | .nil, _, _, _, _, _ => rfl
  | .cons k' n' t' s' d' q, k, n, t, s, d => by
    show (plOne k' n' t' s' d' (plF s')).fo (plF (q.app _)) = _
    rw [plF_snoc q]
    rfl
def PlainC (W0 : World) (N : Nat) : Prop := ∀ (x : Dt) (rk : Option Addr) (ck : Nat) (w : World), x.s.size ≤ N → DOk x → okD x → RS W0 rk x.s → Below W0.heap.size W0 w →
  Calls Tryz.prog 36 #[datV x (.slice rk x.s.len ck)] w fun e w' => (∃ rp cp, e = .returned (datV (plD x) (.slice rp (plD x).s.len cp)) ∧ VRes W0 w w' rp (plD x).s) ∧ Below w.heap.size w w'
theorem DOk.s1 {x : Dt} {k n : Int} {t : List UInt8} {s : Fo} {d : Bool} {r : Fo} (h : DOk x) (e : x.s = .cons k n t s d r) : DOk ⟨k, n, t, s, d⟩ := by
  have h1 := h.size
  have h2 := h.tx
  rw [e] at h1 h2
  simp only [Fo.size] at h1
  exact ⟨by show s.size ≤ 1000000; omega, h2.1, h2.2.1⟩
theorem nd_dok : ∀ {s : Fo} {j : Nat} {y : Dt}, s.size ≤ 1000000 → s.tx → s.nd j = some y → DOk y
  | .nil, _, _, _, _, h => by cases h
  | .cons k n t s d r, 0, y, hs, ht, h => by cases h; simp only [Fo.size] at hs; exact ⟨by show s.size ≤ 1000000; omega, ht.1, ht.2.1⟩
  | .cons k n t s d r, j + 1, y, hs, ht, h => nd_dok (s := r) (by simp only [Fo.size] at hs; omega) ht.2.2 h
set_option maxRecDepth 100000 in
set_option maxHeartbeats 8000000 in
theorem plain_rec {W0 : World} {N : Nat} (hC : ∀ M, M < N → PlainC W0 M) : PlainC W0 N := by
  intro x rk ck w hN hX hO hR hB0
  have hxl := hX.len
  have a1 := (Below.refl _ w).alloc (Nat.le_refl w.heap.size) (boxD x (.slice rk x.s.len ck))
  have q0 := World.alloc_heap_new w (boxD x (.slice rk x.s.len ck))
  have HB1 : Hid (Below w.heap.size w ((w.alloc (boxD x (.slice rk x.s.len ck))).alloc Z5)) := a1.alloc a1.size _
  have HQ1 : Hid (((w.alloc (boxD x (.slice rk x.s.len ck))).alloc Z5).heap[w.heap.size]? = some (.cells #[.int .u8 x.k, .int .i64 x.n, S x.t, .slice rk x.s.len ck, .bool x.d] 32 (0, 0))) := (Below.heap_alloc _ _ _ (by simp)).trans q0
  have HZ1 : Hid (((w.alloc (boxD x (.slice rk x.s.len ck))).alloc Z5).heap[w.heap.size + 1]? = some Z5) := by
    have := World.alloc_heap_new (w.alloc (boxD x (.slice rk x.s.len ck))) Z5
    rwa [World.size_alloc] at this
  have HS1 : Hid (((w.alloc (boxD x (.slice rk x.s.len ck))).alloc Z5).heap.size = w.heap.size + 2) := by show _ = _; simp
  have HC : Hid (∀ M, M < N → PlainC W0 M) := hC
  have HX : Hid (DOk x) := hX
  have HO : Hid (okD x) := hO
  have HR : Hid (RS W0 rk x.s) := hR
  have HB0 : Hid (Below W0.heap.size W0 w) := hB0
  clear a1 q0 hC hX hO hR hB0
  go_enter Tryz.func36, Tryz.ntmps36
  go_upto_region 1 with fail
  generalize (w.alloc (boxD x (.slice rk x.s.len ck))).alloc Z5 = W1 at *
  obtain ⟨c0, c1, c2, c3, c4, _⟩ := cells5 HQ1.out
  obtain ⟨⟨e0, e1, e2, e3, e4, ef⟩⟩ : _ ∧ True := ⟨cells5 HZ1.out, trivial⟩
  have y0 := ef 0
  have y1 := ef 1
  have y2 := ef 2
  have y3 := ef 3
  have y4 := ef 4
  have HB0W : Hid (Below W0.heap.size W0 W1) := HB0.out.trans (HB1.out.mono HB0.out.size)
  clear ef
  have hself : ∀ W5 : World, (∀ g, g ≠ w.heap.size + 1 → W5.heap[g]? = W1.heap[g]?) → (∀ B rb, B ≤ w.heap.size + 1 → ButB B rb W1 W5) → Below w.heap.size w W5 := fun W5 ho hb => by
    have b5 := hb w.heap.size w.heap.size (by omega)
    have h := HB1.out
    exact ⟨b5.os.trans h.os, b5.tape.trans h.tape, b5.output.trans h.output, Nat.le_trans h.size b5.size, fun k hk => (ho k (by omega)).trans (h.block k hk)⟩
  have HSelf : Hid _ := hself
  clear hself
  by_cases hk : x.k = 5
  case neg =>
    have hk2 : (x.k != 5) = true := by simpa using hk
    have HP : Hid (plD x = x) := plD_atom hk
    clear hk
    go_wp2_with fail
    refine bodyPost_five rfl rfl rfl HZ1.out (fun W5 ho hb => ⟨⟨rk, ck, by rw [HP.out], by rw [HP.out]; exact .inl HR.out⟩, HSelf.out W5 ho hb⟩)
  have hk2 : (x.k != 5) = false := by simp [hk]
  have HK : Hid (x.k = 5) := hk
  clear hk
  go_upto_region 3 with fail
  have HRW : Hid (RS W1 rk x.s) := HR.out.below HB0W.out
  go_cut [34] (fun v wx => v = .bool (quB x.s x.d) ∧ wx = W1)
  case first =>
    by_cases hl : x.s.len = 2
    case neg =>
      have HQ : Hid (quB x.s x.d = false) := by show _ = _; unfold quB; simp [hl]
      have hl2 : ((x.s.len : Int) == 2) = false := by simp; omega
      go_wp2_with fail
      go_meet
      exact ⟨by rw [HQ.out], rfl⟩
    have hl2 : ((x.s.len : Int) == 2) = true := by simp; omega
    cases hd : x.d with
    | true =>
      have HQ : Hid (quB x.s true = false) := by show _ = _; unfold quB; simp
      go_wp2_with fail
      go_meet
      exact ⟨by rw [hd, HQ.out], rfl⟩
    | false =>
      obtain ⟨b, o, hab, hRd⟩ := HRW.out
      have hra := hab.resolve_left (by omega)
      subst hra
      obtain ⟨⟨g0, g1, g2, g3, g4, g5⟩, _⟩ := Rd.nd hRd (Fo.nd_hd (s := x.s) (by omega))
      rw [Nat.zero_mul, Nat.add_zero] at g1 g2 g3 g4
      have hi : (0 : Int) < (x.s.len : Int) := by omega
      clear hab hRd
      by_cases hk0 : x.s.hd.k = 2
      case neg =>
        have HQ : Hid (quB x.s false = false) := by show _ = _; unfold quB; simp [hk0]
        have hk02 : (x.s.hd.k == 2) = false := by simpa using hk0
        go_wp2_with fail
        go_meet
        exact ⟨by rw [hd, HQ.out], rfl⟩
      have hk02 : (x.s.hd.k == 2) = true := by simpa using hk0
      by_cases ht : x.s.hd.t = quoteB
      case neg =>
        have HQ : Hid (quB x.s false = false) := by show _ = _; unfold quB; simp [ht]
        have ht2 : (x.s.hd.t == [113, 117, 111, 116, 101]) = false := beq_eq_false_iff_ne.2 ht
        go_wp2_with fail
        go_meet
        exact ⟨by rw [hd, HQ.out], rfl⟩
      have HQ : Hid (quB x.s false = true) := by show _ = _; unfold quB; simp [ht, hk0, hl]
      have ht2 : (x.s.hd.t == [113, 117, 111, 116, 101]) = true := by simpa [quoteB] using ht
      go_wp2_with fail
      go_meet
      exact ⟨by rw [hd, HQ.out]; rfl, rfl⟩
  case rest =>
    obtain ⟨rfl, rfl⟩ := hcut
    cases hq : quB x.s x.d with
    | true =>
      obtain ⟨q1, q2, q3⟩ := qu_is HO.out hq
      have hl : x.s.len = 2 := by unfold quB at hq; simp only [Bool.and_eq_true, beq_iff_eq] at hq; exact hq.1
      obtain ⟨b, o, hab, hRd⟩ := HR.out
      have hra := hab.resolve_left (by omega)
      subst hra
      obtain ⟨⟨g0, g1, g2, g3, g4, g5⟩, rk1, ck1, gk, gs⟩ := Rd.nd hRd (show x.s.nd 1 = some x.s.tl.hd by rw [← Fo.nd_tl x.s 0]; exact Fo.nd_hd (by rw [Fo.tl_len]; omega))
      rw [Nat.one_mul] at g1 g2 g3 g4 gk
      have ec : ∀ o, wc.cell? ⟨b, o, none⟩ = W0.cell? ⟨b, o, none⟩ := fun o => HB0W.out.cell (p := ⟨b, o, none⟩) g0
      have h1 := (ec _).trans g1
      have h2' := (ec _).trans g2
      have h3 := (ec _).trans g3
      have h4 := (ec _).trans g4
      have hk' := (ec _).trans gk
      have hb0 : b < wc.heap.size := Nat.lt_of_lt_of_le g0 HB0W.out.size
      have HGS : Hid (RS W0 rk1 x.s.tl.hd.s) := gs
      clear ec g0 g1 g2 g3 g4 gk gs
      have hi : (1 : Int) < (x.s.len : Int) := by omega
      have HP : Hid (plD x = if atomB x.s.tl.hd then x.s.tl.hd else x) := plD_quote HK.out hq
      clear hab hRd q1 q2 hl hq
      generalize x.s.tl.hd = z at *
      by_cases h5 : z.k = 5
      case pos =>
        have h52 : (z.k != 5) = false := by simp [h5]
        have HP2 : Hid (plD x = x) := by show _ = _; rw [HP.out, if_neg]; simp [atomB, h5]
        go_wp2_with fail
        exact bodyPost_five rfl rfl rfl HZ1.out (fun W5 ho hb => ⟨⟨_, ck, by rw [HP2.out], by rw [HP2.out]; exact .inl HR.out⟩, HSelf.out W5 ho hb⟩)
      have h52 : (z.k != 5) = true := by simpa using h5
      by_cases h2 : z.k = 2
      case pos =>
        have h22 : (z.k != 2) = false := by simp [h2]
        have HP2 : Hid (plD x = x) := by show _ = _; rw [HP.out, if_neg]; simp [atomB, h2]
        go_wp2_with fail
        exact bodyPost_five rfl rfl rfl HZ1.out (fun W5 ho hb => ⟨⟨_, ck, by rw [HP2.out], by rw [HP2.out]; exact .inl HR.out⟩, HSelf.out W5 ho hb⟩)
      have h22 : (z.k != 2) = true := by simpa using h2
      have HP2 : Hid (plD x = z) := by show _ = _; rw [HP.out, if_pos]; simp [atomB, h2, h5]
      go_wp2_with fail
      exact bodyPost_five rfl rfl rfl HZ1.out (fun W5 ho hb => ⟨⟨rk1, ck1, by rw [HP2.out], by rw [HP2.out]; exact .inl HGS.out⟩, HSelf.out W5 ho hb⟩)
    | false =>
      have HP : Hid (plD x = ⟨5, x.n, x.t, plF x.s, x.d⟩) := plD_list HK.out hq
      clear hq c0 c1 c2 c3 c4 e0 e1 e2 e3 e4 y0 y1 y2 y3 y4
      obtain ⟨i0, hi0, hz0, hz1, hz2⟩ := info_parts infoDat
      go_upto_region 9 with fail
      go_loopw [3, 4, 5] (fun lv iv kv wr => ∃ (j : Nat) (q fi : Fo) (rl : Option Addr) (cl : Nat) (cs : List Value) (bs : List Nat), lv = .slice rl j cl ∧ iv = .int .i64 j ∧ fi.len + j = x.s.len ∧ Hid (q.len = j) ∧ Hid (x.s = q.app fi) ∧ Hid (wr.ownsRow (w.heap.size + 2) 32 5 (.slice rl j cl) j cs) ∧ Hid (VRow W0 wr (plF q) cs bs) ∧ Hid (∀ y ∈ bs, w.heap.size + 2 ≤ y ∧ (Value.slice rl j cl).ownBlock ≠ some y) ∧ Hid (Below w.heap.size w wr) ∧ Hid (w.heap.size + 2 ≤ wr.heap.size) ∧ Hid (wr.heap[w.heap.size]? = some (.cells #[.int .u8 x.k, .int .i64 x.n, S x.t, .slice rk x.s.len ck, .bool x.d] 32 (0, 0))) ∧ Hid (wr.heap[w.heap.size + 1]? = some Z5)) (fun _ iv _ _ => x.s.len - (intOf iv).toNat)
      case atStart => exact ⟨0, .nil, x.s, none, 0, [], [], rfl, rfl, by simp, rfl, rfl, World.ownsRow_nil _ _ _ _, ⟨rfl, rfl⟩, fun y hy => by simp at hy, HB1, by have := HS1.out; show _ ≤ _; omega, HQ1, HZ1⟩
      case round =>
        obtain ⟨j, q, fi, rl, cl, cs, bs, rfl, rfl, hj, HQL, HQA, HOw, HV, HSp, HBj, HSj, HQj, HZj⟩ := hrel
        obtain ⟨c0, c1, c2, c3, c4, cf⟩ := cells5 HQj.out
        cases fi with
        | nil =>
          have hj' : j = x.s.len := by simpa [Fo.len] using hj
          have hjl : ¬ ((j : Int) < (x.s.len : Int)) := by omega
          have HJ : Hid (j = x.s.len) := hj'
          have HXA : Hid (x.s = q) := by have := HQA.out; rw [Fo.app_nil] at this; exact this
          have y0 := cf 0
          have y1 := cf 1
          have y2 := cf 2
          have y3 := cf 3
          have y4 := cf 4
          obtain ⟨e0, e1, e2, e3, e4, ef⟩ := cells5 HZj.out
          have x0 := ef 0
          have x1 := ef 1
          have x2 := ef 2
          have x3 := ef 3
          have x4 := ef 4
          clear cf ef hj hj'
          go_wp2_with fail
          have hz1 : (wr.setCell ⟨w.heap.size, 3, none⟩ (.slice rl j cl)).heap[w.heap.size + 1]? = some Z5 := (Below.heap_setCell _ _ _ _ (show w.heap.size + 1 ≠ w.heap.size by omega)).trans HZj.out
          refine bodyPost_five rfl rfl rfl hz1 (fun W5 ho hb => ?_)
          have hsame : ∀ g, w.heap.size + 2 ≤ g → W5.heap[g]? = wr.heap[g]? := fun g hg => (ho g (by omega)).trans (Below.heap_setCell _ _ _ _ (show g ≠ w.heap.size by omega))
          have hlen : (plF x.s).len = j := by rw [plF_len]; exact HJ.out.symm
          have b5 := hb w.heap.size w.heap.size (by omega)
          have hs5 : wr.heap.size ≤ W5.heap.size := Nat.le_trans (by simp [World.setCell]) b5.size
          have hbj := HBj.out
          refine ⟨⟨rl, ⟨cl, ?_⟩, ?_⟩, ?_⟩
          · rw [HP.out, HK.out]
            show _ = Ending.returned (.agg #[.int .u8 5, .int .i64 x.n, S x.t, .slice rl (plF x.s).len cl, .bool x.d])
            rw [hlen]
          · rw [HP.out]
            show VRes W0 w W5 rl (plF x.s)
            rw [HXA.out] at hlen ⊢
            rcases HOw.out.2 with ⟨h0, hl⟩ | ⟨g, cap, cur, hv, _⟩
            · have : plF q = .nil := Fo.len0 (by omega)
              rw [this]
              injection h0 with h0
              subst h0
              exact .inl (rs_nil _ _)
            · injection hv with hv
              subst hv
              have hg := HOw.out.lt g rfl
              refine .inr ⟨g, cs, bs, rfl, by omega, Nat.lt_of_lt_of_le hg.2 hs5, fun i u hi => ?_, HV.out.kept hs5 fun y hy => hsame y (HSp.out y hy).1, fun y hy => by have := (HSp.out y hy).1; omega⟩
              have := HOw.out.cells (g := g) rfl i u hi
              rw [addr_add] at this
              exact (cell_same (hsame g hg.1) i).trans this
          · exact ⟨b5.os.trans hbj.os, b5.tape.trans hbj.tape, b5.output.trans hbj.output, Nat.le_trans hbj.size hs5, fun y hy => (ho y (by omega)).trans ((Below.heap_setCell _ _ _ _ (show y ≠ w.heap.size by omega)).trans (hbj.block y hy))⟩
        | cons k n t s d r =>
          simp only [Fo.len] at hj
          have i1 : (j : Int) < (x.s.len : Int) := by omega
          have hnd : x.s.nd j = some ⟨k, n, t, s, d⟩ := by rw [HQA.out, ← HQL.out]; exact nd_app _ _
          have hnz := nd_size hnd
          have hdok : DOk ⟨k, n, t, s, d⟩ := nd_dok HX.out.size HX.out.tx hnd
          have hokd : okD ⟨k, n, t, s, d⟩ := nd_ok HO.out.2 hnd
          obtain ⟨b, o, hab, hRd⟩ := HR.out
          have hra := hab.resolve_left (by omega)
          subst hra
          obtain ⟨⟨g0, g1, g2, g3, g4, g5⟩, rk1, ck1, gk, gs⟩ := Rd.nd hRd hnd
          have HB0j : Hid (Below W0.heap.size W0 wr) := HB0.out.trans (HBj.out.mono HB0.out.size)
          have ec : ∀ o, wr.cell? ⟨b, o, none⟩ = W0.cell? ⟨b, o, none⟩ := fun o => HB0j.out.cell (p := ⟨b, o, none⟩) g0
          have h1 := (ec _).trans g1
          have h2' := (ec _).trans g2
          have h3 := (ec _).trans g3
          have h4 := (ec _).trans g4
          have hk' := (ec _).trans gk
          have hb0 : b < wr.heap.size := Nat.lt_of_lt_of_le g0 HB0j.out.size
          have HCC : Hid (Calls Tryz.prog 36 #[.agg #[.int .u8 k, .int .i64 n, S t, .slice rk1 s.len ck1, .bool d]] wr fun e w' => (∃ rp cp, e = .returned (datV (plD ⟨k, n, t, s, d⟩) (.slice rp (plD ⟨k, n, t, s, d⟩).s.len cp)) ∧ VRes W0 wr w' rp (plD ⟨k, n, t, s, d⟩).s) ∧ Below wr.heap.size wr w') := HC.out s.size (by have : s.size + 1 ≤ x.s.size := hnz; omega) ⟨k, n, t, s, d⟩ rk1 ck1 wr (Nat.le_refl _) hdok hokd gs HB0j.out
          have HPS : Hid ((plD ⟨k, n, t, s, d⟩).s.size ≤ 1000000) := Nat.le_trans (pl_one hokd (fun L => pl_all s hokd.2 L) 0).sz hdok.size
          clear ec g0 g1 g2 g3 g4 gk gs hRd hab hnd hnz hdok hokd
          go_wp2_with fail
          refine HCC.out.mono ?_
          rintro e w5 ⟨⟨rp, cp, rfl, hres⟩, hb5⟩
          have HPA : Hid (plF (q.app (.cons k n t s d .nil)) = (plF q).app ((plD ⟨k, n, t, s, d⟩).fo .nil)) := plF_snoc q k n t s d
          obtain ⟨z, hz⟩ : ∃ z, plD ⟨k, n, t, s, d⟩ = z := ⟨_, rfl⟩
          rw [hz] at hres HPS HPA ⊢
          clear hz c0 c1 c2 c3 c4 cf h1 h2' h3 h4 hk' hb0 HCC
          have hzl : z.s.len ≤ maxLen := by have := Fo.len_size z.s; have := HPS.out; unfold maxLen; omega
          obtain ⟨bs1, hv1, hs1⟩ := hres.row (cp := cp) hzl
          go_upto_region 12 with fail
          obtain ⟨W6, hW6⟩ : ∃ W, w5.alloc (boxD z (.slice rp z.s.len cp)) = W := ⟨_, rfl⟩
          have a6 := (Below.refl _ w5).alloc (Nat.le_refl w5.heap.size) (boxD z (.slice rp z.s.len cp))
          have q6 := World.alloc_heap_new w5 (boxD z (.slice rp z.s.len cp))
          rw [hW6] at a6 q6 ⊢
          obtain ⟨c0, c1, c2, c3, c4, _⟩ := cells5 q6
          have HOw6 : Hid (W6.ownsRow (w.heap.size + 2) 32 5 (.slice rl j cl) j cs) := own_same (own_same HOw.out (fun g hg => hb5.block g (HOw.out.lt g hg).2)) (fun g hg => a6.block g (Nat.lt_of_lt_of_le (HOw.out.lt g hg).2 hb5.size))
          have hs5 := hb5.size
          have hs6 := a6.size
          have HV6 : Hid (VRow W0 W6 (plF q) cs bs) := (HV.out.kept hs5 fun g hg => hb5.block g (HV.out.lt g hg)).kept hs6 fun g hg => a6.block g (Nat.lt_of_lt_of_le (HV.out.lt g hg) hs5)
          have HV1 : Hid (VRow W0 W6 (z.fo .nil) [.int .u8 z.k, .int .i64 z.n, S z.t, .slice rp z.s.len cp, .bool z.d] bs1) := hv1.kept hs6 fun g hg => a6.block g (hv1.lt g hg)
          have HS1' : Hid (∀ y ∈ bs1, wr.heap.size ≤ y) := hs1
          have HB6 : Hid (Below wr.heap.size wr W6) := hb5.trans (a6.mono hs5)
          have HSw : Hid (wr.heap.size ≤ W6.heap.size) := Nat.le_trans hs5 hs6
          have hjw := HSj.out
          have hjl : j + 1 ≤ 1000000 := by omega
          clear hres hv1 hs1 a6 q6 hb5 hs5 hs6 hW6
          go_wp2_with (at_builtin; refine stop_of ?_)
          unfold Hid
          refine wpList_append_lies _ rfl _ _ 30 rfl (w.heap.size + 2) 32 i0 (.agg #[.int .u8 0, .int .i64 0, .string ⟨#[]⟩, .slice none 0 0, .bool false]) 5 64 Tryz.underlying30 hi0 hz0 hz1 hz2 rfl (by decide) (.slice rl j cl) j cs rfl (World.ownsRow.alloc HOw6.out _) ⟨_, 0, none⟩ 1 1 [.int .u8 z.k, .int .i64 z.n, S z.t, .slice rp z.s.len cp, .bool z.d] rfl rfl (cell_five_at _ _ (by simp) _ _ _ _ _ _) (five_one _ _ _ _ _ _ _) (by omega) (by unfold maxLen; omega) (by omega) (by have := HSw.out; simp; omega) _ rfl ?_
          intro g cap6 w6 hown hgr hat hlt6
          have hoa := HOw6.out
          have hw6 : W6.heap.size ≤ w6.heap.size := Nat.le_trans (by simp) hgr.size
          have hkeep : ∀ y, y < W6.heap.size → (Value.slice rl j cl).ownBlock ≠ some y → w6.heap[y]? = W6.heap[y]? := fun y hy hne => (hgr.block y (by simp; omega) (fun e => hne e.symm)).trans (Below.heap_alloc _ _ _ hy)
          have hw0 : ∀ g', (Value.slice rl j cl).ownBlock = some g' → w.heap.size + 2 ≤ g' ∧ g' < wr.heap.size := fun g' hg' => HOw.out.lt g' hg'
          have HV7 : Hid (VRow W0 w6 (plF (q.app (.cons k n t s d .nil))) (cs ++ [.int .u8 z.k, .int .i64 z.n, S z.t, .slice rp z.s.len cp, .bool z.d]) (bs ++ bs1)) := by
            rw [HPA.out]
            refine VRow.app (HV6.out.kept hw6 fun y hy => hkeep y (HV6.out.lt y hy) (HSp.out y hy).2) (HV1.out.kept hw6 fun y hy => hkeep y (HV1.out.lt y hy) fun e => ?_)
            have h1 := hw0 y e
            have h2 := HS1'.out y hy
            omega
          have HSp7 : Hid (∀ y ∈ bs ++ bs1, w.heap.size + 2 ≤ y ∧ (Value.slice (some ⟨g, 0, none⟩) (j + 1) cap6).ownBlock ≠ some y) := fun y hy => by
            rw [List.mem_append] at hy
            have hyl : y < W6.heap.size := by
              rcases hy with hy | hy
              · exact HV6.out.lt y hy
              · exact HV1.out.lt y hy
            refine ⟨?_, fun e => ?_⟩
            · rcases hy with hy | hy
              · exact (HSp.out y hy).1
              · have := HS1'.out y hy; omega
            · have e : g = y := Option.some.inj e
              subst e
              rcases hat with hat | hat
              · rcases hy with hy | hy
                · exact (HSp.out g hy).2 hat
                · have := HS1'.out g hy
                  have := hw0 g hat
                  omega
              · rw [World.size_alloc] at hat
                omega
          have HB7 : Hid (Below w.heap.size w w6) := by
            have b1 := HBj.out.trans (HB6.out.mono HBj.out.size)
            exact ⟨hgr.os.trans b1.os, hgr.tape.trans b1.tape, hgr.output.trans b1.output, Nat.le_trans b1.size hw6, fun y hy => (hkeep y (by have := HSw.out; omega) (fun e => by have := hw0 y e; omega)).trans (b1.block y hy)⟩
          have HQ7 : Hid _ := (hkeep w.heap.size (by have := HSw.out; omega) (fun e => by have := hw0 _ e; omega)).trans ((HB6.out.block _ (by omega)).trans HQj.out)
          have HZ7 : Hid _ := (hkeep (w.heap.size + 1) (by have := HSw.out; omega) (fun e => by have := hw0 _ e; omega)).trans ((HB6.out.block _ (by omega)).trans HZj.out)
          have HO7 : Hid (w6.ownsRow (w.heap.size + 2) 32 5 (.slice (some ⟨g, 0, none⟩) (j + 1) cap6) (j + 1) (cs ++ [.int .u8 z.k, .int .i64 z.n, S z.t, .slice rp z.s.len cp, .bool z.d])) := hown
          have HS7 : Hid (w.heap.size + 2 ≤ w6.heap.size) := by have := HSw.out; show _ ≤ _; omega
          clear hown hgr hat hlt6 hoa hw6 hkeep hw0 hjw
          go_wp2_with fail
          go_roundw
          case rel => exact ⟨j + 1, q.app (.cons k n t s d .nil), r, some ⟨g, 0, none⟩, cap6, _, _, by go_num, by go_num, by omega, by have := HQL.out; show _ = _; rw [Fo.len_app]; simp only [Fo.len]; omega, by show _ = _; rw [HQA.out, Fo.app_assoc]; rfl, HO7, HV7, HSp7, HB7, HS7, HQ7, HZ7⟩
          case measure => simp [intOf]; omega
theorem plain_all (W0 : World) : ∀ N, PlainC W0 N := fun N => by
  induction N using Nat.strongRecOn with
  | _ N ih => exact plain_rec ih
/-- plain, of any datum that is one. -/
theorem lplain_any (x : Dt) (rk : Option Addr) (ck : Nat) (w : World) (hX : DOk x) (hO : okD x) (hR : RS w rk x.s) :
    Calls Tryz.prog 36 #[datV x (.slice rk x.s.len ck)] w fun e w' => (∃ rp cp, e = .returned (datV (plD x) (.slice rp (plD x).s.len cp)) ∧ RS w' rp (plD x).s) ∧ Below w.heap.size w w' :=
  (plain_all w x.s.size x rk ck w (Nat.le_refl _) hX hO hR (Below.refl _ _)).mono fun _ _ ⟨⟨rp, cp, he, h⟩, hb⟩ => ⟨⟨rp, cp, he, h.rs hb⟩, hb⟩
end Go.Proofs.YtkgnigloboajcaaGreatDoor
