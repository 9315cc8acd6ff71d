/- SameForm, SameForms. -/
import Derived.Test.YtkgnigloboajcaaGreatDoorK41
namespace Go.Proofs.YtkgnigloboajcaaGreatDoor
open Go.RowKit

theorem keepT9 {W w6 : World} {b o b' o' : Nat} {v0 v1 v2 v3 v4 v5 v6 v7 v8 u0 u1 u2 u3 u4 u5 u6 u7 u8 : Option Value} (hb : Below W.heap.size W w6)
    (h : ((W.cell? ⟨b, o, none⟩ = v0 ∧ W.cell? ⟨b, o + 1, none⟩ = v1 ∧ W.cell? ⟨b, o + 1 + 1, none⟩ = v2 ∧ W.cell? ⟨b, o + 1 + 1 + 1, none⟩ = v3 ∧ W.cell? ⟨b, o + 1 + 1 + 1 + 1, none⟩ = v4 ∧ W.cell? ⟨b, o + 1 + 1 + 1 + 1 + 1, none⟩ = v5 ∧ W.cell? ⟨b, o + 1 + 1 + 1 + 1 + 1 + 1, none⟩ = v6 ∧ W.cell? ⟨b, o + 1 + 1 + 1 + 1 + 1 + 1 + 1, none⟩ = v7 ∧ W.cell? ⟨b, o + 1 + 1 + 1 + 1 + 1 + 1 + 1 + 1, none⟩ = v8) ∧ b < W.heap.size) ∧ (W.cell? ⟨b', o', none⟩ = u0 ∧ W.cell? ⟨b', o' + 1, none⟩ = u1 ∧ W.cell? ⟨b', o' + 1 + 1, none⟩ = u2 ∧ W.cell? ⟨b', o' + 1 + 1 + 1, none⟩ = u3 ∧ W.cell? ⟨b', o' + 1 + 1 + 1 + 1, none⟩ = u4 ∧ W.cell? ⟨b', o' + 1 + 1 + 1 + 1 + 1, none⟩ = u5 ∧ W.cell? ⟨b', o' + 1 + 1 + 1 + 1 + 1 + 1, none⟩ = u6 ∧ W.cell? ⟨b', o' + 1 + 1 + 1 + 1 + 1 + 1 + 1, none⟩ = u7 ∧ W.cell? ⟨b', o' + 1 + 1 + 1 + 1 + 1 + 1 + 1 + 1, none⟩ = u8) ∧ b' < W.heap.size) :
    ((w6.cell? ⟨b, o, none⟩ = v0 ∧ w6.cell? ⟨b, o + 1, none⟩ = v1 ∧ w6.cell? ⟨b, o + 1 + 1, none⟩ = v2 ∧ w6.cell? ⟨b, o + 1 + 1 + 1, none⟩ = v3 ∧ w6.cell? ⟨b, o + 1 + 1 + 1 + 1, none⟩ = v4 ∧ w6.cell? ⟨b, o + 1 + 1 + 1 + 1 + 1, none⟩ = v5 ∧ w6.cell? ⟨b, o + 1 + 1 + 1 + 1 + 1 + 1, none⟩ = v6 ∧ w6.cell? ⟨b, o + 1 + 1 + 1 + 1 + 1 + 1 + 1, none⟩ = v7 ∧ w6.cell? ⟨b, o + 1 + 1 + 1 + 1 + 1 + 1 + 1 + 1, none⟩ = v8) ∧ b < w6.heap.size) ∧ (w6.cell? ⟨b', o', none⟩ = u0 ∧ w6.cell? ⟨b', o' + 1, none⟩ = u1 ∧ w6.cell? ⟨b', o' + 1 + 1, none⟩ = u2 ∧ w6.cell? ⟨b', o' + 1 + 1 + 1, none⟩ = u3 ∧ w6.cell? ⟨b', o' + 1 + 1 + 1 + 1, none⟩ = u4 ∧ w6.cell? ⟨b', o' + 1 + 1 + 1 + 1 + 1, none⟩ = u5 ∧ w6.cell? ⟨b', o' + 1 + 1 + 1 + 1 + 1 + 1, none⟩ = u6 ∧ w6.cell? ⟨b', o' + 1 + 1 + 1 + 1 + 1 + 1 + 1, none⟩ = u7 ∧ w6.cell? ⟨b', o' + 1 + 1 + 1 + 1 + 1 + 1 + 1 + 1, none⟩ = u8) ∧ b' < w6.heap.size := by
  obtain ⟨⟨⟨a0, a1, a2, a3, a4, a5, a6, a7, a8⟩, hg⟩, ⟨c0, c1, c2, c3, c4, c5, c6, c7, c8⟩, hg'⟩ := h
  have e : ∀ o, w6.cell? ⟨b, o, none⟩ = W.cell? ⟨b, o, none⟩ := fun o => hb.cell (p := ⟨b, o, none⟩) hg
  have e' : ∀ o, w6.cell? ⟨b', o, none⟩ = W.cell? ⟨b', o, none⟩ := fun o => hb.cell (p := ⟨b', o, none⟩) hg'
  exact ⟨⟨⟨(e _).trans a0, (e _).trans a1, (e _).trans a2, (e _).trans a3, (e _).trans a4, (e _).trans a5, (e _).trans a6, (e _).trans a7, (e _).trans a8⟩, Nat.lt_of_lt_of_le hg hb.size⟩, ⟨(e' _).trans c0, (e' _).trans c1, (e' _).trans c2, (e' _).trans c3, (e' _).trans c4, (e' _).trans c5, (e' _).trans c6, (e' _).trans c7, (e' _).trans c8⟩, Nat.lt_of_lt_of_le hg' hb.size⟩

/-- A truth, that is true where P holds. -/
def BoolOut (P : Prop) (e : Ending) : Prop := ∃ b : Bool, e = .returned (.bool b) ∧ (P → b = true)
def Fm.sz : Fm → Nat
  | .nil => 0
  | .cons _ _ _ ks _ _ _ _ _ r => ks.sz + r.sz + 1
def SameFC (N : Nat) : Prop := ∀ (f g : Frm) (nr kr dr nr' kr' dr' : Option Addr) (nc kc dc nc' kc' dc' : Nat) (w : World), f.kids.sz ≤ N → FOk f → f.kids.oks → FOk g → g.kids.oks → RFo w f nr kr dr → RFo w g nr' kr' dr' →
  Calls Tryz.prog 16 #[frmV f (.slice nr f.names.length nc) (.slice kr f.kids.len kc) (.slice dr f.dat.s.len dc), frmV g (.slice nr' g.names.length nc') (.slice kr' g.kids.len kc') (.slice dr' g.dat.s.len dc')] w fun e w' => BoolOut (f = g) e ∧ Below w.heap.size w w'
def SameFsC (N : Nat) : Prop := ∀ (f g : Fm) (ra rb : Option Addr) (ca cb : Nat) (w : World), f.sz ≤ N → f.len ≤ 1000000 → g.len ≤ 1000000 → f.oks → g.oks → RSF w ra f → RSF w rb g →
  Calls Tryz.prog 53 #[.slice ra f.len ca, .slice rb g.len cb] w fun e w' => BoolOut (f = g) e ∧ Below w.heap.size w w'

set_option maxRecDepth 100000 in
set_option maxHeartbeats 8000000 in
theorem sameF_of {N : Nat} (h : SameFsC N) : SameFC N := by
  intro f g nr kr dr nr' kr' dr' nc kc dc nc' kc' dc' w hN hF hO hG hP hR hS
  obtain ⟨W1, hW1⟩ : ∃ W1, w.alloc (Z9 f (.slice nr f.names.length nc) (.slice kr f.kids.len kc) (.slice dr f.dat.s.len dc)) = W1 := ⟨_, rfl⟩
  have a1 := (Below.refl _ w).alloc (Nat.le_refl w.heap.size) (Z9 f (.slice nr f.names.length nc) (.slice kr f.kids.len kc) (.slice dr f.dat.s.len dc))
  have q1 := World.alloc_heap_new w (Z9 f (.slice nr f.names.length nc) (.slice kr f.kids.len kc) (.slice dr f.dat.s.len dc))
  rw [hW1] at a1 q1
  obtain ⟨W2, hW2⟩ : ∃ W2, W1.alloc (Z9 g (.slice nr' g.names.length nc') (.slice kr' g.kids.len kc') (.slice dr' g.dat.s.len dc')) = W2 := ⟨_, rfl⟩
  have a2 := (Below.refl _ W1).alloc (Nat.le_refl W1.heap.size) (Z9 g (.slice nr' g.names.length nc') (.slice kr' g.kids.len kc') (.slice dr' g.dat.s.len dc'))
  have q2 := World.alloc_heap_new W1 (Z9 g (.slice nr' g.names.length nc') (.slice kr' g.kids.len kc') (.slice dr' g.dat.s.len dc'))
  rw [hW2] at a2 q2
  have hb12 : Below w.heap.size w W2 := a1.trans (a2.mono a1.size)
  have q1' := (a2.block _ (Array.getElem?_eq_some_iff.1 q1).1).trans q1
  have HB2 : Hid (Below w.heap.size w W2) := hb12
  have HQ1 : Hid _ := q1'
  have HQ2 : Hid _ := q2
  have HR : Hid (RFo W2 f nr kr dr) := hR.below hb12
  have HS : Hid (RFo W2 g nr' kr' dr') := hS.below hb12
  have HF : Hid (FOk f) := hF
  have HG : Hid (FOk g) := hG
  have HCC : Hid (∀ w', Below W2.heap.size W2 w' → Calls Tryz.prog 53 #[.slice kr f.kids.len kc, .slice kr' g.kids.len kc'] w' fun e w2 => BoolOut (f.kids = g.kids) e ∧ Below w'.heap.size w' w2) := fun w' hb => h f.kids g.kids kr kr' kc kc' w' hN hF.kl hG.kl hO hP (HR.out.k.below hb) (HS.out.k.below hb)
  have HCX : Hid (∀ w', Below W2.heap.size W2 w' → Calls Tryz.prog 31 #[.slice nr f.names.length nc, .slice nr' g.names.length nc'] w' fun e w2 => e = .returned (.bool (decide (f.names = g.names))) ∧ Below w'.heap.size w' w2) := fun w' hb => sameX_any f.names g.names nr nr' nc nc' w' (by have := hF.nl; unfold maxLen; omega) (by have := hG.nl; unfold maxLen; omega) (HR.out.n.rx.below hb) (HS.out.n.rx.below hb)
  have HCD : Hid (∀ w', Below W2.heap.size W2 w' → Calls Tryz.prog 30 #[datV f.dat (.slice dr f.dat.s.len dc), datV g.dat (.slice dr' g.dat.s.len dc')] w' fun e w2 => e = .returned (.bool (sameB f.dat.k f.dat.n f.dat.t f.dat.s f.dat.d g.dat.k g.dat.n g.dat.t g.dat.s g.dat.d)) ∧ Below w'.heap.size w' w2) := fun w' hb => sameDat_any f.dat.s.size f.dat.k f.dat.n f.dat.t f.dat.s f.dat.d dr dc g.dat.k g.dat.n g.dat.t g.dat.s g.dat.d dr' dc' w' (Nat.le_refl _) (by have := hF.d.len; unfold maxLen; omega) (by have := hG.d.len; unfold maxLen; omega) (HR.out.d.below hb) (HS.out.d.below hb)
  have HSB : Hid (f = g → sameB f.dat.k f.dat.n f.dat.t f.dat.s f.dat.d g.dat.k g.dat.n g.dat.t g.dat.s g.dat.d = true) := fun e => by subst e; simp [sameB, (Fo.same_iff _ _).2 rfl]
  obtain ⟨⟨z0, z1, z2, z3, z4, z5, z6, z7, z8⟩, _⟩ := cells9 q1'
  obtain ⟨⟨y0, y1, y2, y3, y4, y5, y6, y7, y8⟩, _⟩ := cells9 q2
  clear h hN hF hO hG hP hR hS a1 q1 a2 q2 hb12 q1'
  cases hk : (f.kind == g.kind) with
  | false =>
    have HN : Hid (f ≠ g) := fun e => by subst e; simp at hk
    have HK : Hid _ := hk
    go_enter Tryz.func16, Tryz.ntmps16
    go_upto_region 1 with fail
    clear hW1 hW2
    go_wp2
    go_ret
    exact ⟨⟨false, rfl, fun e => absurd e HN.out⟩, HB2.out⟩
  | true =>
  have HK : Hid (f.kind = g.kind) := (by simpa using hk : f.kind = g.kind)
  by_cases ht : f.text = g.text
  case neg =>
    have HN : Hid (f ≠ g) := fun e => ht (by rw [e])
    have ht2 : (f.text == g.text) = false := by simpa using ht
    clear ht
    go_enter Tryz.func16, Tryz.ntmps16
    go_upto_region 1 with fail
    clear hW1 hW2
    go_wp2
    go_ret
    exact ⟨⟨false, rfl, fun e => absurd e HN.out⟩, HB2.out⟩
  have ht2 : (f.text == g.text) = true := by simpa using ht
  have HT : Hid (f.text = g.text) := ht
  clear ht
  go_enter Tryz.func16, Tryz.ntmps16
  go_upto_region 1 with fail
  clear hW1 hW2
  go_wp2_with fail
  refine Calls.mono (HCX.out W2 (Below.refl _ _)) ?_
  rintro e w3 ⟨rfl, hb3⟩
  have HB3 : Hid (Below W2.heap.size W2 w3) := hb3
  obtain ⟨bn, hbn⟩ : ∃ b, decide (f.names = g.names) = b := ⟨_, rfl⟩
  have HBN : Hid _ := hbn
  have HQ13 : Hid _ := (hb3.block _ (Array.getElem?_eq_some_iff.1 HQ1.out).1).trans HQ1.out
  have HQ23 : Hid _ := (hb3.block _ (Array.getElem?_eq_some_iff.1 HQ2.out).1).trans HQ2.out
  rw [hbn]
  clear hbn hb3 z0 z1 z2 z3 z4 z5 z6 z7 z8 y0 y1 y2 y3 y4 y5 y6 y7 y8 HCX
  cases bn with
  | false =>
    have HN : Hid (f ≠ g) := fun e => by have := HBN.out; rw [e] at this; simp at this
    go_wp2
    go_ret
    exact ⟨⟨false, rfl, fun e => absurd e HN.out⟩, HB2.out.trans (HB3.out.mono HB2.out.size)⟩
  | true =>
  obtain ⟨⟨z0, z1, z2, z3, z4, z5, z6, z7, z8⟩, _⟩ := cells9 HQ13.out
  obtain ⟨⟨y0, y1, y2, y3, y4, y5, y6, y7, y8⟩, _⟩ := cells9 HQ23.out
  go_wp2_with fail
  refine Calls.mono (HCC.out w3 HB3.out) ?_
  rintro e w4 ⟨⟨bk, rfl, hbk⟩, hb4⟩
  have HBK : Hid _ := hbk
  have HB4 : Hid (Below W2.heap.size W2 w4) := HB3.out.trans (hb4.mono HB3.out.size)
  have HQ14 : Hid _ := (hb4.block _ (Array.getElem?_eq_some_iff.1 HQ13.out).1).trans HQ13.out
  have HQ24 : Hid _ := (hb4.block _ (Array.getElem?_eq_some_iff.1 HQ23.out).1).trans HQ23.out
  clear hbk hb4 z0 z1 z2 z3 z4 z5 z6 z7 z8 y0 y1 y2 y3 y4 y5 y6 y7 y8 HCC
  cases bk with
  | false =>
    have HN : Hid (f ≠ g) := fun e => by have := HBK.out (by rw [e]); cases this
    go_wp2
    go_ret
    exact ⟨⟨false, rfl, fun e => absurd e HN.out⟩, HB2.out.trans (HB4.out.mono HB2.out.size)⟩
  | true =>
  obtain ⟨⟨z0, z1, z2, z3, z4, z5, z6, z7, z8⟩, _⟩ := cells9 HQ14.out
  obtain ⟨⟨y0, y1, y2, y3, y4, y5, y6, y7, y8⟩, _⟩ := cells9 HQ24.out
  go_wp2_with fail
  refine Calls.mono (HCD.out w4 HB4.out) ?_
  rintro e w5 ⟨rfl, hb5⟩
  have HB5 : Hid (Below W2.heap.size W2 w5) := HB4.out.trans (hb5.mono HB4.out.size)
  clear hb5 z0 z1 z2 z3 z4 z5 z6 z7 z8 y0 y1 y2 y3 y4 y5 y6 y7 y8 HCD
  obtain ⟨bd, hbd⟩ : ∃ b, sameB f.dat.k f.dat.n f.dat.t f.dat.s f.dat.d g.dat.k g.dat.n g.dat.t g.dat.s g.dat.d = b := ⟨_, rfl⟩
  have HSB2 : Hid (f = g → bd = true) := by rw [← hbd]; exact HSB.out
  rw [hbd]
  clear hbd
  go_wp2
  go_ret
  exact ⟨⟨bd, rfl, HSB2.out⟩, HB2.out.trans (HB5.out.mono HB2.out.size)⟩


set_option maxRecDepth 100000 in
set_option maxHeartbeats 8000000 in
theorem forms_of_same {N : Nat} (h : ∀ M, M < N → SameFC M) : SameFsC N := by
  intro f g ra rb ca cb w hN hm hm' hO hO' hR hR'
  have HS : Hid (∀ M, M < N → SameFC M) := h
  by_cases hl : f.len = g.len
  · obtain ⟨b, o, hab, hRd⟩ := hR
    obtain ⟨b', o', hab', hRd'⟩ := hR'
    have HRd : Hid (RdF w f b o) := hRd
    have HRd' : Hid (RdF w g b' o') := hRd'
    have HLL : Hid (g.len = f.len) := hl.symm
    have HO : Hid f.oks := hO
    have HO' : Hid g.oks := hO'
    clear h hRd hRd' hO hO'
    have hra : f.len ≠ 0 → ra = some ⟨b, o, none⟩ := fun h => hab.resolve_left h
    have hrb : f.len ≠ 0 → rb = some ⟨b', o', none⟩ := fun h => hab'.resolve_left (by rw [← hl]; exact h)
    have Hra : Hid _ := hra
    have Hrb : Hid _ := hrb
    rw [← hl]
    clear hab hab' hra hrb hm' hl
    go_enter Tryz.func53, Tryz.ntmps53
    go_wp2
    go_loopw [5] (fun i wr => ∃ (j : Nat) (fi gi : Fm), i = .int .i64 j ∧ fi.len + j = f.len ∧ gi.len = fi.len ∧ fi.sz ≤ N ∧ Hid (RdF wr fi b (o + j * 9)) ∧ Hid (RdF wr gi b' (o' + j * 9)) ∧ Hid (f = g → fi = gi) ∧ Hid (fi.oks ∧ gi.oks) ∧ Hid (Below w.heap.size w wr)) (fun i _ => f.len - (intOf i).toNat)
    case atStart => exact ⟨0, f, g, rfl, by simp, HLL.out, hN, by simpa using HRd, by simpa using HRd', fun e => e, ⟨HO.out, HO'.out⟩, Below.refl _ _⟩
    case round =>
      obtain ⟨j, fi, gi, rfl, hj, hgl, hsz, HF, HG, HQ, HOO, HB⟩ := hrel
      cases fi with
      | nil =>
        have hj' : j = f.len := by simpa [Fm.len] using hj
        have hjl : ¬ ((j : Int) < (f.len : Int)) := by omega
        clear hj hj' hgl
        go_wp2
        go_ret
        exact ⟨⟨true, rfl, fun _ => rfl⟩, HB.out⟩
      | cons k t ns ks dk dn dt ds dd r =>
        cases gi with
        | nil => simp [Fm.len] at hgl
        | cons k' t' ns' ks' dk' dn' dt' ds' dd' r' =>
          obtain ⟨lt1, nr, nc, kr, kc, dr, dc, ⟨h0, h1, h2, h3, h4, h5, h6, h7, h8⟩, hro, hr⟩ := rdf_cons HF.out
          obtain ⟨lt2, nr', nc', kr', kc', dr', dc', ⟨h0', h1', h2', h3', h4', h5', h6', h7', h8'⟩, hro', hr'⟩ := rdf_cons HG.out
          simp only [Fm.len] at hj hgl
          simp only [Fm.sz] at hsz
          have hlt : j < f.len := by omega
          have hra := Hra.out (by omega)
          have hrb := Hrb.out (by omega)
          subst hra hrb
          have i1 : (j : Int) < (f.len : Int) := by omega
          have HRo : Hid (RFo wr ⟨k, t, ns, ks, ⟨dk, dn, dt, ds, dd⟩⟩ nr kr dr) := hro
          have HRo' : Hid (RFo wr ⟨k', t', ns', ks', ⟨dk', dn', dt', ds', dd'⟩⟩ nr' kr' dr') := hro'
          have Hr : Hid _ := hr
          have Hr' : Hid _ := hr'
          have HFo : Hid (FOk ⟨k, t, ns, ks, ⟨dk, dn, dt, ds, dd⟩⟩ ∧ ks.oks ∧ r.oks) := HOO.out.1
          have HGo : Hid (FOk ⟨k', t', ns', ks', ⟨dk', dn', dt', ds', dd'⟩⟩ ∧ ks'.oks ∧ r'.oks) := HOO.out.2
          clear hro hro' hr hr' HF HG
          have hmx : Tryz.prog.follows .mixedOrders = true := by kernel_rfl
          have i0 : (0 : Int) ≤ (j : Int) := by omega
          have HCC : Hid (∀ W, Below wr.heap.size wr W → Calls Tryz.prog 16 #[.agg #[.int .u8 k, S t, .slice nr ns.length nc, .slice kr ks.len kc, .int .u8 dk, .int .i64 dn, S dt, .slice dr ds.len dc, .bool dd], .agg #[.int .u8 k', S t', .slice nr' ns'.length nc', .slice kr' ks'.len kc', .int .u8 dk', .int .i64 dn', S dt', .slice dr' ds'.len dc', .bool dd']] W fun e w' => BoolOut ((⟨k, t, ns, ks, ⟨dk, dn, dt, ds, dd⟩⟩ : Frm) = ⟨k', t', ns', ks', ⟨dk', dn', dt', ds', dd'⟩⟩) e ∧ Below W.heap.size W w') := fun W hb => HS.out ks.sz (by omega) ⟨k, t, ns, ks, ⟨dk, dn, dt, ds, dd⟩⟩ ⟨k', t', ns', ks', ⟨dk', dn', dt', ds', dd'⟩⟩ nr kr dr nr' kr' dr' nc kc dc nc' kc' dc' W (Nat.le_refl _) HFo.out.1 HFo.out.2.1 HGo.out.1 HGo.out.2.1 (HRo.out.below hb) (HRo'.out.below hb)
          go_wp2_with fail
          first
          | go_region_held3 (fun wx => (((wx.cell? ⟨b, o + j * 9, none⟩ = some (.int .u8 k) ∧ wx.cell? ⟨b, o + j * 9 + 1, none⟩ = some (S t) ∧ wx.cell? ⟨b, o + j * 9 + 1 + 1, none⟩ = some (.slice nr ns.length nc) ∧ wx.cell? ⟨b, o + j * 9 + 1 + 1 + 1, none⟩ = some (.slice kr ks.len kc) ∧ wx.cell? ⟨b, o + j * 9 + 1 + 1 + 1 + 1, none⟩ = some (.int .u8 dk) ∧ wx.cell? ⟨b, o + j * 9 + 1 + 1 + 1 + 1 + 1, none⟩ = some (.int .i64 dn) ∧ wx.cell? ⟨b, o + j * 9 + 1 + 1 + 1 + 1 + 1 + 1, none⟩ = some (S dt) ∧ wx.cell? ⟨b, o + j * 9 + 1 + 1 + 1 + 1 + 1 + 1 + 1, none⟩ = some (.slice dr ds.len dc) ∧ wx.cell? ⟨b, o + j * 9 + 1 + 1 + 1 + 1 + 1 + 1 + 1 + 1, none⟩ = some (.bool dd)) ∧ b < wx.heap.size) ∧ (wx.cell? ⟨b', o' + j * 9, none⟩ = some (.int .u8 k') ∧ wx.cell? ⟨b', o' + j * 9 + 1, none⟩ = some (S t') ∧ wx.cell? ⟨b', o' + j * 9 + 1 + 1, none⟩ = some (.slice nr' ns'.length nc') ∧ wx.cell? ⟨b', o' + j * 9 + 1 + 1 + 1, none⟩ = some (.slice kr' ks'.len kc') ∧ wx.cell? ⟨b', o' + j * 9 + 1 + 1 + 1 + 1, none⟩ = some (.int .u8 dk') ∧ wx.cell? ⟨b', o' + j * 9 + 1 + 1 + 1 + 1 + 1, none⟩ = some (.int .i64 dn') ∧ wx.cell? ⟨b', o' + j * 9 + 1 + 1 + 1 + 1 + 1 + 1, none⟩ = some (S dt') ∧ wx.cell? ⟨b', o' + j * 9 + 1 + 1 + 1 + 1 + 1 + 1 + 1, none⟩ = some (.slice dr' ds'.len dc') ∧ wx.cell? ⟨b', o' + j * 9 + 1 + 1 + 1 + 1 + 1 + 1 + 1 + 1, none⟩ = some (.bool dd')) ∧ b' < wx.heap.size)) (first | go_keep | exact keepT9 hb1 (by go_keep))
              (first | (go_at_call 16; refine Calls.mono (HCC.out _ (Below.refl _ _).drew) ?_; rintro e w1 ⟨⟨sb, rfl, hsb⟩, hb1⟩))
          | fail
          have HW : Hid (Below wr.heap.size wr w1) := (Below.refl _ wr).drew.trans hb1
          have HB1 : Hid (Below w.heap.size w w1) := HB.out.trans (HW.out.mono HB.out.size)
          have HSb : Hid _ := hsb
          clear hb1 h0 h1 h2 h3 h4 h5 h6 h7 h8 h0' h1' h2' h3' h4' h5' h6' h7' h8' hsb HCC
          cases sb
          · have HNe : Hid (f ≠ g) := fun e => by
              have e2 := HQ.out e
              injection e2 with e3 e4 e5 e6 e7 e8 e9 e10 e11 e12
              have := HSb.out (by rw [e3, e4, e5, e6, e7, e8, e9, e10, e11])
              cases this
            clear HSb
            go_wp2
            go_ret
            exact ⟨⟨false, rfl, fun e => absurd e HNe.out⟩, HB1.out⟩
          · have HQ2 : Hid (f = g → r = r') := fun e => by
              have e2 := HQ.out e
              injection e2
            clear HSb
            go_wp2
            go_roundw
            case rel => exact ⟨j + 1, r, r', by go_num, by omega, by omega, by omega, by rw [show o + (j + 1) * 9 = o + j * 9 + 9 by omega]; exact Hr.out.below HW.out, by rw [show o' + (j + 1) * 9 = o' + j * 9 + 9 by omega]; exact Hr'.out.below HW.out, HQ2, ⟨HFo.out.2.2, HGo.out.2.2⟩, HB1⟩
            case measure => simp [intOf]; omega
  · have HNe : Hid (f ≠ g) := fun e => hl (by rw [e])
    have h2 : ((f.len : Int) == (g.len : Int)) = false := by simp; omega
    clear h hR hR' HS hl
    go_enter Tryz.func53, Tryz.ntmps53
    go_wp2
    go_ret
    exact ⟨⟨false, rfl, fun e => absurd e HNe.out⟩, Below.refl _ _⟩
theorem sameFs_all : ∀ N, SameFsC N := fun N => by
  induction N using Nat.strongRecOn with
  | _ N ih => exact forms_of_same (fun M hM => sameF_of (ih M hM))
/-- SameForm, of any two forms. -/
theorem sameF_any (f : Frm) : SameFC f.kids.sz := sameF_of (sameFs_all _)
end Go.Proofs.YtkgnigloboajcaaGreatDoor
