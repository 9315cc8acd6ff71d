/- SameForm, SameForms.; has: is a form one of the Kids of another one.; Data of which some lie where they lay, some in new rows.; at: the datum to which a path leads.; plain.; OfDatum: how much a datum is.; FormsRound.; The five data in memory. -/
import Derived.Test.YtkgnigloboajcaaGreatDoorK41
import Derived.Test.YtkgnigloboajcaaGreatDoorHRm
import Derived.Deep.DeepCutAuto
import Derived.Deep.AppendLies
/- SameForm, SameForms. -/
namespace Go.Proofs.YtkgnigloboajcaaGreatDoor
open Go.RowKit

theorem keepT9 {W w6 : World} {b o b' o' : Nat} {v0 v1 v2 v3 v4 v5 v6 v7 v8 u0 u1 u2 u3 u4 u5 u6 u7 u8 : Option Value} (hb : Below W.heap.size W w6)
    (h : ((W.cell? ⟨b, o, none⟩ = v0 ∧ W.cell? ⟨b, o + 1, none⟩ = v1 ∧ W.cell? ⟨b, o + 1 + 1, none⟩ = v2 ∧ W.cell? ⟨b, o + 1 + 1 + 1, none⟩ = v3 ∧ W.cell? ⟨b, o + 1 + 1 + 1 + 1, none⟩ = v4 ∧ W.cell? ⟨b, o + 1 + 1 + 1 + 1 + 1, none⟩ = v5 ∧ W.cell? ⟨b, o + 1 + 1 + 1 + 1 + 1 + 1, none⟩ = v6 ∧ W.cell? ⟨b, o + 1 + 1 + 1 + 1 + 1 + 1 + 1, none⟩ = v7 ∧ W.cell? ⟨b, o + 1 + 1 + 1 + 1 + 1 + 1 + 1 + 1, none⟩ = v8) ∧ b < W.heap.size) ∧ (W.cell? ⟨b', o', none⟩ = u0 ∧ W.cell? ⟨b', o' + 1, none⟩ = u1 ∧ W.cell? ⟨b', o' + 1 + 1, none⟩ = u2 ∧ W.cell? ⟨b', o' + 1 + 1 + 1, none⟩ = u3 ∧ W.cell? ⟨b', o' + 1 + 1 + 1 + 1, none⟩ = u4 ∧ W.cell? ⟨b', o' + 1 + 1 + 1 + 1 + 1, none⟩ = u5 ∧ W.cell? ⟨b', o' + 1 + 1 + 1 + 1 + 1 + 1, none⟩ = u6 ∧ W.cell? ⟨b', o' + 1 + 1 + 1 + 1 + 1 + 1 + 1, none⟩ = u7 ∧ W.cell? ⟨b', o' + 1 + 1 + 1 + 1 + 1 + 1 + 1 + 1, none⟩ = u8) ∧ b' < W.heap.size) :
    ((w6.cell? ⟨b, o, none⟩ = v0 ∧ w6.cell? ⟨b, o + 1, none⟩ = v1 ∧ w6.cell? ⟨b, o + 1 + 1, none⟩ = v2 ∧ w6.cell? ⟨b, o + 1 + 1 + 1, none⟩ = v3 ∧ w6.cell? ⟨b, o + 1 + 1 + 1 + 1, none⟩ = v4 ∧ w6.cell? ⟨b, o + 1 + 1 + 1 + 1 + 1, none⟩ = v5 ∧ w6.cell? ⟨b, o + 1 + 1 + 1 + 1 + 1 + 1, none⟩ = v6 ∧ w6.cell? ⟨b, o + 1 + 1 + 1 + 1 + 1 + 1 + 1, none⟩ = v7 ∧ w6.cell? ⟨b, o + 1 + 1 + 1 + 1 + 1 + 1 + 1 + 1, none⟩ = v8) ∧ b < w6.heap.size) ∧ (w6.cell? ⟨b', o', none⟩ = u0 ∧ w6.cell? ⟨b', o' + 1, none⟩ = u1 ∧ w6.cell? ⟨b', o' + 1 + 1, none⟩ = u2 ∧ w6.cell? ⟨b', o' + 1 + 1 + 1, none⟩ = u3 ∧ w6.cell? ⟨b', o' + 1 + 1 + 1 + 1, none⟩ = u4 ∧ w6.cell? ⟨b', o' + 1 + 1 + 1 + 1 + 1, none⟩ = u5 ∧ w6.cell? ⟨b', o' + 1 + 1 + 1 + 1 + 1 + 1, none⟩ = u6 ∧ w6.cell? ⟨b', o' + 1 + 1 + 1 + 1 + 1 + 1 + 1, none⟩ = u7 ∧ w6.cell? ⟨b', o' + 1 + 1 + 1 + 1 + 1 + 1 + 1 + 1, none⟩ = u8) ∧ b' < w6.heap.size := by
  obtain ⟨⟨⟨a0, a1, a2, a3, a4, a5, a6, a7, a8⟩, hg⟩, ⟨c0, c1, c2, c3, c4, c5, c6, c7, c8⟩, hg'⟩ := h
  have e : ∀ o, w6.cell? ⟨b, o, none⟩ = W.cell? ⟨b, o, none⟩ := fun o => hb.cell (p := ⟨b, o, none⟩) hg
  have e' : ∀ o, w6.cell? ⟨b', o, none⟩ = W.cell? ⟨b', o, none⟩ := fun o => hb.cell (p := ⟨b', o, none⟩) hg'
  exact ⟨⟨⟨(e _).trans a0, (e _).trans a1, (e _).trans a2, (e _).trans a3, (e _).trans a4, (e _).trans a5, (e _).trans a6, (e _).trans a7, (e _).trans a8⟩, Nat.lt_of_lt_of_le hg hb.size⟩, ⟨(e' _).trans c0, (e' _).trans c1, (e' _).trans c2, (e' _).trans c3, (e' _).trans c4, (e' _).trans c5, (e' _).trans c6, (e' _).trans c7, (e' _).trans c8⟩, Nat.lt_of_lt_of_le hg' hb.size⟩

/-- A truth, that is true where P holds. -/
def BoolOut (P : Prop) (e : Ending) : Prop := ∃ b : Bool, e = .returned (.bool b) ∧ (P → b = true)
def Fm.sz : Fm → Nat
  | .nil => 0
  | .cons _ _ _ ks _ _ _ _ _ r => ks.sz + r.sz + 1
def SameFC (N : Nat) : Prop := ∀ (f g : Frm) (nr kr dr nr' kr' dr' : Option Addr) (nc kc dc nc' kc' dc' : Nat) (w : World), f.kids.sz ≤ N → FOk f → f.kids.oks → FOk g → g.kids.oks → RFo w f nr kr dr → RFo w g nr' kr' dr' →
  Calls Tryz.prog 16 #[frmV f (.slice nr f.names.length nc) (.slice kr f.kids.len kc) (.slice dr f.dat.s.len dc), frmV g (.slice nr' g.names.length nc') (.slice kr' g.kids.len kc') (.slice dr' g.dat.s.len dc')] w fun e w' => BoolOut (f = g) e ∧ Below w.heap.size w w'
def SameFsC (N : Nat) : Prop := ∀ (f g : Fm) (ra rb : Option Addr) (ca cb : Nat) (w : World), f.sz ≤ N → f.len ≤ 1000000 → g.len ≤ 1000000 → f.oks → g.oks → RSF w ra f → RSF w rb g →
  Calls Tryz.prog 53 #[.slice ra f.len ca, .slice rb g.len cb] w fun e w' => BoolOut (f = g) e ∧ Below w.heap.size w w'

set_option maxRecDepth 100000 in
set_option maxHeartbeats 8000000 in
theorem sameF_of {N : Nat} (h : SameFsC N) : SameFC N := by
  intro f g nr kr dr nr' kr' dr' nc kc dc nc' kc' dc' w hN hF hO hG hP hR hS
  obtain ⟨W1, hW1⟩ : ∃ W1, w.alloc (Z9 f (.slice nr f.names.length nc) (.slice kr f.kids.len kc) (.slice dr f.dat.s.len dc)) = W1 := ⟨_, rfl⟩
  have a1 := (Below.refl _ w).alloc (Nat.le_refl w.heap.size) (Z9 f (.slice nr f.names.length nc) (.slice kr f.kids.len kc) (.slice dr f.dat.s.len dc))
  have q1 := World.alloc_heap_new w (Z9 f (.slice nr f.names.length nc) (.slice kr f.kids.len kc) (.slice dr f.dat.s.len dc))
  rw [hW1] at a1 q1
  obtain ⟨W2, hW2⟩ : ∃ W2, W1.alloc (Z9 g (.slice nr' g.names.length nc') (.slice kr' g.kids.len kc') (.slice dr' g.dat.s.len dc')) = W2 := ⟨_, rfl⟩
  have a2 := (Below.refl _ W1).alloc (Nat.le_refl W1.heap.size) (Z9 g (.slice nr' g.names.length nc') (.slice kr' g.kids.len kc') (.slice dr' g.dat.s.len dc'))
  have q2 := World.alloc_heap_new W1 (Z9 g (.slice nr' g.names.length nc') (.slice kr' g.kids.len kc') (.slice dr' g.dat.s.len dc'))
  rw [hW2] at a2 q2
  have hb12 : Below w.heap.size w W2 := a1.trans (a2.mono a1.size)
  have q1' := (a2.block _ (Array.getElem?_eq_some_iff.1 q1).1).trans q1
  have HB2 : Hid (Below w.heap.size w W2) := hb12
  have HQ1 : Hid _ := q1'
  have HQ2 : Hid _ := q2
  have HR : Hid (RFo W2 f nr kr dr) := hR.below hb12
  have HS : Hid (RFo W2 g nr' kr' dr') := hS.below hb12
  have HF : Hid (FOk f) := hF
  have HG : Hid (FOk g) := hG
  have HCC : Hid (∀ w', Below W2.heap.size W2 w' → Calls Tryz.prog 53 #[.slice kr f.kids.len kc, .slice kr' g.kids.len kc'] w' fun e w2 => BoolOut (f.kids = g.kids) e ∧ Below w'.heap.size w' w2) := fun w' hb => h f.kids g.kids kr kr' kc kc' w' hN hF.kl hG.kl hO hP (HR.out.k.below hb) (HS.out.k.below hb)
  have HCX : Hid (∀ w', Below W2.heap.size W2 w' → Calls Tryz.prog 31 #[.slice nr f.names.length nc, .slice nr' g.names.length nc'] w' fun e w2 => e = .returned (.bool (decide (f.names = g.names))) ∧ Below w'.heap.size w' w2) := fun w' hb => sameX_any f.names g.names nr nr' nc nc' w' (by have := hF.nl; unfold maxLen; omega) (by have := hG.nl; unfold maxLen; omega) (HR.out.n.rx.below hb) (HS.out.n.rx.below hb)
  have HCD : Hid (∀ w', Below W2.heap.size W2 w' → Calls Tryz.prog 30 #[datV f.dat (.slice dr f.dat.s.len dc), datV g.dat (.slice dr' g.dat.s.len dc')] w' fun e w2 => e = .returned (.bool (sameB f.dat.k f.dat.n f.dat.t f.dat.s f.dat.d g.dat.k g.dat.n g.dat.t g.dat.s g.dat.d)) ∧ Below w'.heap.size w' w2) := fun w' hb => sameDat_any f.dat.s.size f.dat.k f.dat.n f.dat.t f.dat.s f.dat.d dr dc g.dat.k g.dat.n g.dat.t g.dat.s g.dat.d dr' dc' w' (Nat.le_refl _) (by have := hF.d.len; unfold maxLen; omega) (by have := hG.d.len; unfold maxLen; omega) (HR.out.d.below hb) (HS.out.d.below hb)
  have HSB : Hid (f = g → sameB f.dat.k f.dat.n f.dat.t f.dat.s f.dat.d g.dat.k g.dat.n g.dat.t g.dat.s g.dat.d = true) := fun e => by subst e; simp [sameB, (Fo.same_iff _ _).2 rfl]
  obtain ⟨⟨z0, z1, z2, z3, z4, z5, z6, z7, z8⟩, _⟩ := cells9 q1'
  obtain ⟨⟨y0, y1, y2, y3, y4, y5, y6, y7, y8⟩, _⟩ := cells9 q2
  clear h hN hF hO hG hP hR hS a1 q1 a2 q2 hb12 q1'
  cases hk : (f.kind == g.kind) with
  | false =>
    have HN : Hid (f ≠ g) := fun e => by subst e; simp at hk
    have HK : Hid _ := hk
    go_enter Tryz.func16, Tryz.ntmps16
    go_upto_region 1 with fail
    clear hW1 hW2
    go_wp2
    go_ret
    exact ⟨⟨false, rfl, fun e => absurd e HN.out⟩, HB2.out⟩
  | true =>
  have HK : Hid (f.kind = g.kind) := (by simpa using hk : f.kind = g.kind)
  by_cases ht : f.text = g.text
  case neg =>
    have HN : Hid (f ≠ g) := fun e => ht (by rw [e])
    have ht2 : (f.text == g.text) = false := by simpa using ht
    clear ht
    go_enter Tryz.func16, Tryz.ntmps16
    go_upto_region 1 with fail
    clear hW1 hW2
    go_wp2
    go_ret
    exact ⟨⟨false, rfl, fun e => absurd e HN.out⟩, HB2.out⟩
  have ht2 : (f.text == g.text) = true := by simpa using ht
  have HT : Hid (f.text = g.text) := ht
  clear ht
  go_enter Tryz.func16, Tryz.ntmps16
  go_upto_region 1 with fail
  clear hW1 hW2
  go_wp2_with fail
  refine Calls.mono (HCX.out W2 (Below.refl _ _)) ?_
  rintro e w3 ⟨rfl, hb3⟩
  have HB3 : Hid (Below W2.heap.size W2 w3) := hb3
  obtain ⟨bn, hbn⟩ : ∃ b, decide (f.names = g.names) = b := ⟨_, rfl⟩
  have HBN : Hid _ := hbn
  have HQ13 : Hid _ := (hb3.block _ (Array.getElem?_eq_some_iff.1 HQ1.out).1).trans HQ1.out
  have HQ23 : Hid _ := (hb3.block _ (Array.getElem?_eq_some_iff.1 HQ2.out).1).trans HQ2.out
  rw [hbn]
  clear hbn hb3 z0 z1 z2 z3 z4 z5 z6 z7 z8 y0 y1 y2 y3 y4 y5 y6 y7 y8 HCX
  cases bn with
  | false =>
    have HN : Hid (f ≠ g) := fun e => by have := HBN.out; rw [e] at this; simp at this
    go_wp2
    go_ret
    exact ⟨⟨false, rfl, fun e => absurd e HN.out⟩, HB2.out.trans (HB3.out.mono HB2.out.size)⟩
  | true =>
  obtain ⟨⟨z0, z1, z2, z3, z4, z5, z6, z7, z8⟩, _⟩ := cells9 HQ13.out
  obtain ⟨⟨y0, y1, y2, y3, y4, y5, y6, y7, y8⟩, _⟩ := cells9 HQ23.out
  go_wp2_with fail
  refine Calls.mono (HCC.out w3 HB3.out) ?_
  rintro e w4 ⟨⟨bk, rfl, hbk⟩, hb4⟩
  have HBK : Hid _ := hbk
  have HB4 : Hid (Below W2.heap.size W2 w4) := HB3.out.trans (hb4.mono HB3.out.size)
  have HQ14 : Hid _ := (hb4.block _ (Array.getElem?_eq_some_iff.1 HQ13.out).1).trans HQ13.out
  have HQ24 : Hid _ := (hb4.block _ (Array.getElem?_eq_some_iff.1 HQ23.out).1).trans HQ23.out
  clear hbk hb4 z0 z1 z2 z3 z4 z5 z6 z7 z8 y0 y1 y2 y3 y4 y5 y6 y7 y8 HCC
  cases bk with
  | false =>
    have HN : Hid (f ≠ g) := fun e => by have := HBK.out (by rw [e]); cases this
    go_wp2
    go_ret
    exact ⟨⟨false, rfl, fun e => absurd e HN.out⟩, HB2.out.trans (HB4.out.mono HB2.out.size)⟩
  | true =>
  obtain ⟨⟨z0, z1, z2, z3, z4, z5, z6, z7, z8⟩, _⟩ := cells9 HQ14.out
  obtain ⟨⟨y0, y1, y2, y3, y4, y5, y6, y7, y8⟩, _⟩ := cells9 HQ24.out
  go_wp2_with fail
  refine Calls.mono (HCD.out w4 HB4.out) ?_
  rintro e w5 ⟨rfl, hb5⟩
  have HB5 : Hid (Below W2.heap.size W2 w5) := HB4.out.trans (hb5.mono HB4.out.size)
  clear hb5 z0 z1 z2 z3 z4 z5 z6 z7 z8 y0 y1 y2 y3 y4 y5 y6 y7 y8 HCD
  obtain ⟨bd, hbd⟩ : ∃ b, sameB f.dat.k f.dat.n f.dat.t f.dat.s f.dat.d g.dat.k g.dat.n g.dat.t g.dat.s g.dat.d = b := ⟨_, rfl⟩
  have HSB2 : Hid (f = g → bd = true) := by rw [← hbd]; exact HSB.out
  rw [hbd]
  clear hbd
  go_wp2
  go_ret
  exact ⟨⟨bd, rfl, HSB2.out⟩, HB2.out.trans (HB5.out.mono HB2.out.size)⟩


set_option maxRecDepth 100000 in
set_option maxHeartbeats 8000000 in
theorem forms_of_same {N : Nat} (h : ∀ M, M < N → SameFC M) : SameFsC N := by
  intro f g ra rb ca cb w hN hm hm' hO hO' hR hR'
  have HS : Hid (∀ M, M < N → SameFC M) := h
  by_cases hl : f.len = g.len
  · obtain ⟨b, o, hab, hRd⟩ := hR
    obtain ⟨b', o', hab', hRd'⟩ := hR'
    have HRd : Hid (RdF w f b o) := hRd
    have HRd' : Hid (RdF w g b' o') := hRd'
    have HLL : Hid (g.len = f.len) := hl.symm
    have HO : Hid f.oks := hO
    have HO' : Hid g.oks := hO'
    clear h hRd hRd' hO hO'
    have hra : f.len ≠ 0 → ra = some ⟨b, o, none⟩ := fun h => hab.resolve_left h
    have hrb : f.len ≠ 0 → rb = some ⟨b', o', none⟩ := fun h => hab'.resolve_left (by rw [← hl]; exact h)
    have Hra : Hid _ := hra
    have Hrb : Hid _ := hrb
    rw [← hl]
    clear hab hab' hra hrb hm' hl
    go_enter Tryz.func53, Tryz.ntmps53
    go_wp2
    go_loopw [5] (fun i wr => ∃ (j : Nat) (fi gi : Fm), i = .int .i64 j ∧ fi.len + j = f.len ∧ gi.len = fi.len ∧ fi.sz ≤ N ∧ Hid (RdF wr fi b (o + j * 9)) ∧ Hid (RdF wr gi b' (o' + j * 9)) ∧ Hid (f = g → fi = gi) ∧ Hid (fi.oks ∧ gi.oks) ∧ Hid (Below w.heap.size w wr)) (fun i _ => f.len - (intOf i).toNat)
    case atStart => exact ⟨0, f, g, rfl, by simp, HLL.out, hN, by simpa using HRd, by simpa using HRd', fun e => e, ⟨HO.out, HO'.out⟩, Below.refl _ _⟩
    case round =>
      obtain ⟨j, fi, gi, rfl, hj, hgl, hsz, HF, HG, HQ, HOO, HB⟩ := hrel
      cases fi with
      | nil =>
        have hj' : j = f.len := by simpa [Fm.len] using hj
        have hjl : ¬ ((j : Int) < (f.len : Int)) := by omega
        clear hj hj' hgl
        go_wp2
        go_ret
        exact ⟨⟨true, rfl, fun _ => rfl⟩, HB.out⟩
      | cons k t ns ks dk dn dt ds dd r =>
        cases gi with
        | nil => simp [Fm.len] at hgl
        | cons k' t' ns' ks' dk' dn' dt' ds' dd' r' =>
          obtain ⟨lt1, nr, nc, kr, kc, dr, dc, ⟨h0, h1, h2, h3, h4, h5, h6, h7, h8⟩, hro, hr⟩ := rdf_cons HF.out
          obtain ⟨lt2, nr', nc', kr', kc', dr', dc', ⟨h0', h1', h2', h3', h4', h5', h6', h7', h8'⟩, hro', hr'⟩ := rdf_cons HG.out
          simp only [Fm.len] at hj hgl
          simp only [Fm.sz] at hsz
          have hlt : j < f.len := by omega
          have hra := Hra.out (by omega)
          have hrb := Hrb.out (by omega)
          subst hra hrb
          have i1 : (j : Int) < (f.len : Int) := by omega
          have HRo : Hid (RFo wr ⟨k, t, ns, ks, ⟨dk, dn, dt, ds, dd⟩⟩ nr kr dr) := hro
          have HRo' : Hid (RFo wr ⟨k', t', ns', ks', ⟨dk', dn', dt', ds', dd'⟩⟩ nr' kr' dr') := hro'
          have Hr : Hid _ := hr
          have Hr' : Hid _ := hr'
          have HFo : Hid (FOk ⟨k, t, ns, ks, ⟨dk, dn, dt, ds, dd⟩⟩ ∧ ks.oks ∧ r.oks) := HOO.out.1
          have HGo : Hid (FOk ⟨k', t', ns', ks', ⟨dk', dn', dt', ds', dd'⟩⟩ ∧ ks'.oks ∧ r'.oks) := HOO.out.2
          clear hro hro' hr hr' HF HG
          have hmx : Tryz.prog.follows .mixedOrders = true := by kernel_rfl
          have i0 : (0 : Int) ≤ (j : Int) := by omega
          have HCC : Hid (∀ W, Below wr.heap.size wr W → Calls Tryz.prog 16 #[.agg #[.int .u8 k, S t, .slice nr ns.length nc, .slice kr ks.len kc, .int .u8 dk, .int .i64 dn, S dt, .slice dr ds.len dc, .bool dd], .agg #[.int .u8 k', S t', .slice nr' ns'.length nc', .slice kr' ks'.len kc', .int .u8 dk', .int .i64 dn', S dt', .slice dr' ds'.len dc', .bool dd']] W fun e w' => BoolOut ((⟨k, t, ns, ks, ⟨dk, dn, dt, ds, dd⟩⟩ : Frm) = ⟨k', t', ns', ks', ⟨dk', dn', dt', ds', dd'⟩⟩) e ∧ Below W.heap.size W w') := fun W hb => HS.out ks.sz (by omega) ⟨k, t, ns, ks, ⟨dk, dn, dt, ds, dd⟩⟩ ⟨k', t', ns', ks', ⟨dk', dn', dt', ds', dd'⟩⟩ nr kr dr nr' kr' dr' nc kc dc nc' kc' dc' W (Nat.le_refl _) HFo.out.1 HFo.out.2.1 HGo.out.1 HGo.out.2.1 (HRo.out.below hb) (HRo'.out.below hb)
          go_wp2_with fail
          first
          | go_region_held3 (fun wx => (((wx.cell? ⟨b, o + j * 9, none⟩ = some (.int .u8 k) ∧ wx.cell? ⟨b, o + j * 9 + 1, none⟩ = some (S t) ∧ wx.cell? ⟨b, o + j * 9 + 1 + 1, none⟩ = some (.slice nr ns.length nc) ∧ wx.cell? ⟨b, o + j * 9 + 1 + 1 + 1, none⟩ = some (.slice kr ks.len kc) ∧ wx.cell? ⟨b, o + j * 9 + 1 + 1 + 1 + 1, none⟩ = some (.int .u8 dk) ∧ wx.cell? ⟨b, o + j * 9 + 1 + 1 + 1 + 1 + 1, none⟩ = some (.int .i64 dn) ∧ wx.cell? ⟨b, o + j * 9 + 1 + 1 + 1 + 1 + 1 + 1, none⟩ = some (S dt) ∧ wx.cell? ⟨b, o + j * 9 + 1 + 1 + 1 + 1 + 1 + 1 + 1, none⟩ = some (.slice dr ds.len dc) ∧ wx.cell? ⟨b, o + j * 9 + 1 + 1 + 1 + 1 + 1 + 1 + 1 + 1, none⟩ = some (.bool dd)) ∧ b < wx.heap.size) ∧ (wx.cell? ⟨b', o' + j * 9, none⟩ = some (.int .u8 k') ∧ wx.cell? ⟨b', o' + j * 9 + 1, none⟩ = some (S t') ∧ wx.cell? ⟨b', o' + j * 9 + 1 + 1, none⟩ = some (.slice nr' ns'.length nc') ∧ wx.cell? ⟨b', o' + j * 9 + 1 + 1 + 1, none⟩ = some (.slice kr' ks'.len kc') ∧ wx.cell? ⟨b', o' + j * 9 + 1 + 1 + 1 + 1, none⟩ = some (.int .u8 dk') ∧ wx.cell? ⟨b', o' + j * 9 + 1 + 1 + 1 + 1 + 1, none⟩ = some (.int .i64 dn') ∧ wx.cell? ⟨b', o' + j * 9 + 1 + 1 + 1 + 1 + 1 + 1, none⟩ = some (S dt') ∧ wx.cell? ⟨b', o' + j * 9 + 1 + 1 + 1 + 1 + 1 + 1 + 1, none⟩ = some (.slice dr' ds'.len dc') ∧ wx.cell? ⟨b', o' + j * 9 + 1 + 1 + 1 + 1 + 1 + 1 + 1 + 1, none⟩ = some (.bool dd')) ∧ b' < wx.heap.size)) (first | go_keep | exact keepT9 hb1 (by go_keep))
              (first | (go_at_call 16; refine Calls.mono (HCC.out _ (Below.refl _ _).drew) ?_; rintro e w1 ⟨⟨sb, rfl, hsb⟩, hb1⟩))
          | fail
          have HW : Hid (Below wr.heap.size wr w1) := (Below.refl _ wr).drew.trans hb1
          have HB1 : Hid (Below w.heap.size w w1) := HB.out.trans (HW.out.mono HB.out.size)
          have HSb : Hid _ := hsb
          clear hb1 h0 h1 h2 h3 h4 h5 h6 h7 h8 h0' h1' h2' h3' h4' h5' h6' h7' h8' hsb HCC
          cases sb
          · have HNe : Hid (f ≠ g) := fun e => by
              have e2 := HQ.out e
              injection e2 with e3 e4 e5 e6 e7 e8 e9 e10 e11 e12
              have := HSb.out (by rw [e3, e4, e5, e6, e7, e8, e9, e10, e11])
              cases this
            clear HSb
            go_wp2
            go_ret
            exact ⟨⟨false, rfl, fun e => absurd e HNe.out⟩, HB1.out⟩
          · have HQ2 : Hid (f = g → r = r') := fun e => by
              have e2 := HQ.out e
              injection e2
            clear HSb
            go_wp2
            go_roundw
            case rel => exact ⟨j + 1, r, r', by go_num, by omega, by omega, by omega, by rw [show o + (j + 1) * 9 = o + j * 9 + 9 by omega]; exact Hr.out.below HW.out, by rw [show o' + (j + 1) * 9 = o' + j * 9 + 9 by omega]; exact Hr'.out.below HW.out, HQ2, ⟨HFo.out.2.2, HGo.out.2.2⟩, HB1⟩
            case measure => simp [intOf]; omega
  · have HNe : Hid (f ≠ g) := fun e => hl (by rw [e])
    have h2 : ((f.len : Int) == (g.len : Int)) = false := by simp; omega
    clear h hR hR' HS hl
    go_enter Tryz.func53, Tryz.ntmps53
    go_wp2
    go_ret
    exact ⟨⟨false, rfl, fun e => absurd e HNe.out⟩, Below.refl _ _⟩
theorem sameFs_all : ∀ N, SameFsC N := fun N => by
  induction N using Nat.strongRecOn with
  | _ N ih => exact forms_of_same (fun M hM => sameF_of (ih M hM))
/-- SameForm, of any two forms. -/
theorem sameF_any (f : Frm) : SameFC f.kids.sz := sameF_of (sameFs_all _)
end Go.Proofs.YtkgnigloboajcaaGreatDoor

/- has: is a form one of the Kids of another one. -/
namespace Go.Proofs.YtkgnigloboajcaaGreatDoor
open Go.RowKit

set_option maxRecDepth 100000 in
set_option maxHeartbeats 8000000 in
theorem has_any (g f : Frm) (nrg krg drg nr' kr' dr' : Option Addr) (ncg kcg dcg nc' kc' dc' : Nat) (w : World) (hG : FOk g) (hP : g.kids.oks) (hF : FOk f) (hO : f.kids.oks) (hR : RFo w g nrg krg drg) (hS : RFo w f nr' kr' dr') (hI : InF f g.kids) :
    Calls Tryz.prog 42 #[frmV g (.slice nrg g.names.length ncg) (.slice krg g.kids.len kcg) (.slice drg g.dat.s.len dcg), frmV f (.slice nr' f.names.length nc') (.slice kr' f.kids.len kc') (.slice dr' f.dat.s.len dc')] w fun e w' => e = .returned (.bool true) ∧ Below w.heap.size w w' := by
  obtain ⟨W1, hW1⟩ : ∃ W1, w.alloc (Z9 g (.slice nrg g.names.length ncg) (.slice krg g.kids.len kcg) (.slice drg g.dat.s.len dcg)) = W1 := ⟨_, rfl⟩
  have a1 := (Below.refl _ w).alloc (Nat.le_refl w.heap.size) (Z9 g (.slice nrg g.names.length ncg) (.slice krg g.kids.len kcg) (.slice drg g.dat.s.len dcg))
  have q1 := World.alloc_heap_new w (Z9 g (.slice nrg g.names.length ncg) (.slice krg g.kids.len kcg) (.slice drg g.dat.s.len dcg))
  rw [hW1] at a1 q1
  obtain ⟨W2, hW2⟩ : ∃ W2, W1.alloc (Z9 f (.slice nr' f.names.length nc') (.slice kr' f.kids.len kc') (.slice dr' f.dat.s.len dc')) = W2 := ⟨_, rfl⟩
  have a2 := (Below.refl _ W1).alloc (Nat.le_refl W1.heap.size) (Z9 f (.slice nr' f.names.length nc') (.slice kr' f.kids.len kc') (.slice dr' f.dat.s.len dc'))
  have q2 := World.alloc_heap_new W1 (Z9 f (.slice nr' f.names.length nc') (.slice kr' f.kids.len kc') (.slice dr' f.dat.s.len dc'))
  rw [hW2] at a2 q2
  have hb12 : Below w.heap.size w W2 := a1.trans (a2.mono a1.size)
  have q1' := (a2.block _ (Array.getElem?_eq_some_iff.1 q1).1).trans q1
  have HB2 : Hid (Below w.heap.size w W2) := hb12
  have HQ1 : Hid _ := q1'
  have HQ2 : Hid _ := q2
  have HRK : Hid (RSF W2 krg g.kids) := hR.k.below hb12
  have HSF : Hid (RFo W2 f nr' kr' dr') := hS.below hb12
  have HF : Hid (FOk f) := hF
  have HO : Hid f.kids.oks := hO
  have HP : Hid g.kids.oks := hP
  have HI : Hid (InF f g.kids) := hI
  have hkl := hG.kl
  clear hG hP hF hO hR hS hI a1 q1 a2 q2 hb12 q1'
  go_enter Tryz.func42, Tryz.ntmps42
  go_upto_region 2 with fail
  obtain ⟨b3, hb3⟩ : ∃ b3, W1.heap.size = b3 := ⟨_, rfl⟩
  have h2 := HQ2.out
  rw [hb3] at h2 ⊢
  have HQ3 : Hid (W2.heap[b3]? = some (Z9 f (.slice nr' f.names.length nc') (.slice kr' f.kids.len kc') (.slice dr' f.dat.s.len dc'))) := h2
  clear hW1 hW2 h2 hb3 HQ2
  obtain ⟨b, o, hab, hRd⟩ := HRK.out
  have Hra : Hid (g.kids.len ≠ 0 → krg = some ⟨b, o, none⟩) := fun h => hab.resolve_left h
  have HRd : Hid (RdF W2 g.kids b o) := hRd
  clear hab hRd HRK
  go_loopw [5, 6] (fun iv bv wr => ∃ (j : Nat) (gi : Fm), iv = .int .i64 j ∧ gi.len + j = g.kids.len ∧ Hid (RdF W2 gi b (o + j * 9)) ∧ Hid (InF f gi) ∧ Hid gi.oks ∧ Hid (Below W2.heap.size W2 wr)) (fun iv _ _ => g.kids.len - (intOf iv).toNat)
  case atStart => exact ⟨0, g.kids, rfl, by simp, by simpa using HRd, HI, HP, Below.refl _ _⟩
  case round =>
    obtain ⟨j, gi, rfl, hj, HG, HIn, HOk, HB⟩ := hrel
    cases gi with
    | nil => exact absurd HIn.out (fun h => h.elim)
    | cons k t ns ks dk dn dt ds dd r =>
      obtain ⟨lt0, nr, nc, kr, kc, dr, dc, ⟨g0, g1, g2, g3, g4, g5, g6, g7, g8⟩, hro, hr⟩ := rdf_cons HG.out
      simp only [Fm.len] at hj
      have hra := Hra.out (by omega)
      subst hra
      have i1 : (j : Int) < (g.kids.len : Int) := by omega
      have ec : ∀ o, wr.cell? ⟨b, o, none⟩ = W2.cell? ⟨b, o, none⟩ := fun o => HB.out.cell (p := ⟨b, o, none⟩) lt0
      have h0 := (ec _).trans g0
      have h1 := (ec _).trans g1
      have h2 := (ec _).trans g2
      have h3 := (ec _).trans g3
      have h4 := (ec _).trans g4
      have h5 := (ec _).trans g5
      have h6 := (ec _).trans g6
      have h7 := (ec _).trans g7
      have h8 := (ec _).trans g8
      have lt1 : b < wr.heap.size := Nat.lt_of_lt_of_le lt0 HB.out.size
      have hq3 := cy0 HQ3.out HB.out
      have lt3 := (Array.getElem?_eq_some_iff.1 hq3).1
      obtain ⟨⟨y0, y1, y2, y3, y4, y5, y6, y7, y8⟩, _⟩ := cells9 hq3
      obtain ⟨⟨z0, z1, z2, z3, z4, z5, z6, z7, z8⟩, _⟩ := cells9 (cy0 HQ1.out HB.out)
      have Hr : Hid (RdF W2 r b (o + j * 9 + 9)) := hr
      have HOo : Hid (FOk ⟨k, t, ns, ks, ⟨dk, dn, dt, ds, dd⟩⟩ ∧ ks.oks ∧ r.oks) := HOk.out
      have HNx : Hid ((⟨k, t, ns, ks, ⟨dk, dn, dt, ds, dd⟩⟩ : Frm) = f ∨ InF f r) := HIn.out
      have hmx : Tryz.prog.follows .mixedOrders = true := by kernel_rfl
      have HCC : Hid (∀ W, Below wr.heap.size wr W → Calls Tryz.prog 16 #[.agg #[.int .u8 k, S t, .slice nr ns.length nc, .slice kr ks.len kc, .int .u8 dk, .int .i64 dn, S dt, .slice dr ds.len dc, .bool dd], frmV f (.slice nr' f.names.length nc') (.slice kr' f.kids.len kc') (.slice dr' f.dat.s.len dc')] W fun e w' => BoolOut ((⟨k, t, ns, ks, ⟨dk, dn, dt, ds, dd⟩⟩ : Frm) = f) e ∧ Below W.heap.size W w') := fun W hb => sameF_any ⟨k, t, ns, ks, ⟨dk, dn, dt, ds, dd⟩⟩ ⟨k, t, ns, ks, ⟨dk, dn, dt, ds, dd⟩⟩ f nr kr dr nr' kr' dr' nc kc dc nc' kc' dc' W (Nat.le_refl _) HOo.out.1 HOo.out.2.1 HF.out HO.out (hro.below (HB.out.trans (hb.mono HB.out.size))) (HSF.out.below (HB.out.trans (hb.mono HB.out.size)))
      clear ec g0 g1 g2 g3 g4 g5 g6 g7 g8 hro hr hq3 lt0 z0 z1 z2 z4 z5 z6 z7 z8
      go_wp2_with fail
      first
      | go_region_held3 (fun wx => (((wx.cell? ⟨b, o + j * 9, none⟩ = some (.int .u8 k) ∧ wx.cell? ⟨b, o + j * 9 + 1, none⟩ = some (S t) ∧ wx.cell? ⟨b, o + j * 9 + 1 + 1, none⟩ = some (.slice nr ns.length nc) ∧ wx.cell? ⟨b, o + j * 9 + 1 + 1 + 1, none⟩ = some (.slice kr ks.len kc) ∧ wx.cell? ⟨b, o + j * 9 + 1 + 1 + 1 + 1, none⟩ = some (.int .u8 dk) ∧ wx.cell? ⟨b, o + j * 9 + 1 + 1 + 1 + 1 + 1, none⟩ = some (.int .i64 dn) ∧ wx.cell? ⟨b, o + j * 9 + 1 + 1 + 1 + 1 + 1 + 1, none⟩ = some (S dt) ∧ wx.cell? ⟨b, o + j * 9 + 1 + 1 + 1 + 1 + 1 + 1 + 1, none⟩ = some (.slice dr ds.len dc) ∧ wx.cell? ⟨b, o + j * 9 + 1 + 1 + 1 + 1 + 1 + 1 + 1 + 1, none⟩ = some (.bool dd)) ∧ b < wx.heap.size) ∧ (wx.cell? ⟨b3, 0, none⟩ = some (.int .u8 f.kind) ∧ wx.cell? ⟨b3, 1, none⟩ = some (S f.text) ∧ wx.cell? ⟨b3, 2, none⟩ = some (.slice nr' f.names.length nc') ∧ wx.cell? ⟨b3, 3, none⟩ = some (.slice kr' f.kids.len kc') ∧ wx.cell? ⟨b3, 4, none⟩ = some (.int .u8 f.dat.k) ∧ wx.cell? ⟨b3, 5, none⟩ = some (.int .i64 f.dat.n) ∧ wx.cell? ⟨b3, 6, none⟩ = some (S f.dat.t) ∧ wx.cell? ⟨b3, 7, none⟩ = some (.slice dr' f.dat.s.len dc') ∧ wx.cell? ⟨b3, 8, none⟩ = some (.bool f.dat.d)) ∧ b3 < wx.heap.size) ∧ wx.cell? ⟨w.heap.size, 3, none⟩ = some (.slice (some ⟨b, o, none⟩) g.kids.len kcg)) (first | go_keep | exact ⟨keepT9 hb1 (by go_keep), below_cells hb1 _ _ (by go_keep)⟩)
          (first | (go_at_call 16; refine Calls.mono (HCC.out _ (Below.refl _ _).drew) ?_; rintro e w1 ⟨⟨sb, rfl, hsb⟩, hb1⟩))
      | fail
      have HB1 : Hid (Below W2.heap.size W2 w1) := HB.out.trans (((Below.refl _ _).drew.trans hb1).mono HB.out.size)
      have HSb : Hid _ := hsb
      clear hb1 hsb HCC h0 h1 h2 h3 h4 h5 h6 h7 h8 y0 y1 y2 y3 y4 y5 y6 y7 y8 z3
      cases sb
      · have HN2 : Hid (InF f r) := HNx.out.resolve_left fun e => by have := HSb.out e; cases this
        go_wp2
        go_roundw
        case rel => exact ⟨j + 1, r, by go_num, by omega, by rw [show o + (j + 1) * 9 = o + j * 9 + 9 by omega]; exact Hr, HN2, HOo.out.2.2, HB1⟩
        case measure => simp [intOf]; omega
      · go_wp2
        go_ret
        exact ⟨rfl, HB2.out.trans (HB1.out.mono HB2.out.size)⟩
end Go.Proofs.YtkgnigloboajcaaGreatDoor

/- Data of which some lie where they lay, some in new rows. -/
namespace Go.Proofs.YtkgnigloboajcaaGreatDoor
open Go.RowKit

/-- The cells of a row of data; the Kids are read in an elder world, or lie in new rows; the blocks of these. -/
def VRow (W0 w : World) : Fo → List Value → List Nat → Prop
  | .nil, cs, bs => cs = [] ∧ bs = []
  | .cons k n t s d r, cs, bs => ∃ rk ck kbs rcs rbs, cs = .int .u8 k :: .int .i64 n :: S t :: .slice rk s.len ck :: .bool d :: rcs ∧ bs = kbs ++ rbs ∧ s.len ≤ maxLen ∧
      ((kbs = [] ∧ RS W0 rk s) ∨ ∃ g kcs kbs', rk = some ⟨g, 0, none⟩ ∧ kbs = g :: kbs' ∧ g < w.heap.size ∧ (∀ j u, kcs[j]? = some u → w.cell? ⟨g, j, none⟩ = some u) ∧ VRow W0 w s kcs kbs') ∧ VRow W0 w r rcs rbs
theorem cell_same {w w' : World} {g : Nat} (h : w'.heap[g]? = w.heap[g]?) (j : Nat) : w'.cell? ⟨g, j, none⟩ = w.cell? ⟨g, j, none⟩ := by
  simp only [World.cell?, h]
theorem VRow.kept {W0 w w' : World} (hs : w.heap.size ≤ w'.heap.size) : ∀ {f : Fo} {cs : List Value} {bs : List Nat}, VRow W0 w f cs bs → (∀ g ∈ bs, w'.heap[g]? = w.heap[g]?) → VRow W0 w' f cs bs
  | .nil, _, _, h, _ => h
  | .cons k n t s d r, cs, bs, ⟨rk, ck, kbs, rcs, rbs, hc, hb, hl, hk, hr⟩, hg => by
    refine ⟨rk, ck, kbs, rcs, rbs, hc, hb, hl, ?_, VRow.kept hs hr fun g h => hg g (by rw [hb]; simp [h])⟩
    rcases hk with hk | ⟨g, kcs, kbs', h1, h2, h3, h4, h5⟩
    · exact .inl hk
    · exact .inr ⟨g, kcs, kbs', h1, h2, Nat.lt_of_lt_of_le h3 hs, fun j u hj => (cell_same (hg g (by rw [hb, h2]; simp)) j).trans (h4 j u hj), VRow.kept hs h5 fun y hy => hg y (by rw [hb, h2]; simp [hy])⟩
theorem VRow.lt {W0 w : World} : ∀ {f : Fo} {cs : List Value} {bs : List Nat}, VRow W0 w f cs bs → ∀ g ∈ bs, g < w.heap.size
  | .nil, _, bs, h, g, hg => by rw [h.2] at hg; cases hg
  | .cons k n t s d r, cs, bs, ⟨rk, ck, kbs, rcs, rbs, hc, hb, hl, hk, hr⟩, g, hg => by
    rw [hb, List.mem_append] at hg
    rcases hg with hg | hg
    · rcases hk with ⟨h1, _⟩ | ⟨g', kcs, kbs', h1, h2, h3, h4, h5⟩
      · rw [h1] at hg; cases hg
      · rw [h2, List.mem_cons] at hg
        rcases hg with rfl | hg
        · exact h3
        · exact VRow.lt h5 g hg
    · exact VRow.lt hr g hg
theorem VRow.app {W0 w : World} : ∀ {f g : Fo} {cs cs' : List Value} {bs bs' : List Nat}, VRow W0 w f cs bs → VRow W0 w g cs' bs' → VRow W0 w (f.app g) (cs ++ cs') (bs ++ bs')
  | .nil, g, cs, cs', bs, bs', h, h' => by rw [h.1, h.2]; exact h'
  | .cons k n t s d r, g, cs, cs', bs, bs', ⟨rk, ck, kbs, rcs, rbs, hc, hb, hl, hk, hr⟩, h' =>
    ⟨rk, ck, kbs, rcs ++ cs', rbs ++ bs', by rw [hc]; rfl, by rw [hb]; simp, hl, hk, VRow.app hr h'⟩
theorem VRow.rd {W0 w : World} (hB : Below W0.heap.size W0 w) : ∀ {f : Fo} {cs : List Value} {bs : List Nat} {g o : Nat}, VRow W0 w f cs bs → g < w.heap.size → (∀ j u, cs[j]? = some u → w.cell? ⟨g, o + j, none⟩ = some u) → Rd w g o f
  | .nil, _, _, _, _, _, _, _ => trivial
  | .cons k n t s d r, cs, bs, g, o, ⟨rk, ck, kbs, rcs, rbs, hc, hb, hl, hk, hr⟩, hg, h => by
    subst hc
    refine ⟨⟨hg, h 0 _ rfl, h 1 _ rfl, h 2 _ rfl, h 4 _ rfl, hl⟩, ?_, VRow.rd hB hr hg fun j u hj => ?_⟩
    · rcases hk with ⟨_, hk⟩ | ⟨g', kcs, kbs', rfl, _, h3, h4, h5⟩
      · obtain ⟨b', o', hz, hs⟩ := hk.below hB
        exact ⟨rk, ck, b', o', h 3 _ rfl, hz, hs⟩
      · exact ⟨_, ck, g', 0, h 3 _ rfl, .inr rfl, VRow.rd hB h5 h3 fun j u hj => by rw [Nat.zero_add]; exact h4 j u hj⟩
    · have := h (j + 5) u (by simpa using hj)
      rwa [show o + (j + 5) = o + 5 + j by omega] at this
/-- What comes out: read in the elder world, or in a new row. -/
def VRes (W0 w w' : World) (rp : Option Addr) (s : Fo) : Prop := RS W0 rp s ∨ ∃ g kcs kbs, rp = some ⟨g, 0, none⟩ ∧ w.heap.size ≤ g ∧ g < w'.heap.size ∧ (∀ j u, kcs[j]? = some u → w'.cell? ⟨g, j, none⟩ = some u) ∧ VRow W0 w' s kcs kbs ∧ ∀ y ∈ kbs, w.heap.size ≤ y
theorem VRes.rs {W0 w w' : World} {rp : Option Addr} {s : Fo} (h : VRes W0 w w' rp s) (hB : Below W0.heap.size W0 w') : RS w' rp s := by
  rcases h with h | ⟨g, kcs, kbs, rfl, _, h2, h3, h4, _⟩
  · exact h.below hB
  · exact ⟨g, 0, .inr rfl, VRow.rd hB h4 h2 fun j u hj => by rw [Nat.zero_add]; exact h3 j u hj⟩
/-- As one element of a row. -/
theorem VRes.row {W0 w w' : World} {rp : Option Addr} {cp : Nat} {x : Dt} (h : VRes W0 w w' rp x.s) (hl : x.s.len ≤ maxLen) : ∃ bs, VRow W0 w' (x.fo .nil) [.int .u8 x.k, .int .i64 x.n, S x.t, .slice rp x.s.len cp, .bool x.d] bs ∧ ∀ y ∈ bs, w.heap.size ≤ y := by
  rcases h with h | ⟨g, kcs, kbs, rfl, h1, h2, h3, h4, h5⟩
  · exact ⟨[], ⟨rp, cp, [], [], [], rfl, rfl, hl, .inl ⟨rfl, h⟩, rfl, rfl⟩, fun y hy => by cases hy⟩
  · refine ⟨g :: kbs, ⟨_, cp, g :: kbs, [], [], rfl, by simp, hl, .inr ⟨g, kcs, kbs, rfl, rfl, h2, h3, h4⟩, rfl, rfl⟩, fun y hy => ?_⟩
    rw [List.mem_cons] at hy
    rcases hy with rfl | hy
    · exact h1
    · exact h5 y hy
end Go.Proofs.YtkgnigloboajcaaGreatDoor

/- at: the datum to which a path leads. -/
namespace Go.Proofs.YtkgnigloboajcaaGreatDoor
open Go.RowKit

theorem Rd.nd {w : World} : ∀ {f : Fo} {b o j : Nat} {x : Dt}, Rd w b o f → f.nd j = some x →
    (b < w.heap.size ∧ w.cell? ⟨b, o + j * 5, none⟩ = some (.int .u8 x.k) ∧ w.cell? ⟨b, o + j * 5 + 1, none⟩ = some (.int .i64 x.n) ∧ w.cell? ⟨b, o + j * 5 + 1 + 1, none⟩ = some (S x.t) ∧ w.cell? ⟨b, o + j * 5 + 1 + 1 + 1 + 1, none⟩ = some (.bool x.d) ∧ x.s.len ≤ maxLen) ∧
      ∃ rk ck, w.cell? ⟨b, o + j * 5 + 1 + 1 + 1, none⟩ = some (.slice rk x.s.len ck) ∧ RS w rk x.s
  | .nil, _, _, _, _, _, hx => by cases hx
  | .cons k n t s d r, b, o, 0, x, ⟨⟨h0, h1, h2, h3, h4, h5⟩, ⟨rk, ck, b', o', hk, hz, hs⟩, _⟩, hx => by
    cases hx
    rw [Nat.zero_mul, Nat.add_zero]
    exact ⟨⟨h0, h1, h2, h3, h4, h5⟩, rk, ck, hk, b', o', hz, hs⟩
  | .cons k n t s d r, b, o, j + 1, x, ⟨_, _, hr⟩, hx => by
    have := Rd.nd hr (j := j) hx
    rw [show o + 5 + j * 5 = o + (j + 1) * 5 by omega] at this
    exact this

end Go.Proofs.YtkgnigloboajcaaGreatDoor

/- plain. -/
namespace Go.Proofs.YtkgnigloboajcaaGreatDoor
open Go.RowKit

theorem DOk.s1 {x : Dt} {k n : Int} {t : List UInt8} {s : Fo} {d : Bool} {r : Fo} (h : DOk x) (e : x.s = .cons k n t s d r) : DOk ⟨k, n, t, s, d⟩ := by
  have h1 := h.size
  have h2 := h.tx
  rw [e] at h1 h2
  simp only [Fo.size] at h1
  exact ⟨by show s.size ≤ 1000000; omega, h2.1, h2.2.1⟩
end Go.Proofs.YtkgnigloboajcaaGreatDoor

/- OfDatum: how much a datum is. -/
namespace Go.Proofs.YtkgnigloboajcaaGreatDoor
open Go.RowKit

/-- How much a row of data is. -/
def Fo.am : Fo → Nat
  | .nil => 0
  | .cons _ _ t s _ r => 1 + t.length + s.am + r.am
def Dt.am (x : Dt) : Nat := 1 + x.t.length + x.s.am
theorem Fo.am_app : ∀ f g : Fo, (f.app g).am = f.am + g.am
  | .nil, g => by simp [Fo.app, Fo.am]
  | .cons _ _ _ _ _ r, g => by simp only [Fo.app, Fo.am, Fo.am_app r g]; omega
theorem Fo.am_size : ∀ f : Fo, f.size ≤ f.am
  | .nil => Nat.le_refl _
  | .cons _ _ t s _ r => by have h1 := Fo.am_size s; have h2 := Fo.am_size r; simp only [Fo.size, Fo.am]; omega
theorem Fo.am_tx : ∀ {f : Fo} {n : Nat}, f.am ≤ n → n ≤ 281474976710656 → f.tx
  | .nil, _, _, _ => trivial
  | .cons _ _ t s _ r, n, h, hn => by
    simp only [Fo.am] at h
    exact ⟨by omega, Fo.am_tx (n := n) (by omega) hn, Fo.am_tx (n := n) (by omega) hn⟩
theorem Dt.am_ok {x : Dt} {n : Nat} (h : x.am ≤ n) (hn : n ≤ 1000000) : DOk x := by
  unfold Dt.am at h
  have := Fo.am_size x.s
  exact ⟨by omega, by omega, Fo.am_tx (n := n) (by omega) (by omega)⟩
/-- All texts are as long as a text may be. -/
def Fo.sl : Fo → Prop
  | .nil => True
  | .cons _ _ t s _ r => t.length ≤ 281474976710656 ∧ s.sl ∧ r.sl

def OfDC (N : Nat) : Prop := ∀ (x : Dt) (rk : Option Addr) (ck L : Nat) (w : World), x.s.size ≤ N → L ≤ 2001 → RS w rk x.s → x.s.len ≤ maxLen → x.t.length ≤ 281474976710656 → x.s.sl →
  Calls Tryz.prog 44 #[datV x (.slice rk x.s.len ck), .int .i64 L] w fun e w' => (∃ v : Nat, e = .returned (.int .i64 v) ∧ v ≤ 281474976710657 + (2001 - L) * 2147483648 ∧ (v ≤ 2147483647 → v = x.am)) ∧ Below w.heap.size w w'

set_option maxRecDepth 100000 in
set_option maxHeartbeats 4000000 in
theorem ofD_of {N : Nat} (h : ∀ M, M < N → OfDC M) : OfDC N := by
  intro x rk ck L w hN hL hR hm ht hst
  have HC : Hid (∀ M, M < N → OfDC M) := h
  have HS : Hid (x.s.sl) := hst
  have hal : Below w.heap.size w (w.alloc (boxD x (.slice rk x.s.len ck))) := (Below.refl _ w).alloc (Nat.le_refl _) _
  have Hal : Hid _ := hal
  have HQ0 : Hid _ := World.alloc_heap_new w (boxD x (.slice rk x.s.len ck))
  have htl : (x.t.length : Int) ≤ 281474976710656 := by omega
  have hmm := hm
  unfold maxLen at hmm
  have HAm : Hid (x.am = 1 + x.t.length + x.s.am) := rfl
  obtain ⟨c0, c1, c2, c3, c4, _⟩ := cells5 HQ0.out
  obtain ⟨b, o, hab, hRd⟩ := hR
  have HRd : Hid (Rd w b o x.s) := hRd
  have Hra : Hid (x.s.len ≠ 0 → rk = some ⟨b, o, none⟩) := fun h => hab.resolve_left h
  clear h hst hal hRd hab
  by_cases h5 : 2000 < L
  · have h5' : (2000 : Int) < (L : Int) := by omega
    go_enter Tryz.func44, Tryz.ntmps44
    go_wp2
    go_ret
    exact ⟨⟨2147483648, rfl, by omega, fun h => absurd h (by omega)⟩, Hal.out⟩
  · have h5' : ¬ (2000 : Int) < (L : Int) := by omega
    go_enter Tryz.func44, Tryz.ntmps44
    go_upto_region 5 with fail
    clear c0 c1 c2 c3 c4
    go_loopw [5, 6] (fun nv i wr => ∃ (j n : Nat) (q fi : Fo), nv = .int .i64 n ∧ i = .int .i64 j ∧ fi.len + j = x.s.len ∧ fi.size ≤ x.s.size ∧ n ≤ 281474976710657 + (2001 - L) * 2147483648 ∧ Hid (x.s = q.app fi) ∧ Hid fi.sl ∧ Hid (Rd w b (o + j * 5) fi) ∧ Hid (Below w.heap.size w wr) ∧ Hid (wr.heap[w.heap.size]? = some (.cells #[.int .u8 x.k, .int .i64 x.n, S x.t, .slice rk x.s.len ck, .bool x.d] 32 (0, 0))) ∧ Hid (n ≤ 2147483647 → n = 1 + x.t.length + q.am)) (fun _ i _ => x.s.len - (intOf i).toNat)
    case atStart => exact ⟨0, 1 + x.t.length, .nil, x.s, by simp, rfl, by simp, Nat.le_refl _, by omega, rfl, HS, by simpa using HRd, Hal, HQ0, fun _ => by simp [Fo.am]⟩
    case round =>
      obtain ⟨j, n, q, fi, rfl, rfl, hj, hsz, hnb, HQq, HSi, HF, HBj, HQj, HQ⟩ := hrel
      obtain ⟨z0, z1, z2, z3, z4, _⟩ := cells5 HQj.out
      cases fi with
      | nil =>
        have hj' : j = x.s.len := by simpa [Fo.len] using hj
        have hjl : ¬ ((j : Int) < (x.s.len : Int)) := by omega
        have HE : Hid (n ≤ 2147483647 → n = x.am) := fun h => by rw [HAm.out, HQq.out, Fo.app_nil]; exact HQ.out h
        clear hj hj'
        go_wp2
        go_ret
        exact ⟨⟨n, rfl, hnb, HE.out⟩, HBj.out⟩
      | cons k' n' t' s' d' r' =>
        simp only [Fo.len] at hj
        simp only [Fo.size] at hsz
        have i1 : (j : Int) < (x.s.len : Int) := by omega
        by_cases hn : n ≤ 2147483647
        case neg =>
          have hn' : ¬ (n : Int) ≤ 2147483647 := by omega
          go_wp2
          go_ret
          exact ⟨⟨n, rfl, hnb, fun h => absurd h hn⟩, HBj.out⟩
        have hn' : (n : Int) ≤ 2147483647 := by omega
        obtain ⟨⟨g0, g1, g2, g3, g4, g5⟩, ⟨rk', ck', bk', ok', gk, gz, gs⟩, gr⟩ := HF.out
        have ec : ∀ o, wr.cell? ⟨b, o, none⟩ = w.cell? ⟨b, o, none⟩ := fun o => HBj.out.cell (p := ⟨b, o, none⟩) g0
        have h1 := (ec _).trans g1
        have h2 := (ec _).trans g2
        have h3 := (ec _).trans g3
        have h4 := (ec _).trans g4
        have hk := (ec _).trans gk
        have HRk : Hid (RS wr rk' s') := RS.below ⟨bk', ok', gz, gs⟩ HBj.out
        have Hr : Hid (Rd w b (o + j * 5 + 5) r') := gr
        have hra := Hra.out (by omega)
        subst hra
        have HSs : Hid (t'.length ≤ 281474976710656 ∧ s'.sl ∧ r'.sl) := HSi.out
        have HCC : Hid (Calls Tryz.prog 44 #[.agg #[.int .u8 k', .int .i64 n', S t', .slice rk' s'.len ck', .bool d'], .int .i64 ((L : Int) + 1)] wr fun e w' => (∃ v : Nat, e = .returned (.int .i64 v) ∧ v ≤ 281474976710657 + (2001 - (L + 1)) * 2147483648 ∧ (v ≤ 2147483647 → v = Dt.am ⟨k', n', t', s', d'⟩)) ∧ Below wr.heap.size wr w') := HC.out s'.size (by omega) ⟨k', n', t', s', d'⟩ rk' ck' (L + 1) wr (Nat.le_refl _) (by omega) HRk.out g5 HSs.out.1 HSs.out.2.1
        clear ec g0 g1 g2 g3 g4 g5 gk gz gs gr
        go_wp2_with fail
        refine HCC.out.mono ?_
        rintro e w4 ⟨⟨v, rfl, hv1, hv2⟩, hb4⟩
        have HB4 : Hid (Below w.heap.size w w4) := HBj.out.trans (hb4.mono HBj.out.size)
        have HQ4 : Hid _ := (hb4.block _ (Array.getElem?_eq_some_iff.1 HQj.out).1).trans HQj.out
        have HE : Hid (n + v ≤ 2147483647 → n + v = 1 + x.t.length + (q.app (.cons k' n' t' s' d' .nil)).am) := fun h => by
          have e1 := HQ.out hn
          have e2 := hv2 (by omega)
          rw [Fo.am_app]
          simp only [Fo.am, Dt.am] at e2 ⊢
          omega
        have hvi : (v : Int) ≤ 281474976710657 + 2001 * 2147483648 := by omega
        have hnv : n + v ≤ 281474976710657 + (2001 - L) * 2147483648 := by omega
        clear hb4 HCC hv2 z0 z1 z2 z3 z4 h1 h2 h3 h4 hk
        go_wp2_with fail
        go_roundw
        case rel => exact ⟨j + 1, n + v, q.app (.cons k' n' t' s' d' .nil), r', by go_num, by go_num, by omega, by omega, hnv, by show _ = _; rw [HQq.out, Fo.app_assoc]; rfl, HSs.out.2.2, by have := Hr.out; show Rd w b (o + (j + 1) * 5) r'; rw [show o + (j + 1) * 5 = o + j * 5 + 5 by omega]; exact this, HB4, HQ4, HE⟩
        case measure => simp [intOf]; omega
theorem ofD_all : ∀ N, OfDC N := fun N => by
  induction N using Nat.strongRecOn with
  | _ N ih => exact ofD_of ih
set_option maxRecDepth 100000 in
/-- OfDatum: at most the bound just if there is no more than that. -/
theorem ofDatum_any (x : Dt) (rk : Option Addr) (ck : Nat) (w : World) (hR : RS w rk x.s) (hm : x.s.len ≤ maxLen) (ht : x.t.length ≤ 281474976710656) (hs : x.s.sl) :
    Calls Tryz.prog 12 #[datV x (.slice rk x.s.len ck)] w fun e w' => (∃ v : Nat, e = .returned (.int .i64 v) ∧ v ≤ 5000000000000 + 281474976710657 ∧ (v ≤ 2147483647 → v = x.am)) ∧ Below w.heap.size w w' := by
  obtain ⟨W1, hW1⟩ : ∃ W1, w.alloc (boxD x (.slice rk x.s.len ck)) = W1 := ⟨_, rfl⟩
  have a1 := (Below.refl _ w).alloc (Nat.le_refl w.heap.size) (boxD x (.slice rk x.s.len ck))
  have q0 := World.alloc_heap_new w (boxD x (.slice rk x.s.len ck))
  rw [hW1] at a1 q0
  have HC : Hid (Calls Tryz.prog 44 #[datV x (.slice rk x.s.len ck), .int .i64 0] W1 fun e w' => (∃ v : Nat, e = .returned (.int .i64 v) ∧ v ≤ 281474976710657 + (2001 - 0) * 2147483648 ∧ (v ≤ 2147483647 → v = x.am)) ∧ Below W1.heap.size W1 w') := ofD_all x.s.size x rk ck 0 W1 (Nat.le_refl _) (by omega) (hR.below a1) hm ht hs
  have HB1 : Hid _ := a1
  obtain ⟨c0, c1, c2, c3, c4, _⟩ := cells5 q0
  clear hR hm ht hs a1 q0
  go_enter Tryz.func12, Tryz.ntmps12
  go_upto_region 1 with fail
  clear hW1
  go_wp2_with fail
  refine HC.out.mono ?_
  rintro e w2 ⟨⟨v, rfl, hv1, hv2⟩, hb2⟩
  have HB2 : Hid (Below w.heap.size w w2) := HB1.out.trans (hb2.mono HB1.out.size)
  have HV : Hid (v ≤ 2147483647 → v = x.am) := hv2
  have hv3 : v ≤ 5000000000000 + 281474976710657 := by omega
  clear hb2 hv2
  go_wp2
  go_ret
  exact ⟨⟨v, rfl, hv3, HV.out⟩, HB2.out⟩
end Go.Proofs.YtkgnigloboajcaaGreatDoor

/- FormsRound. -/
namespace Go.Proofs.YtkgnigloboajcaaGreatDoor
open Go.RowKit

theorem keepDD {W W' : World} {b g : Nat} {v0 v1 v2 v3 v4 u0 u1 u2 u3 u4 : Value} (hb : Below W.heap.size W W') (h : (W.cell? ⟨b, 0, none⟩ = some v0 ∧ W.cell? ⟨b, 1, none⟩ = some v1 ∧ W.cell? ⟨b, 2, none⟩ = some v2 ∧ W.cell? ⟨b, 3, none⟩ = some v3 ∧ W.cell? ⟨b, 4, none⟩ = some v4) ∧ (W.cell? ⟨g, 0, none⟩ = some u0 ∧ W.cell? ⟨g, 1, none⟩ = some u1 ∧ W.cell? ⟨g, 2, none⟩ = some u2 ∧ W.cell? ⟨g, 3, none⟩ = some u3 ∧ W.cell? ⟨g, 4, none⟩ = some u4)) :
    (W'.cell? ⟨b, 0, none⟩ = some v0 ∧ W'.cell? ⟨b, 1, none⟩ = some v1 ∧ W'.cell? ⟨b, 2, none⟩ = some v2 ∧ W'.cell? ⟨b, 3, none⟩ = some v3 ∧ W'.cell? ⟨b, 4, none⟩ = some v4) ∧ (W'.cell? ⟨g, 0, none⟩ = some u0 ∧ W'.cell? ⟨g, 1, none⟩ = some u1 ∧ W'.cell? ⟨g, 2, none⟩ = some u2 ∧ W'.cell? ⟨g, 3, none⟩ = some u3 ∧ W'.cell? ⟨g, 4, none⟩ = some u4) := ⟨keepD5 hb h.1, keepD5 hb h.2⟩
end Go.Proofs.YtkgnigloboajcaaGreatDoor

/- The five data in memory. -/
namespace Go.Proofs.YtkgnigloboajcaaGreatDoor
open Go.RowKit

theorem keepFF {W : World} {b c g : Nat} {a0 a1 a2 a3 a4 v0 v1 v2 v3 v4 u0 u1 u2 u3 u4 : Value} (hb : b ≠ g) (hc : c ≠ g) (h : (W.cell? ⟨b, 0, none⟩ = some v0 ∧ W.cell? ⟨b, 1, none⟩ = some v1 ∧ W.cell? ⟨b, 2, none⟩ = some v2 ∧ W.cell? ⟨b, 3, none⟩ = some v3 ∧ W.cell? ⟨b, 4, none⟩ = some v4) ∧ (W.cell? ⟨c, 0, none⟩ = some u0 ∧ W.cell? ⟨c, 1, none⟩ = some u1 ∧ W.cell? ⟨c, 2, none⟩ = some u2 ∧ W.cell? ⟨c, 3, none⟩ = some u3 ∧ W.cell? ⟨c, 4, none⟩ = some u4)) :
    ((((((W.setCell ⟨g, 0, none⟩ a0).setCell ⟨g, 1, none⟩ a1).setCell ⟨g, 2, none⟩ a2).setCell ⟨g, 3, none⟩ a3).setCell ⟨g, 4, none⟩ a4).cell? ⟨b, 0, none⟩ = some v0 ∧ (((((W.setCell ⟨g, 0, none⟩ a0).setCell ⟨g, 1, none⟩ a1).setCell ⟨g, 2, none⟩ a2).setCell ⟨g, 3, none⟩ a3).setCell ⟨g, 4, none⟩ a4).cell? ⟨b, 1, none⟩ = some v1 ∧ (((((W.setCell ⟨g, 0, none⟩ a0).setCell ⟨g, 1, none⟩ a1).setCell ⟨g, 2, none⟩ a2).setCell ⟨g, 3, none⟩ a3).setCell ⟨g, 4, none⟩ a4).cell? ⟨b, 2, none⟩ = some v2 ∧ (((((W.setCell ⟨g, 0, none⟩ a0).setCell ⟨g, 1, none⟩ a1).setCell ⟨g, 2, none⟩ a2).setCell ⟨g, 3, none⟩ a3).setCell ⟨g, 4, none⟩ a4).cell? ⟨b, 3, none⟩ = some v3 ∧ (((((W.setCell ⟨g, 0, none⟩ a0).setCell ⟨g, 1, none⟩ a1).setCell ⟨g, 2, none⟩ a2).setCell ⟨g, 3, none⟩ a3).setCell ⟨g, 4, none⟩ a4).cell? ⟨b, 4, none⟩ = some v4) ∧
    ((((((W.setCell ⟨g, 0, none⟩ a0).setCell ⟨g, 1, none⟩ a1).setCell ⟨g, 2, none⟩ a2).setCell ⟨g, 3, none⟩ a3).setCell ⟨g, 4, none⟩ a4).cell? ⟨c, 0, none⟩ = some u0 ∧ (((((W.setCell ⟨g, 0, none⟩ a0).setCell ⟨g, 1, none⟩ a1).setCell ⟨g, 2, none⟩ a2).setCell ⟨g, 3, none⟩ a3).setCell ⟨g, 4, none⟩ a4).cell? ⟨c, 1, none⟩ = some u1 ∧ (((((W.setCell ⟨g, 0, none⟩ a0).setCell ⟨g, 1, none⟩ a1).setCell ⟨g, 2, none⟩ a2).setCell ⟨g, 3, none⟩ a3).setCell ⟨g, 4, none⟩ a4).cell? ⟨c, 2, none⟩ = some u2 ∧ (((((W.setCell ⟨g, 0, none⟩ a0).setCell ⟨g, 1, none⟩ a1).setCell ⟨g, 2, none⟩ a2).setCell ⟨g, 3, none⟩ a3).setCell ⟨g, 4, none⟩ a4).cell? ⟨c, 3, none⟩ = some u3 ∧ (((((W.setCell ⟨g, 0, none⟩ a0).setCell ⟨g, 1, none⟩ a1).setCell ⟨g, 2, none⟩ a2).setCell ⟨g, 3, none⟩ a3).setCell ⟨g, 4, none⟩ a4).cell? ⟨c, 4, none⟩ = some u4) := ⟨keepF5 hb h.1, keepF5 hc h.2⟩
/-- A box of five cells is written. -/
theorem five_all {W : World} {b C : Nat} {a0 a1 a2 a3 a4 : Value} {t : TypeId} (h : W.heap[b]? = some (.cells #[a0, a1, a2, a3, a4] t (0, 0))) (hC : C ≤ b) (v0 v1 v2 v3 v4 : Value) :
    (five b W v0 v1 v2 v3 v4).heap[b]? = some (.cells #[v0, v1, v2, v3, v4] t (0, 0)) ∧ (∀ g, g ≠ b → (five b W v0 v1 v2 v3 v4).heap[g]? = W.heap[g]?) ∧ Below C W (five b W v0 v1 v2 v3 v4) := by
  refine ⟨five_at h _ _ _ _ _, fun g hg => five_other hg _ _ _ _ _, ?_⟩
  have b5 : ButB b b W (five b W v0 v1 v2 v3 v4) := (((((ButB.refl b b W).set (Nat.le_refl b) v0).set (Nat.le_refl b) v1).set (Nat.le_refl b) v2).set (Nat.le_refl b) v3).set (Nat.le_refl b) v4
  exact ⟨b5.os, b5.tape, b5.output, b5.size, fun k hk => five_other (by omega) _ _ _ _ _⟩
theorem ge_ne {W8 u : World} {b g : Nat} (hb : Below W8.heap.size W8 u) (l : b < W8.heap.size) (hg : u.heap.size = g) : g ≠ b := by
  have := hb.size
  omega

theorem rs_sym {W : World} {b o : Nat} {t : List UInt8} (hg : b < W.heap.size) (h0 : W.cell? ⟨b, o, none⟩ = some (.int .u8 2)) (h1 : W.cell? ⟨b, o + 1, none⟩ = some (.int .i64 0)) (h2 : W.cell? ⟨b, o + 1 + 1, none⟩ = some (S t)) (h3 : W.cell? ⟨b, o + 1 + 1 + 1, none⟩ = some (.slice none 0 0)) (h4 : W.cell? ⟨b, o + 1 + 1 + 1 + 1, none⟩ = some (.bool false)) {r : Fo} (hr : Rd W b (o + 5) r) : Rd W b o (Dt.fo (symD t) r) :=
  ⟨⟨hg, h0, h1, h2, h4, Nat.zero_le _⟩, ⟨none, 0, 0, 0, h3, .inl rfl, trivial⟩, hr⟩
theorem rs_one {W : World} {b o : Nat} (hg : b < W.heap.size) (h0 : W.cell? ⟨b, o, none⟩ = some (.int .u8 1)) (h1 : W.cell? ⟨b, o + 1, none⟩ = some (.int .i64 1)) (h2 : W.cell? ⟨b, o + 1 + 1, none⟩ = some (S [])) (h3 : W.cell? ⟨b, o + 1 + 1 + 1, none⟩ = some (.slice none 0 0)) (h4 : W.cell? ⟨b, o + 1 + 1 + 1 + 1, none⟩ = some (.bool false)) {r : Fo} (hr : Rd W b (o + 5) r) : Rd W b o (oneD.fo r) :=
  ⟨⟨hg, h0, h1, h2, h4, Nat.zero_le _⟩, ⟨none, 0, 0, 0, h3, .inl rfl, trivial⟩, hr⟩
theorem rs_any {W : World} {b o : Nat} {x : Dt} {rk : Option Addr} {ck : Nat} (hg : b < W.heap.size) (h0 : W.cell? ⟨b, o, none⟩ = some (.int .u8 x.k)) (h1 : W.cell? ⟨b, o + 1, none⟩ = some (.int .i64 x.n)) (h2 : W.cell? ⟨b, o + 1 + 1, none⟩ = some (S x.t)) (h3 : W.cell? ⟨b, o + 1 + 1 + 1, none⟩ = some (.slice rk x.s.len ck)) (h4 : W.cell? ⟨b, o + 1 + 1 + 1 + 1, none⟩ = some (.bool x.d)) (hm : x.s.len ≤ maxLen) (hs : RS W rk x.s) {r : Fo} (hr : Rd W b (o + 5) r) : Rd W b o (x.fo r) := by
  obtain ⟨b', o', hz, hq⟩ := hs
  exact ⟨⟨hg, h0, h1, h2, h4, hm⟩, ⟨rk, ck, b', o', h3, hz, hq⟩, hr⟩
abbrev R0 (x : Dt) (rk : Option Addr) (ck : Nat) : Obj := .cells #[.int .u8 2, .int .i64 0, S [105, 102], .slice none 0 0, .bool false, .int .u8 1, .int .i64 1, .string ⟨#[]⟩, .slice none 0 0, .bool false, .int .u8 x.k, .int .i64 x.n, S x.t, .slice rk x.s.len ck, .bool x.d, .int .u8 1, .int .i64 1, .string ⟨#[]⟩, .slice none 0 0, .bool false] 32
theorem rs_w0 {W : World} {g : Nat} {x : Dt} {rk : Option Addr} {ck : Nat} (q : W.heap[g]? = some (R0 x rk ck)) (hs : RS W rk x.s) (hm : x.s.len ≤ maxLen) : RS W (some ⟨g, 0, none⟩) (wx0 x).s := by
  have hg := (Array.getElem?_eq_some_iff.1 q).1
  refine ⟨g, 0, .inr rfl, rs_sym hg ?_ ?_ ?_ ?_ ?_ (rs_one hg ?_ ?_ ?_ ?_ ?_ (rs_any (ck := ck) hg ?_ ?_ ?_ ?_ ?_ hm hs (rs_one hg ?_ ?_ ?_ ?_ ?_ trivial)))⟩ <;> simp [World.cell?, q]
abbrev R1 (x : Dt) (rk : Option Addr) (ck : Nat) : Obj := .cells #[.int .u8 2, .int .i64 0, S [108, 97, 109, 98, 100, 97], .slice none 0 0, .bool false, .int .u8 5, .int .i64 0, S [], .slice none 0 0, .bool false, .int .u8 1, .int .i64 1, .string ⟨#[]⟩, .slice none 0 0, .bool false, .int .u8 x.k, .int .i64 x.n, S x.t, .slice rk x.s.len ck, .bool x.d] 32
theorem rs_w1 {W : World} {g : Nat} {x : Dt} {rk : Option Addr} {ck : Nat} (q : W.heap[g]? = some (R1 x rk ck)) (hs : RS W rk x.s) (hm : x.s.len ≤ maxLen) : RS W (some ⟨g, 0, none⟩) (wx1 x).s := by
  have hg := (Array.getElem?_eq_some_iff.1 q).1
  refine ⟨g, 0, .inr rfl, rs_sym hg ?_ ?_ ?_ ?_ ?_ (rs_any (x := listD .nil) (rk := none) (ck := 0) hg ?_ ?_ ?_ ?_ ?_ (Nat.zero_le _) (rs_nil _ _) (rs_one hg ?_ ?_ ?_ ?_ ?_ (rs_any (ck := ck) hg ?_ ?_ ?_ ?_ ?_ hm hs trivial)))⟩ <;> simp [World.cell?, q, listD, Fo.len]
abbrev R2a (x : Dt) (rk : Option Addr) (ck : Nat) : Obj := .cells #[.int .u8 2, .int .i64 0, S [120], .slice none 0 0, .bool false, .int .u8 x.k, .int .i64 x.n, S x.t, .slice rk x.s.len ck, .bool x.d] 32
abbrev R2b (ga : Nat) : Obj := .cells #[.int .u8 5, .int .i64 0, S [], .slice (some ⟨ga, 0, none⟩) 2 2, .bool false] 32
abbrev R2 (gb : Nat) : Obj := .cells #[.int .u8 2, .int .i64 0, S [108, 101, 116], .slice none 0 0, .bool false, .int .u8 5, .int .i64 0, S [], .slice (some ⟨gb, 0, none⟩) 1 1, .bool false, .int .u8 1, .int .i64 1, .string ⟨#[]⟩, .slice none 0 0, .bool false] 32
theorem rs_w2 {W : World} {ga gb g : Nat} {x : Dt} {rk : Option Addr} {ck : Nat} (qa : W.heap[ga]? = some (R2a x rk ck)) (qb : W.heap[gb]? = some (R2b ga)) (q : W.heap[g]? = some (R2 gb)) (hs : RS W rk x.s) (hm : x.s.len ≤ maxLen) : RS W (some ⟨g, 0, none⟩) (wx2 x).s := by
  have hga := (Array.getElem?_eq_some_iff.1 qa).1
  have hgb := (Array.getElem?_eq_some_iff.1 qb).1
  have hg := (Array.getElem?_eq_some_iff.1 q).1
  have ra : RS W (some ⟨ga, 0, none⟩) (listD (Dt.fo (symD [120]) (x.fo .nil))).s := by
    refine ⟨ga, 0, .inr rfl, rs_sym hga ?_ ?_ ?_ ?_ ?_ (rs_any (ck := ck) hga ?_ ?_ ?_ ?_ ?_ hm hs trivial)⟩ <;> simp [World.cell?, qa]
  have rb : RS W (some ⟨gb, 0, none⟩) (listD ((listD (Dt.fo (symD [120]) (x.fo .nil))).fo .nil)).s := by
    refine ⟨gb, 0, .inr rfl, rs_any (x := listD (Dt.fo (symD [120]) (x.fo .nil))) (ck := 2) hgb ?_ ?_ ?_ ?_ ?_ (by show 2 ≤ maxLen; unfold maxLen; omega) ra trivial⟩ <;> simp [World.cell?, qb, listD, Fo.len, Dt.fo]
  refine ⟨g, 0, .inr rfl, rs_sym hg ?_ ?_ ?_ ?_ ?_ (rs_any (x := listD ((listD (Dt.fo (symD [120]) (x.fo .nil))).fo .nil)) (ck := 1) hg ?_ ?_ ?_ ?_ ?_ (by show 1 ≤ maxLen; unfold maxLen; omega) rb (rs_one hg ?_ ?_ ?_ ?_ ?_ trivial))⟩ <;> simp [World.cell?, q, listD, Fo.len, Dt.fo]
abbrev R3 (x : Dt) (rk : Option Addr) (ck : Nat) : Obj := .cells #[.int .u8 2, .int .i64 0, S [108, 101, 116], .slice none 0 0, .bool false, .int .u8 5, .int .i64 0, S [], .slice none 0 0, .bool false, .int .u8 x.k, .int .i64 x.n, S x.t, .slice rk x.s.len ck, .bool x.d] 32
theorem rs_w3 {W : World} {g : Nat} {x : Dt} {rk : Option Addr} {ck : Nat} (q : W.heap[g]? = some (R3 x rk ck)) (hs : RS W rk x.s) (hm : x.s.len ≤ maxLen) : RS W (some ⟨g, 0, none⟩) (wx3 x).s := by
  have hg := (Array.getElem?_eq_some_iff.1 q).1
  refine ⟨g, 0, .inr rfl, rs_sym hg ?_ ?_ ?_ ?_ ?_ (rs_any (x := listD .nil) (rk := none) (ck := 0) hg ?_ ?_ ?_ ?_ ?_ (Nat.zero_le _) (rs_nil _ _) (rs_any (ck := ck) hg ?_ ?_ ?_ ?_ ?_ hm hs trivial))⟩ <;> simp [World.cell?, q, listD, Fo.len]
abbrev R4 (x : Dt) (rk : Option Addr) (ck : Nat) : Obj := .cells #[.int .u8 2, .int .i64 0, S [115, 111, 109, 101], .slice none 0 0, .bool false, .int .u8 1, .int .i64 1, .string ⟨#[]⟩, .slice none 0 0, .bool false, .int .u8 x.k, .int .i64 x.n, S x.t, .slice rk x.s.len ck, .bool x.d] 32
theorem rs_w4 {W : World} {g : Nat} {x : Dt} {rk : Option Addr} {ck : Nat} (q : W.heap[g]? = some (R4 x rk ck)) (hs : RS W rk x.s) (hm : x.s.len ≤ maxLen) : RS W (some ⟨g, 0, none⟩) (wx4 x).s := by
  have hg := (Array.getElem?_eq_some_iff.1 q).1
  refine ⟨g, 0, .inr rfl, rs_sym hg ?_ ?_ ?_ ?_ ?_ (rs_one hg ?_ ?_ ?_ ?_ ?_ (rs_any (ck := ck) hg ?_ ?_ ?_ ?_ ?_ hm hs trivial))⟩ <;> simp [World.cell?, q]
/-- The five are not too much. -/
theorem wxs_dok {x : Dt} (h : DOk x) (ha : x.s.size ≤ 200000) (i : Nat) : DOk (wxs i x) := by
  have ht := h.t
  have hx := h.tx
  unfold wxs
  split
  · exact ⟨by show (0 + (0 + (x.s.size + (0 + 0 + 1) + 1) + 1) + 1) ≤ 1000000; omega, by show 0 ≤ 281474976710656; omega, ⟨by show 2 ≤ 281474976710656; omega, trivial, by show 0 ≤ 281474976710656; omega, trivial, ht, hx, by show 0 ≤ 281474976710656; omega, trivial, trivial⟩⟩
  split
  · exact ⟨by show (0 + (0 + (0 + (x.s.size + 0 + 1) + 1) + 1) + 1) ≤ 1000000; omega, by show 0 ≤ 281474976710656; omega, ⟨by show 6 ≤ 281474976710656; omega, trivial, by show 0 ≤ 281474976710656; omega, trivial, by show 0 ≤ 281474976710656; omega, trivial, ht, hx, trivial⟩⟩
  split
  · exact ⟨by show (0 + (((0 + (x.s.size + 0 + 1) + 1) + 0 + 1) + (0 + 0 + 1) + 1) + 1) ≤ 1000000; omega, by show 0 ≤ 281474976710656; omega, ⟨by show 3 ≤ 281474976710656; omega, trivial, by show 0 ≤ 281474976710656; omega, ⟨by show 0 ≤ 281474976710656; omega, ⟨by show 1 ≤ 281474976710656; omega, trivial, ht, hx, trivial⟩, trivial⟩, by show 0 ≤ 281474976710656; omega, trivial, trivial⟩⟩
  split
  · exact ⟨by show (0 + (0 + (x.s.size + 0 + 1) + 1) + 1) ≤ 1000000; omega, by show 0 ≤ 281474976710656; omega, ⟨by show 3 ≤ 281474976710656; omega, trivial, by show 0 ≤ 281474976710656; omega, trivial, ht, hx, trivial⟩⟩
  · exact ⟨by show (0 + (0 + (x.s.size + 0 + 1) + 1) + 1) ≤ 1000000; omega, by show 0 ≤ 281474976710656; omega, ⟨by show 4 ≤ 281474976710656; omega, trivial, by show 0 ≤ 281474976710656; omega, trivial, ht, hx, trivial⟩⟩
theorem def_is {x : Dt} (h : okD x) (hd : isDef x = true) : x.k = 5 ∧ 0 < x.s.len ∧ x.s.hd.k = 2 ∧ x.s.hd.t = [100, 101, 102, 105, 110, 101] := by
  unfold isDef at hd
  simp only [Bool.and_eq_true, beq_iff_eq, bne_iff_ne] at hd
  have hl : 0 < x.s.len := by omega
  refine ⟨hd.1, hl, kw_sym (ok_hd h.2 hl) hd.2.2.2, ?_⟩
  have := shp_word hd.2.2.2
  exact this.symm
theorem def_no {x : Dt} (h : okD x) (hn : ¬ (x.k = 5 ∧ 0 < x.s.len ∧ x.s.hd.k = 2 ∧ x.s.hd.t = [100, 101, 102, 105, 110, 101])) : isDef x = false := by
  cases hd : isDef x with
  | false => rfl
  | true => exact absurd (def_is h hd) hn
theorem nd_am2 : ∀ {s : Fo} {j : Nat} {y : Dt}, s.nd j = some y → y.am ≤ s.am
  | .nil, _, _, h => by cases h
  | .cons k n t s d r, 0, y, h => by cases h; simp only [Dt.am, Fo.am]; omega
  | .cons k n t s d r, j + 1, y, h => by have := nd_am2 (s := r) h; simp only [Fo.am]; omega
theorem at_am2 : ∀ {p : List Int} {x y : Dt}, atM x p = some y → y.am + p.length ≤ x.am
  | [], x, y, h => by cases h; exact Nat.le_refl _
  | i :: p, x, y, h => by
    simp only [atM] at h
    split at h
    · split at h
      · rename_i z hz
        have h1 := at_am2 h
        have h2 := nd_am2 hz
        have h3 : x.am = 1 + x.t.length + x.s.am := rfl
        simp only [List.length_cons]
        omega
      · cases h
    · cases h
end Go.Proofs.YtkgnigloboajcaaGreatDoor
