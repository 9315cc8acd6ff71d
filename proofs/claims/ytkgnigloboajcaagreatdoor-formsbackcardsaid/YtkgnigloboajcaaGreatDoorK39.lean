/- Names.; Literals of data: what lies behind a region that draws its order.; What is owned is read. -/
import Derived.Test.YtkgnigloboajcaaGreatDoorK38
set_option maxRecDepth 100000
set_option maxHeartbeats 8000000
namespace Go.Proofs.YtkgnigloboajcaaGreatDoor
open Go.RowKit Go.Maps Go.ChangeMaps
theorem backM_ok {f:Frm} (h:(backM f).2=0):termsE false (f.fm .nil)=0:=by
 unfold backM at h
 split at h
 ·exact h
 ·rename_i h2;simpa using h2
theorem fnames_any (f:Frm) (nr kr dr:Option Addr) (nc kc dc:Nat) (w:World) (hF:FOk f) (hO:f.kids.oks) (hR:RFo w f nr kr dr) (hkc:f.kids.len≤kc) (hE:Env w) (hw:(f.fm .nil).wt≤900000) :
  Calls Tryz.prog 29 #[frmV f (.slice nr f.names.length nc) (.slice kr f.kids.len kc) (.slice dr f.dat.s.len dc)] w fun e w' => ∃v,e = .returned v∧w'.ownsRow w.heap.size 9 1 v (usesM f).length ((usesM f).map S)∧Below w.heap.size w w' := by
 obtain ⟨W1,hW1⟩:∃W1,w.alloc (Z9 f (.slice nr f.names.length nc) (.slice kr f.kids.len kc) (.slice dr f.dat.s.len dc))=W1:=⟨_,rfl⟩
 have a1:=(Below.refl _ w).alloc (Nat.le_refl w.heap.size) (Z9 f (.slice nr f.names.length nc) (.slice kr f.kids.len kc) (.slice dr f.dat.s.len dc))
 have q0:=World.alloc_heap_new w (Z9 f (.slice nr f.names.length nc) (.slice kr f.kids.len kc) (.slice dr f.dat.s.len dc))
 rw [hW1] at a1 q0
 have HB1:Hid (Below w.heap.size w W1):=a1
 have HC:Hid (Calls Tryz.prog 28 #[frmV f (.slice nr f.names.length nc) (.slice kr f.kids.len kc) (.slice dr f.dat.s.len dc)] W1 fun e w' => e = .returned (.int .i64 (backM f).2)∧Below W1.heap.size W1 w'):=fcheck_any f nr kr dr nc kc dc W1 hF hO (hR.below a1) hkc (hE.below a1) hw
 have HQ1:Hid _:=q0
 have HU:Hid (usesM f=if (backM f).2≠0 then [] else use1 (fun _=>0) f []):=rfl
 have HS:Hid ((backM f).2=0→ShB (f.fm .nil)):=fun h=>shb_of _ _ (backM_ok h)
 obtain ⟨⟨z0,z1,z2,z3,z4,z5,z6,z7,z8⟩,_⟩:=cells9 q0
 have HR:Hid (RFo w f nr kr dr):=hR
 have HE:Hid (Env w):=hE
 have HF:Hid (FOk f):=hF
 have HO:Hid f.kids.oks:=hO
 have Hkc:Hid (f.kids.len≤kc):=hkc
 have HN:Hid ((f.fm .nil).uc≤900000):=Nat.le_trans (uc_wt _) hw
 clear a1 q0 hF hO hR hkc hE hw
 go_enter Tryz.func29,Tryz.ntmps29
 go_upto_region 1 with fail
 clear hW1
 go_wp2_with fail
 refine Calls.mono HC.out ?_
 rintro e w2 ⟨rfl,hb2⟩
 have HB2:Hid (Below w.heap.size w w2):=HB1.out.trans (hb2.mono HB1.out.size)
 have HQ2:Hid _:=(hb2.block _ (Array.getElem?_eq_some_iff.1 HQ1.out).1).trans HQ1.out
 obtain ⟨y,hy⟩:∃y,(backM f).2=y:=⟨_,rfl⟩
 rw [hy] at HU HS ⊢
 clear hb2 z0 z1 z2 z3 z4 z5 z6 z7 z8 hy HC
 by_cases h0:y=0
 case neg =>
  have b0:(y != 0)=true:=by simpa using h0
  have H:Hid (usesM f=[]):=by show _=_;rw [HU.out,if_pos h0]
  clear h0 HU HS
  go_wp2
  go_ret
  exact ⟨_,rfl,by rw [H.out];exact World.ownsRow_nil _ _ _ _,HB2.out⟩
 subst h0
 have HSS:Hid (ShB (f.fm .nil)):=HS.out rfl
 have HU2:Hid (usesM f=use1 (fun _=>0) f []):=by show _=_;rw [HU.out,if_neg (by simp)]
 have m1:(Instr.makeMap 135 none).run Tryz.prog w2 = .ok (.map (some w2.heap.size)) (w2.alloc (.map #[] 0)):=run_makeMap (P:=Tryz.prog) 135 w2
 have m2:(Instr.makeMap 137 none).run Tryz.prog (w2.alloc (.map #[] 0)) = .ok (.map (some (w2.alloc (.map #[] 0)).heap.size)) ((w2.alloc (.map #[] 0)).alloc (.map #[] 0)):=run_makeMap (P:=Tryz.prog) 137 _
 rw [World.size_alloc] at m2
 clear HU HS
 go_upto_region 4 with fail
 obtain ⟨w5,hw5⟩:∃w5,((w2.alloc (.map #[] 0)).alloc (.map #[] 0)).alloc (.cells #[.map (some w2.heap.size), .map (some (w2.heap.size+1)), .slice none 0 0] 139)=w5:=⟨_,rfl⟩
 have a5:Below w2.heap.size w2 w5:=by rw [←hw5];exact (((Below.refl _ w2).alloc (Nat.le_refl _) _).alloc (by simp) _).alloc (by simp;omega) _
 have hux:UX w5 w2.heap.size (w2.heap.size+2) w2.heap.size (w2.heap.size+1) 0 (fun _=>0) []:=by
  rw [←hw5]
  refine ⟨⟨.slice none 0 0,?_,World.ownsRow_nil _ _ _ _⟩,?_,?_,by omega,Nat.le_refl _,by omega,by omega⟩
  ·have:=World.alloc_heap_new ((w2.alloc (.map #[] 0)).alloc (.map #[] 0)) (.cells #[.map (some w2.heap.size), .map (some (w2.heap.size+1)), .slice none 0 0] 139)
   rwa [World.size_alloc,World.size_alloc] at this
  ·exact ((CM.made w2).kept (Below.heap_alloc _ _ _ (by simp))).kept (Below.heap_alloc _ _ _ (by simp;omega))
  ·have h:=NM.made (w2.alloc (.map #[] 0))
   rw [World.size_alloc] at h
   exact h.kept (Below.heap_alloc _ _ _ (by simp))
 have HQ5:Hid _:=(a5.block _ (Array.getElem?_eq_some_iff.1 HQ2.out).1).trans HQ2.out
 have HX5:Hid _:=hux
 have HB5:Hid (Below w.heap.size w w5):=HB2.out.trans (a5.mono HB2.out.size)
 have hs5:=a5.size
 rw [hw5]
 clear m1 m2 hux a5
 obtain ⟨⟨z0,z1,z2,z3,z4,z5,z6,z7,z8⟩,_⟩:=cells9 HQ5.out
 go_wp2_with fail
 refine (addForm_any f w2.heap.size (w2.heap.size+2) w2.heap.size (w2.heap.size+1) 0 (fun _=>0) [] nr kr dr nc kc dc w w5 HX5.out HF.out HO.out HSS.out HR.out Hkc.out HB5.out HB2.out.size hs5 HE.out (by have:=HN.out;omega) (by simp)).mono ?_
 rintro e w6 ⟨⟨v6,rfl⟩,hx6,hf6⟩
 rw [←HU2.out] at hx6
 obtain ⟨v,hv,ho⟩:=hx6.blk
 have HO6:Hid _:=own_mono ho HB2.out.size
 have HB6:Hid (Below w.heap.size w w6):=HB5.out.trans (hf6.below HB2.out.size HB5.out.size (by omega) (Nat.le_refl _) (by omega))
 have c2:w6.cell? ⟨w2.heap.size+2,2,none⟩=some v:=by simp [World.cell?,hv]
 obtain ⟨ra,cv,rfl⟩:=own_slice ho
 clear hx6 hf6 hv ho z0 z1 z2 z3 z4 z5 z6 z7 z8 hw5
 go_wp2
 go_ret
 exact ⟨_,rfl,HO6.out,HB6.out⟩
open Go.RowKit
theorem cy0 {W W' : World} {g:Nat} {o:Obj} (q:W.heap[g]?=some o) (hb:Below W.heap.size W W'):W'.heap[g]?=some o:=(hb.block g (Array.getElem?_eq_some_iff.1 q).1).trans q
theorem al_at {W:World} {g:Nat} {o x:Obj} (q:W.heap[g]?=some o):(W.alloc x).heap[g]?=some o:=(Below.heap_alloc _ _ _ (Array.getElem?_eq_some_iff.1 q).1).trans q
theorem cy1 {W W' : World} {g:Nat} {o x:Obj} (q:W.heap[g]?=some o) (hb:Below (W.alloc x).heap.size (W.alloc x) W'):W'.heap[g]?=some o:=cy0 (al_at q) hb
theorem cy2 {W W' : World} {g:Nat} {o x y:Obj} (q:W.heap[g]?=some o) (hb:Below ((W.alloc x).alloc y).heap.size ((W.alloc x).alloc y) W'):W'.heap[g]?=some o:=cy0 (al_at (al_at q)) hb
theorem nw1 {W W' : World} {x:Obj} (hb:Below (W.alloc x).heap.size (W.alloc x) W'):W'.heap[W.heap.size]?=some x:=cy0 (World.alloc_heap_new W x) hb
theorem cy1d {W W' : World} {g:Nat} {o x:Obj} (q:W.drew.heap[g]?=some o) (hb:Below (W.alloc x).drew.heap.size (W.alloc x).drew W'):W'.heap[g]?=some o:=cy1 (W:=W.drew) (x:=x) q hb
theorem nw1d {W W' : World} {x:Obj} (hb:Below (W.alloc x).drew.heap.size (W.alloc x).drew W'):W'.heap[W.heap.size]?=some x:=nw1 (W:=W.drew) hb
theorem nw2a {W W' : World} {x y:Obj} (hb:Below ((W.alloc x).alloc y).heap.size ((W.alloc x).alloc y) W'):W'.heap[W.heap.size]?=some x:=cy0 (al_at (World.alloc_heap_new W x)) hb
theorem nw2b {W W' : World} {x y:Obj} (hb:Below ((W.alloc x).alloc y).heap.size ((W.alloc x).alloc y) W'):W'.heap[W.heap.size+1]?=some y:=by
 have h:=cy0 (World.alloc_heap_new (W.alloc x) y) hb
 rwa [World.size_alloc] at h
theorem ex0 {A W W' : World} {C:Nat} (h:Below C A W) (hC:C≤W.heap.size) (hb:Below W.heap.size W W'):Below C A W' := h.trans (hb.mono hC)
theorem ex1 {A W W' : World} {C:Nat} {x:Obj} (h:Below C A W) (hC:C≤W.heap.size) (hb:Below (W.alloc x).heap.size (W.alloc x) W'):Below C A W' := (h.alloc hC x).trans (hb.mono (by rw [World.size_alloc];omega))
theorem ex1d {A W W' : World} {C:Nat} {x:Obj} (h:Below C A W.drew) (hC:C≤W.drew.heap.size) (hb:Below (W.alloc x).drew.heap.size (W.alloc x).drew W'):Below C A W' := ex1 (W:=W.drew) h hC hb
theorem ex2 {A W W' : World} {C:Nat} {x y:Obj} (h:Below C A W) (hC:C≤W.heap.size) (hb:Below ((W.alloc x).alloc y).heap.size ((W.alloc x).alloc y) W'):Below C A W' := ((h.alloc hC x).alloc (by rw [World.size_alloc];omega) y).trans (hb.mono (by rw [World.size_alloc,World.size_alloc];omega))
theorem below_le {A W:World} {C:Nat} (h:Below C A W) (hC:C≤A.heap.size):C≤W.heap.size:=Nat.le_trans hC h.size
abbrev D1 (t:List UInt8):Obj := .cells #[.int .u8 2, .int .i64 0,S t, .slice none 0 0, .bool false] 32
abbrev D2 (t u:List UInt8):Obj := .cells #[.int .u8 2, .int .i64 0,S t, .slice none 0 0, .bool false, .int .u8 2, .int .i64 0,S u, .slice none 0 0, .bool false] 32
abbrev D3 (t u v:List UInt8):Obj := .cells #[.int .u8 2, .int .i64 0,S t, .slice none 0 0, .bool false, .int .u8 2, .int .i64 0,S u, .slice none 0 0, .bool false, .int .u8 2, .int .i64 0,S v, .slice none 0 0, .bool false] 32
abbrev L5 (g n:Nat):Obj := .cells #[.int .u8 5, .int .i64 0, .string ⟨#[]⟩, .slice (some ⟨g,0,none⟩) n n, .bool false] 32
abbrev DL (g1 g0:Nat):Obj := .cells #[.int .u8 2, .int .i64 0,S [108,97,109,98,100,97], .slice none 0 0, .bool false, .int .u8 5, .int .i64 0,S [], .slice (some ⟨g1,0,none⟩) 1 1, .bool false, .int .u8 5, .int .i64 0,S [], .slice (some ⟨g0,0,none⟩) 3 3, .bool false] 32
abbrev DT (g1:Nat):Obj := .cells #[.int .u8 2, .int .i64 0,S [108,97,109,98,100,97], .slice none 0 0, .bool false, .int .u8 5, .int .i64 0,S [], .slice (some ⟨g1,0,none⟩) 2 2, .bool false, .int .u8 1, .int .i64 1,S [], .slice none 0 0, .bool false] 32
theorem isZ {W:World} {g:Nat} (q:W.heap[g]?=some Z5):W.heap[g]?=some Z5:=q
theorem isF {W:World} {g:Nat} (q:W.heap[g]?=some F9):W.heap[g]?=some F9:=q
theorem is1 {W:World} {g:Nat} (q:W.heap[g]?=some (D1 [120])):W.heap[g]?=some (D1 [120]):=q
theorem is2 {W:World} {g:Nat} (q:W.heap[g]?=some (D2 [120] [120])):W.heap[g]?=some (D2 [120] [120]):=q
theorem isL {W:World} {g g1 g0:Nat} (q:W.heap[g]?=some (DL g1 g0)):W.heap[g]?=some (DL g1 g0):=q
theorem isT {W:World} {g g1:Nat} (q:W.heap[g]?=some (DT g1)):W.heap[g]?=some (DT g1):=q
def symF (t:List UInt8):Fo→Fo := .cons 2 0 t .nil false
def lstF (s:Fo):Fo→Fo := .cons 5 0 [] s false
def sumF:Fo:=symF [43] (symF [120] (symF [121] .nil))
def lamF:Fo:=symF [108,97,109,98,100,97] (lstF (symF [120] .nil) (lstF sumF .nil))
def twiF:Fo:=symF [108,97,109,98,100,97] (lstF (symF [120] (symF [120] .nil)) (.cons 1 1 [] .nil false .nil))
theorem rs_sum {W:World} {g:Nat} (q:W.heap[g]?=some (D3 [43] [120] [121])):RS W (some ⟨g,0,none⟩) sumF:=by
 have hg:=(Array.getElem?_eq_some_iff.1 q).1
 refine ⟨g,0, .inr rfl,⟨hg,?_,?_,?_,?_,by simp [Fo.len]⟩,⟨none,0,0,0,?_, .inl rfl,trivial⟩,⟨hg,?_,?_,?_,?_,by simp [Fo.len]⟩,⟨none,0,0,0,?_, .inl rfl,trivial⟩,⟨hg,?_,?_,?_,?_,by simp [Fo.len]⟩,⟨none,0,0,0,?_, .inl rfl,trivial⟩,trivial⟩<;>simp [World.cell?,q,Fo.len]
theorem rs_x {W:World} {g:Nat} (q:W.heap[g]?=some (D1 [120])):RS W (some ⟨g,0,none⟩) (symF [120] .nil):=by
 have hg:=(Array.getElem?_eq_some_iff.1 q).1
 refine ⟨g,0, .inr rfl,⟨hg,?_,?_,?_,?_,by simp [Fo.len]⟩,⟨none,0,0,0,?_, .inl rfl,trivial⟩,trivial⟩<;>simp [World.cell?,q,Fo.len]
theorem rs_xx {W:World} {g:Nat} (q:W.heap[g]?=some (D2 [120] [120])):RS W (some ⟨g,0,none⟩) (symF [120] (symF [120] .nil)):=by
 have hg:=(Array.getElem?_eq_some_iff.1 q).1
 refine ⟨g,0, .inr rfl,⟨hg,?_,?_,?_,?_,by simp [Fo.len]⟩,⟨none,0,0,0,?_, .inl rfl,trivial⟩,⟨hg,?_,?_,?_,?_,by simp [Fo.len]⟩,⟨none,0,0,0,?_, .inl rfl,trivial⟩,trivial⟩<;>simp [World.cell?,q,Fo.len]
theorem rs_lam {W:World} {g g1 g0:Nat} (q:W.heap[g]?=some (DL g1 g0)) (q1:W.heap[g1]?=some (D1 [120])) (q0:W.heap[g0]?=some (D3 [43] [120] [121])):RS W (some ⟨g,0,none⟩) lamF:=by
 have hg:=(Array.getElem?_eq_some_iff.1 q).1
 obtain ⟨b1,o1,z1,r1⟩:=rs_x q1
 obtain ⟨b0,o0,z0,r0⟩:=rs_sum q0
 refine ⟨g,0, .inr rfl,⟨hg,?_,?_,?_,?_,by simp [Fo.len]⟩,⟨none,0,0,0,?_, .inl rfl,trivial⟩,⟨hg,?_,?_,?_,?_,by simp [Fo.len,symF,maxLen]⟩,⟨_,1,b1,o1,?_,z1,r1⟩,⟨hg,?_,?_,?_,?_,by simp [Fo.len,symF,sumF,maxLen]⟩,⟨_,3,b0,o0,?_,z0,r0⟩,trivial⟩<;>simp [World.cell?,q,Fo.len,symF,sumF]
theorem rs_twi {W:World} {g g1:Nat} (q:W.heap[g]?=some (DT g1)) (q1:W.heap[g1]?=some (D2 [120] [120])):RS W (some ⟨g,0,none⟩) twiF:=by
 have hg:=(Array.getElem?_eq_some_iff.1 q).1
 obtain ⟨b1,o1,z1,r1⟩:=rs_xx q1
 refine ⟨g,0, .inr rfl,⟨hg,?_,?_,?_,?_,by simp [Fo.len]⟩,⟨none,0,0,0,?_, .inl rfl,trivial⟩,⟨hg,?_,?_,?_,?_,by simp [Fo.len,symF,maxLen]⟩,⟨_,2,b1,o1,?_,z1,r1⟩,⟨hg,?_,?_,?_,?_,by simp [Fo.len]⟩,⟨none,0,0,0,?_, .inl rfl,trivial⟩,trivial⟩<;>simp [World.cell?,q,Fo.len,symF]
def KnD (A wx:World) (C b:Nat):Prop:=(∃g,wx.heap[b]?=some (L5 g 3)∧RS wx (some ⟨g,0,none⟩) lamF)∧Below C A wx
theorem kn_alloc {A W:World} {C g g1 g0:Nat} (q:W.heap[g]?=some (DL g1 g0)) (q1:W.heap[g1]?=some (D1 [120])) (q0:W.heap[g0]?=some (D3 [43] [120] [121])) (h:Below C A W) (hC:C≤A.heap.size):KnD A (W.alloc (L5 g 3)) C W.heap.size :=
 ⟨⟨g,World.alloc_heap_new _ _,rs_lam (al_at q) (al_at q1) (al_at q0)⟩,h.alloc (below_le h hC) _⟩
theorem five_at2 {W:World} {b g:Nat} {o:Obj} (q:W.heap[g]?=some o) (hne:g≠b) (v0 v1 v2 v3 v4:Value):(five b W v0 v1 v2 v3 v4).heap[g]?=some o:=(five_other hne _ _ _ _ _).trans q
theorem kn_set {A W:World} {C b g g1 g0:Nat} (hz:W.heap[b]?=some Z5) (q:W.heap[g]?=some (DL g1 g0)) (q1:W.heap[g1]?=some (D1 [120])) (q0:W.heap[g0]?=some (D3 [43] [120] [121])) (h:Below C A W) (hb:C≤b):KnD A (((((W.setCell ⟨b,0,none⟩ (.int .u8 5)).setCell ⟨b,1,none⟩ (.int .i64 0)).setCell ⟨b,2,none⟩ (.string ⟨#[]⟩)).setCell ⟨b,3,none⟩ (.slice (some ⟨g,0,none⟩) 3 3)).setCell ⟨b,4,none⟩ (.bool false)) C b:=by
 show KnD A (five b W (.int .u8 5) (.int .i64 0) (S []) (.slice (some ⟨g,0,none⟩) 3 3) (.bool false)) C b
 have n:g≠b:=by rintro rfl;rw [hz] at q;cases q
 have n1:g1≠b:=by rintro rfl;rw [hz] at q1;cases q1
 have n0:g0≠b:=by rintro rfl;rw [hz] at q0;cases q0
 refine ⟨⟨g,five_at hz _ _ _ _ _,rs_lam (five_at2 q n _ _ _ _ _) (five_at2 q1 n1 _ _ _ _ _) (five_at2 q0 n0 _ _ _ _ _)⟩,?_⟩
 have b5:ButB b b W (five b W (.int .u8 5) (.int .i64 0) (S []) (.slice (some ⟨g,0,none⟩) 3 3) (.bool false)):=(((((ButB.refl b b W).set (Nat.le_refl b) (.int .u8 5)).set (Nat.le_refl b) (.int .i64 0)).set (Nat.le_refl b) (S [])).set (Nat.le_refl b) (.slice (some ⟨g,0,none⟩) 3 3)).set (Nat.le_refl b) (.bool false)
 exact ⟨b5.os.trans h.os,b5.tape.trans h.tape,b5.output.trans h.output,Nat.le_trans h.size b5.size,fun k hk=>(five_other (by omega) _ _ _ _ _).trans (h.block k hk)⟩
theorem ex3 {A W:World} {C:Nat} (h:Below C A W) (hC:C≤A.heap.size) (x:Obj):Below C A (W.alloc x):=h.alloc (below_le h hC) x
def Kn9 (A wx:World) (C:Nat) (v:Value):Prop:=(∃pr pc,v = .slice pr 2 pc∧∃base,wx.ownsRow base 3 1 (.slice pr 2 pc) 2 [.int .i64 1, .int .i64 1])∧Below C A wx
theorem kn9_alloc {A W:World} {C pc:Nat} {pr:Option Addr} {x:Obj} (hI:∃base,W.ownsRow base 3 1 (.slice pr 2 pc) 2 [.int .i64 1, .int .i64 1]) (h:Below C A W) (hC:C≤A.heap.size):Kn9 A (W.alloc x) C (.slice pr 2 pc):=by
 obtain ⟨base,ho⟩:=hI
 exact ⟨⟨pr,pc,rfl,base,World.ownsRow.alloc ho _⟩,ex3 h hC x⟩
theorem kn9_set {A W:World} {C b pc:Nat} {pr:Option Addr} {v0 v1 v2 v3 v4 v5 v6 v7 v8:Value} (hz:W.heap[b]?=some F9) (hI:∃base,W.ownsRow base 3 1 (.slice pr 2 pc) 2 [.int .i64 1, .int .i64 1]) (h:Below C A W) (hb:C≤b):Kn9 A (nine b W v0 v1 v2 v3 v4 v5 v6 v7 v8) C (.slice pr 2 pc):=by
 obtain ⟨base,ho⟩:=hI
 have k:=nine_nine b W v0 v1 v2 v3 v4 v5 v6 v7 v8
 refine ⟨⟨pr,pc,rfl,base,own_same ho fun g hg=>k.other g ?_⟩,?_⟩
 ·rintro rfl
  rcases ho.2 with ⟨h0,_⟩|⟨g', cap,cur,hv,_,hh,_⟩
  ·rw [h0] at hg;cases hg
  ·rw [hv] at hg;cases hg;rw [hz] at hh;cases hh
 ·exact ⟨k.os.trans h.os,k.tape.trans h.tape,k.output.trans h.output,Nat.le_trans h.size (Nat.le_of_eq k.size.symm),fun g hg=>(k.other g (by omega)).trans (h.block g hg)⟩
theorem own_rn {w:World} {base:Nat} {v:Value} {l:List (List UInt8)} (h:w.ownsRow base 9 1 v l.length (l.map S)):∃ra c,v = .slice ra l.length c∧RN w ra l:=by
 rcases h.2 with ⟨h0,hl⟩|⟨g,cap,cur,hv,_⟩
 ·subst h0
  have:l=[]:=List.length_eq_zero_iff.1 hl
  subst this
  exact ⟨none,0,rfl,0,0, .inl rfl,fun j s hs=>by simp at hs⟩
 ·subst hv
  refine ⟨_,_,rfl,g,0, .inr rfl,fun j s hs=>?_⟩
  have:=h.cells rfl j (S s) (by rw [List.getElem?_map,hs];rfl)
  rw [addr_add] at this
  rw [Nat.zero_add]
  exact this
theorem own_cap {w:World} {base e sz n:Nat} {v:Value} {xs:List Value} (h:w.ownsRow base e sz v n xs):∃ra c,v = .slice ra n c∧n≤c∧n≤maxLen:=by
 rcases h.2 with ⟨h0,hl⟩|⟨g,cap,cur,hv,_,_,h1,h2,_⟩
 ·subst h0;subst hl;exact ⟨none,0,rfl,Nat.le_refl _,Nat.zero_le _⟩
 ·exact ⟨_,_,hv,h1,Nat.le_trans h1 h2⟩
theorem own_rs {w:World} {base:Nat} {v:Value} {f:Fo} {cs:List Value} {bs:List Nat} (h:w.ownsRow base 32 5 v f.len cs) (hr:Row w base f cs bs):∃ra c,v = .slice ra f.len c∧RS w ra f:=by
 rcases h.2 with ⟨h0,hl⟩|⟨g,cap,cur,hv,_⟩
 ·subst h0
  cases f with
  | nil=>exact ⟨none,0,rfl,0,0, .inl rfl,trivial⟩
  | cons=>simp [Fo.len] at hl
 ·subst hv
  refine ⟨_,_,rfl,g,0, .inr rfl,Row.rd hr (h.lt g rfl).2 (fun j u hj=>?_)⟩
  have:=h.cells rfl j u hj
  rw [addr_add] at this
  rw [Nat.zero_add]
  exact this
theorem FRow.rdf {w:World} {base:Nat}:∀{f:Fm} {cs:List Value} {bs:List Nat} {g o:Nat},FRow w base f cs bs→(∀j u,cs[j]?=some u→w.cell? ⟨g,o+j,none⟩=some u)→RdF w f g o
 | .nil,cs,bs,g,o,_,_=>trivial
 | .cons k t ns ks dk dn dt ds dd r,cs,bs,g,o,⟨nv,kv,dv,kcs,kbs,dcs,dbs,rcs,rbs,hcs,_,h1,⟨h2,h3⟩,⟨h4,h5⟩,hr⟩,hc=>by
  subst hcs
  obtain ⟨nr,nc,rfl,hn⟩:=own_rn h1
  obtain ⟨dr,dc,rfl,hd⟩:=own_rs h4 h5
  refine ⟨⟨hc 0 _ rfl,hc 1 _ rfl,hc 4 _ rfl,hc 5 _ rfl,hc 6 _ rfl,hc 8 _ rfl⟩,?_,FRow.rdf hr (fun j u hj=>?_)⟩
  ·rcases h2.2 with ⟨h0,hl⟩|⟨g', cap', cur,hv,_,_,hcap,_⟩
   ·subst h0
    refine ⟨nr,nc,none,0,dr,dc,⟨hc 2 _ rfl,by rw [hl];exact hc 3 _ rfl,hc 7 _ rfl⟩,hn,⟨by rw [hl];exact Nat.le_refl _,0,0, .inl hl,?_⟩,hd⟩
    cases ks with
    | nil=>trivial
    | cons=>simp [Fm.len] at hl
   ·subst hv
    refine ⟨nr,nc,_,_,dr,dc,⟨hc 2 _ rfl,hc 3 _ rfl,hc 7 _ rfl⟩,hn,⟨hcap,g', 0, .inr rfl,FRow.rdf h3 (fun j u hj=>?_)⟩,hd⟩
    have:=h2.cells rfl j u hj
    rw [addr_add] at this
    rw [Nat.zero_add]
    exact this
  ·have:=hc (j+9) u (by simpa using hj)
   rwa [show o+(j+9)=o+9+j by omega] at this
theorem FOne.rfo {w:World} {base:Nat} {x:Frm} {nv kv dv:Value} {bs:List Nat} (h:FOne w base x nv kv dv bs):∃a1 c1 a2 c2 a3 c3,nv = .slice a1 x.names.length c1∧kv = .slice a2 x.kids.len c2∧dv = .slice a3 x.dat.s.len c3∧RFo w x a1 a2 a3∧x.kids.len≤c2:=by
 obtain ⟨kcs,kbs,dcs,dbs,_,h1,⟨h2,h3⟩,⟨h4,h5⟩⟩:=h.row
 obtain ⟨a1,c1,rfl,hn⟩:=own_rn h1
 obtain ⟨a3,c3,rfl,hd⟩:=own_rs h4 h5
 rcases h2.2 with ⟨h0,hl⟩|⟨g', cap', cur,hv,_,_,hcap,_⟩
 ·subst h0
  refine ⟨a1,c1,none,0,a3,c3,rfl,by rw [hl],rfl,⟨hn,⟨0,0, .inl hl,?_⟩,hd⟩,by rw [hl];exact Nat.le_refl _⟩
  have e:x.kids = .nil:=by
   cases hk:x.kids with
   | nil=>rfl
   | cons=>rw [hk] at hl;simp [Fm.len] at hl
  rw [e];trivial
 ·subst hv
  refine ⟨a1,c1,_,_,a3,c3,rfl,rfl,rfl,⟨hn,⟨g', 0, .inr rfl,FRow.rdf h3 (fun j u hj=>?_)⟩,hd⟩,hcap⟩
  have:=h2.cells rfl j u hj
  rw [addr_add] at this
  rw [Nat.zero_add]
  exact this
def exD (s:Fo):Dt:=⟨5,0,[],s,false⟩
def nameFm (t:List UInt8):Fm→Fm := .cons 2 t [] .nil 0 0 [] .nil false
def callFm:Fm := .cons 10 [] [] (nameFm [43] (nameFm [120] (nameFm [121] .nil))) 0 0 [] .nil false .nil
def lamFrm:Frm:=⟨4,[],[[120]],callFm,dt0⟩
end Go.Proofs.YtkgnigloboajcaaGreatDoor
