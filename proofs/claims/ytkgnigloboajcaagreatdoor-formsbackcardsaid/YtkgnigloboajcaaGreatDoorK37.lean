/- Which names a form uses: mathematics, and what a uses lies like.; Back and Check, walked.; uses: bind, addName. -/
import Derived.Test.YtkgnigloboajcaaGreatDoorK36
import Derived.Maps.Own
import Derived.Maps.Views
set_option maxRecDepth 100000
set_option maxHeartbeats 8000000
namespace Go.Proofs.YtkgnigloboajcaaGreatDoor
open Go.RowKit Go.Maps Go.ChangeMaps
def addU (B:List UInt8→Int) (s:List UInt8) (out:List (List UInt8)):List (List UInt8):=if ((primOf s).isNone && B s == 0) && !decide (s∈out) then out++[s] else out
def bindU (B:List UInt8→Int) (ns:List (List UInt8)) (d:Int):List UInt8→Int:=fun s=>B s+d*(ns.count s:Int)
def useF:(List UInt8→Int)→(List UInt8→Int)→Nat→Fm→List (List UInt8)→List (List UInt8)
 | _,_,_, .nil,out=>out
 | B,B', n, .cons k t ns ks _ _ _ _ _ r,out =>
  useF B B' (n-1) r (useF (if n=0 then B' else B) (bindU (if n=0 then B' else B) ns 1) (if k=8 then ns.length else 0) ks (if hasTextB k then addU (if n=0 then B' else B) t out else out))
def use1 (B:List UInt8→Int) (f:Frm) (out:List (List UInt8)):List (List UInt8):=useF B (bindU B f.names 1) (valsN f) f.kids (if hasTextB f.kind then addU B f.text out else out)
theorem useF_same (B:List UInt8→Int):∀(g:Fm) (n m:Nat) (out:List (List UInt8)),useF B B n g out=useF B B m g out
 | .nil,_,_,_=>rfl
 | .cons k t ns ks _ _ _ _ _ r,n,m,out=>by
  simp only [useF,ite_self]
  exact useF_same B r _ _ _
theorem useF_zero (B B' : List UInt8→Int):∀(g:Fm) (out:List (List UInt8)),useF B B' 0 g out=useF B' B' 0 g out
 | .nil,_=>rfl
 | .cons k t ns ks _ _ _ _ _ r,out=>by
  simp only [useF,if_true,ite_self,Nat.zero_sub]
  exact useF_zero B B' r _
theorem useF_app (B B' : List UInt8→Int):∀(p g:Fm) (out:List (List UInt8)),useF B B' p.len (p.app g) out=useF B' B' 0 g (useF B B 0 p out)
 | .nil,g,out=>useF_zero B B' g out
 | .cons k t ns ks _ _ _ _ _ r,g,out=>by
  simp only [Fm.app,Fm.len,useF,Nat.add_sub_cancel,if_neg (Nat.succ_ne_zero _),ite_self]
  rw [useF_app B B' r g]
theorem useF_cons (B:List UInt8→Int) (k:Int) (t:List UInt8) (ns:List (List UInt8)) (ks:Fm) (dk dn:Int) (dt:List UInt8) (ds:Fo) (dd:Bool) (r:Fm) (out:List (List UInt8)) :
  useF B B 0 (.cons k t ns ks dk dn dt ds dd r) out=useF B B 0 r (use1 B ⟨k,t,ns,ks,⟨dk,dn,dt,ds,dd⟩⟩ out):=by
 simp only [useF,ite_self,use1,valsN]
theorem bindU_back (B:List UInt8→Int) (ns:List (List UInt8)):bindU (bindU B ns 1) ns (-1)=B:=by
 funext s
 simp only [bindU]
 omega
def usesM (f:Frm):List (List UInt8):=if (backM f).2≠0 then [] else use1 (fun _=>0) f []
def Fm.uc:Fm→Nat
 | .nil=>0
 | .cons _ _ ns ks _ _ _ _ _ r=>1+2*ns.length+ks.uc+r.uc
theorem uc_wt:∀g:Fm,g.uc≤g.wt
 | .nil=>Nat.le_refl _
 | .cons _ _ ns ks _ _ _ ds _ r=>by have h1:=uc_wt ks;have h2:=uc_wt r;simp only [Fm.uc,Fm.wt];omega
theorem uc_app:∀p g:Fm,(p.app g).uc=p.uc+g.uc
 | .nil,g=>by simp [Fm.app,Fm.uc]
 | .cons _ _ _ _ _ _ _ _ _ r,g=>by simp only [Fm.app,Fm.uc,uc_app r g];omega
def RC (v:Value):Option (DataW Unit × List MemPlace):=match v with
 | .int .i64 a=>some (.lit (.int .i64 a),[])
 | _=>none
theorem RC_mk (a:Int):RC (.int .i64 a)=some (.lit (.int .i64 a),[]):=rfl
theorem RC_inv {v:Value} {a:Int} {ps:List MemPlace} (h:RC v=some (.lit (.int .i64 a),ps)):v = .int .i64 a:=by
 unfold RC at h
 split at h
 ·have h1:=(Prod.mk.inj (Option.some.inj h)).1
  simp only [DataW.lit.injEq,Lit.int.injEq,true_and] at h1
  rw [h1]
 ·cases h
def CM (w:World) (b n:Nat) (f:List UInt8→Int):Prop:=(∃D:DataW Unit,IsMap D∧w.ownsMap Tryz.prog 9 RC b n D∧∀s:List UInt8,D.atKey (.string s) (.lit (.int .i64 0)) = .lit (.int .i64 (f s)))∧∀s, -(n:Int)≤f s∧f s≤n
theorem CM.made (w:World):CM (w.alloc (.map #[] 0)) w.heap.size 0 (fun _=>0):=⟨⟨.map [],⟨[],rfl⟩,World.ownsMap_made w _ _ _,fun _=>rfl⟩,fun _=>⟨by show -((0:Nat):Int)≤0;omega,by show (0:Int)≤((0:Nat):Int);omega⟩⟩
theorem CM.kept {w w' : World} {b n:Nat} {f:List UInt8→Int} (h:CM w b n f) (hb:w'.heap[b]?=w.heap[b]?):CM w' b n f:=by
 obtain ⟨⟨D,h1,⟨es,clock,h2,h3,h4,h5⟩,h6⟩,h7⟩:=h
 exact ⟨⟨D,h1,⟨es,clock,hb.trans h2,h3,h4,h5⟩,h6⟩,h7⟩
theorem CM.map {w:World} {b n:Nat} {f:List UInt8→Int} (h:CM w b n f):∃es clock,w.heap[b]?=some (.map es clock):=by
 obtain ⟨⟨D,_,⟨es,clock,h2,_⟩,_⟩,_⟩:=h
 exact ⟨es,clock,h2⟩
theorem CM.lt {w:World} {b n:Nat} {f:List UInt8→Int} (h:CM w b n f):b<w.heap.size:=by
 obtain ⟨es,c,hm⟩:=h.map
 exact (Array.getElem?_eq_some_iff.1 hm).1
theorem CM.mono {w:World} {b n n' : Nat} {f:List UInt8→Int} (h:CM w b n f) (hn:n≤n'):CM w b n' f:=by
 obtain ⟨⟨D,h1,h2,h3⟩,h4⟩:=h
 exact ⟨⟨D,h1,h2.mono hn,h3⟩,fun s=>by have:=h4 s;omega⟩
theorem CM.look {w:World} {b n:Nat} {f:List UInt8→Int} (h:CM w b n f) (s:List UInt8) (hs:s.length≤maxLen):(Instr.lookup 135 (.map (some b)) (S s) false).run Tryz.prog w = .ok (.int .i64 (f s)) w:=by
 obtain ⟨⟨D,h1,h2,h3⟩,_⟩:=h
 obtain ⟨v,ps,hrun,hv⟩:=h2.lookup (string_keyed Tryz.underlying9) Tryz.underlying135 (z := .int .i64 0) (Tryz.zeroValue3 w) (RC_mk 0) (str_key hs)
 rw [h3 s] at hv
 rw [hrun,RC_inv hv]
theorem CM.put {w:World} {b n:Nat} {f:List UInt8→Int} (h:CM w b n f) (hn:n<maxLen) (s:List UInt8) (hs:s.length≤maxLen) (d:Int) (hd:d=1∨d = -1):∃w', (Instr.mapUpdate 135 (.map (some b)) (S s) (.int .i64 (f s+d))).run Tryz.prog w = .ok () w' ∧ CM w' b (n+1) (bindU f [s] d)∧w.grownBy w' (some b):=by
 obtain ⟨⟨D,h1,h2,h3⟩,h4⟩:=h
 obtain ⟨w', hrun,ho,hg⟩:=h2.update (string_keyed Tryz.underlying9) Tryz.underlying135 hn (str_key hs) (RC_mk (f s+d))
 refine ⟨w', hrun,⟨⟨_,h1.put _ _,ho,fun t=>?_⟩,fun t=>?_⟩,hg⟩
 ·by_cases he:t=s
  ·subst he
   rw [atKey_put_same h1 (by simp [WideAt.IsKeyLit])]
   simp [bindU]
  ·rw [atKey_put_other (fun e=>he (Lit.string.inj e)),h3 t]
   have e2:(s == t)=false:=by simpa using fun e=>he e.symm
   simp [bindU,List.count_cons,List.count_nil,e2]
 ·have:=h4 t
  simp only [bindU,List.count_cons,List.count_nil]
  split<;>rcases hd with rfl|rfl<;>simp<;>omega
theorem NM.congr {w:World} {b n:Nat} {l l' : List (List UInt8)} (h:NM w b n l) (e:∀s,s∈l↔s∈l'):NM w b n l' := by
 obtain ⟨D,h1,h2⟩:=h
 exact ⟨D,h1,fun s=>by rw [h2 s];exact decide_eq_decide.2 (e s)⟩
theorem NM.mono {w:World} {b n n' : Nat} {l:List (List UInt8)} (h:NM w b n l) (hn:n≤n'):NM w b n' l:=by
 obtain ⟨D,h1,h2⟩:=h
 exact ⟨D,h1.mono hn,h2⟩
theorem back_any (f:Frm) (nr kr dr:Option Addr) (nc kc dc:Nat) (w:World) (hF:FOk f) (hO:f.kids.oks) (hR:RFo w f nr kr dr) (hkc:f.kids.len≤kc) (hE:Env w) (hw:(f.fm .nil).wt≤900000) :
  Calls Tryz.prog 27 #[frmV f (.slice nr f.names.length nc) (.slice kr f.kids.len kc) (.slice dr f.dat.s.len dc)] w fun e w' => ∃v,e = .returned (.tuple #[datV (backM f).1 v, .int .i64 (backM f).2])∧Tree w' w.heap.size v (backM f).1.s∧Below w.heap.size w w' := by
 have HM:Hid (backM f=if termsE false (f.fm .nil)≠0 then (dt0,termsE false (f.fm .nil)) else if canB (wrD f) then (wrD f,0) else (dt0,70)):=rfl
 have HH:Hid (WH w ((w.alloc (Z9 f (.slice nr f.names.length nc) (.slice kr f.kids.len kc) (.slice dr f.dat.s.len dc))).alloc Z5) f (.slice nr f.names.length nc) (.slice kr f.kids.len kc) (.slice dr f.dat.s.len dc)):=WH.new _ _ _ _ _
 have HR:Hid (RFo w f nr kr dr):=hR
 have HE:Hid (Env w):=hE
 have HF:Hid (FOk f):=hF
 have HO:Hid f.kids.oks:=hO
 have Hkc:Hid (f.kids.len≤kc):=hkc
 have HDk:Hid (DOk (wrD f)):=wrD_ok hF hO hw
 have HS:Hid (termsE false (f.fm .nil)=0→WrK f):=fun h=>written_any f hF hO (shb_of _ _ h)
 clear hR hE hF hO hkc hw
 go_enter Tryz.func27,Tryz.ntmps27
 go_upto_region 1 with fail
 generalize (w.alloc (Z9 f (.slice nr f.names.length nc) (.slice kr f.kids.len kc) (.slice dr f.dat.s.len dc))).alloc Z5=W1 at *
 obtain ⟨⟨z0,z1,z2,z3,z4,z5,z6,z7,z8⟩,_⟩:=cells9 HH.out.q0
 go_wp2_with fail
 refine (terms_any f false nr kr dr nc kc dc W1 HF.out HO.out (HR.out.below HH.out.b) (HE.out.below HH.out.b)).mono ?_
 rintro e w2 ⟨rfl,hb2⟩
 have HH2:Hid (WH w w2 f (.slice nr f.names.length nc) (.slice kr f.kids.len kc) (.slice dr f.dat.s.len dc)):=HH.out.step (hb2.mono HH.out.lt)
 clear hb2 z0 z1 z2 z3 z4 z5 z6 z7 z8
 obtain ⟨y,hy⟩:∃y,termsE false (f.fm .nil)=y:=⟨_,rfl⟩
 rw [hy] at HM HS ⊢
 clear hy
 obtain ⟨⟨z0,z1,z2,z3,z4,z5,z6,z7,z8⟩,_⟩:=cells9 HH2.out.q0
 by_cases h0:y=0
 case neg =>
  have b0:(y != 0)=true:=by simpa using h0
  have H:Hid (backM f=(dt0,y)):=by show _=_;rw [HM.out,if_pos h0]
  obtain ⟨c0,c1,c2,c3,c4,cf⟩:=cells5 HH2.out.q1
  have g0:=cf 0
  have g1:=cf 1
  have g2:=cf 2
  have g3:=cf 3
  have g4:=cf 4
  clear h0 HM cf
  go_wp2_with fail
  refine bodyPost_fives (s:=2) (u:=3) rfl rfl rfl rfl HH2.out.q1 fun W5 o5 b5=>?_
  have hf:=HH2.out.fin (Tree.nil _ _) o5 (b5 (w.heap.size) (w.heap.size+1) (by omega))
  rw [H.out]
  exact ⟨_,rfl,hf.1,hf.2⟩
 subst h0
 obtain ⟨⟨xk,xn,xt,xs,xd⟩,hX⟩:∃X,wrD f=X:=⟨_,rfl⟩
 have HWK:Hid (Calls Tryz.prog 83 #[frmV f (.slice nr f.names.length nc) (.slice kr f.kids.len kc) (.slice dr f.dat.s.len dc)] w2 fun e w' => ∃rz cz,e = .returned (.agg #[.int .u8 xk, .int .i64 xn,S xt, .slice rz xs.len cz, .bool xd])∧Tree w' w2.heap.size (.slice rz xs.len cz) xs∧Below w2.heap.size w2 w'):=(HS.out rfl nr kr dr nc kc dc w2 (HR.out.below HH2.out.b) Hkc.out (HE.out.below HH2.out.b)).mono (by
  rintro e w' ⟨v,rfl,hT,hb⟩
  rw [hX] at hT ⊢
  obtain ⟨rz,cz,rfl⟩:=hT.slice
  exact ⟨rz,cz,rfl,hT,hb⟩)
 rw [hX] at HM HDk
 clear hX HS
 have HM2:Hid (backM f=if canB ⟨xk,xn,xt,xs,xd⟩ then (⟨xk,xn,xt,xs,xd⟩,0) else (dt0,70)):=by show _=_;rw [HM.out,if_neg (by simp)]
 clear HM
 go_wp2_with fail
 refine HWK.out.mono ?_
 rintro e w3 ⟨rz,cz,rfl,hT3,hb3⟩
 have HH3:Hid (WH w w3 f (.slice nr f.names.length nc) (.slice kr f.kids.len kc) (.slice dr f.dat.s.len dc)):=HH2.out.step (hb3.mono HH2.out.lt)
 have HT3:Hid (Tree w3 (w.heap.size+2) (.slice rz xs.len cz) xs):=hT3.mono HH2.out.lt
 clear hT3 hb3 z0 z1 z2 z3 z4 z5 z6 z7 z8 HWK
 obtain ⟨w4,hw4⟩:∃w4,w3.alloc (boxD ⟨xk,xn,xt,xs,xd⟩ (.slice rz xs.len cz))=w4:=⟨_,rfl⟩
 have a4:=(Below.refl _ w3).alloc (Nat.le_refl w3.heap.size) (boxD ⟨xk,xn,xt,xs,xd⟩ (.slice rz xs.len cz))
 have q4:=World.alloc_heap_new w3 (boxD ⟨xk,xn,xt,xs,xd⟩ (.slice rz xs.len cz))
 rw [hw4] at a4 q4
 have HH4:Hid (WH w w4 f (.slice nr f.names.length nc) (.slice kr f.kids.len kc) (.slice dr f.dat.s.len dc)):=HH3.out.step (a4.mono HH3.out.lt)
 have HT4:Hid (Tree w4 (w.heap.size+2) (.slice rz xs.len cz) xs):=HT3.out.kept (fun g _ hg=>a4.block g hg)
 have HQ4:Hid _:=q4
 have Hl3:Hid (w.heap.size+2≤w3.heap.size):=HH3.out.lt
 obtain ⟨u0,u1,u2,u3,u4,_⟩:=cells5 q4
 clear a4 q4 HH3
 go_wp2_with fail
 refine (can_any ⟨xk,xn,xt,xs,xd⟩ rz cz w4 HDk.out (by obtain ⟨ra,cap,e,h,_⟩:=HT4.out.rs;cases e;exact h) (HE.out.below HH4.out.b)).mono ?_
 rintro e w5 ⟨rfl,hb5⟩
 have HH5:Hid (WH w w5 f (.slice nr f.names.length nc) (.slice kr f.kids.len kc) (.slice dr f.dat.s.len dc)):=HH4.out.step (hb5.mono HH4.out.lt)
 have HT5:Hid (Tree w5 (w.heap.size+2) (.slice rz xs.len cz) xs):=HT4.out.kept (fun g _ hg=>hb5.block g hg)
 have q5:=(hb5.block _ (Array.getElem?_eq_some_iff.1 HQ4.out).1).trans HQ4.out
 clear hb5 u0 u1 u2 u3 u4 hw4 HH4 HT4 HQ4
 obtain ⟨c0,c1,c2,c3,c4,cf⟩:=cells5 HH5.out.q1
 have g0:=cf 0
 have g1:=cf 1
 have g2:=cf 2
 have g3:=cf 3
 have g4:=cf 4
 clear cf
 obtain ⟨z,hz⟩:∃z,canB ⟨xk,xn,xt,xs,xd⟩=z:=⟨_,rfl⟩
 rw [hz] at HM2 ⊢
 clear hz
 cases z with
 | false =>
  have H:Hid (backM f=(dt0,70)):=HM2.out
  go_wp2_with fail
  refine bodyPost_fives (s:=2) (u:=3) rfl rfl rfl rfl HH5.out.q1 fun W5 o5 b5=>?_
  have hf:=HH5.out.fin (Tree.nil _ _) o5 (b5 (w.heap.size) (w.heap.size+1) (by omega))
  rw [H.out]
  exact ⟨_,rfl,hf.1,hf.2⟩
 | true =>
  have H:Hid (backM f=(⟨xk,xn,xt,xs,xd⟩,0)):=HM2.out
  obtain ⟨u0,u1,u2,u3,u4,_⟩:=cells5 q5
  clear q5
  go_wp2_with fail
  refine bodyPost_fives (s:=2) (u:=3) rfl rfl rfl rfl HH5.out.q1 fun W5 o5 b5=>?_
  have hf:=HH5.out.fin HT5.out o5 (b5 (w.heap.size) (w.heap.size+1) (by omega))
  rw [H.out]
  exact ⟨_,rfl,hf.1,hf.2⟩
theorem fcheck_any (f:Frm) (nr kr dr:Option Addr) (nc kc dc:Nat) (w:World) (hF:FOk f) (hO:f.kids.oks) (hR:RFo w f nr kr dr) (hkc:f.kids.len≤kc) (hE:Env w) (hw:(f.fm .nil).wt≤900000) :
  Calls Tryz.prog 28 #[frmV f (.slice nr f.names.length nc) (.slice kr f.kids.len kc) (.slice dr f.dat.s.len dc)] w fun e w' => e = .returned (.int .i64 (backM f).2)∧Below w.heap.size w w' := by
 obtain ⟨W1,hW1⟩:∃W1,w.alloc (Z9 f (.slice nr f.names.length nc) (.slice kr f.kids.len kc) (.slice dr f.dat.s.len dc))=W1:=⟨_,rfl⟩
 have a1:=(Below.refl _ w).alloc (Nat.le_refl w.heap.size) (Z9 f (.slice nr f.names.length nc) (.slice kr f.kids.len kc) (.slice dr f.dat.s.len dc))
 have q0:=World.alloc_heap_new w (Z9 f (.slice nr f.names.length nc) (.slice kr f.kids.len kc) (.slice dr f.dat.s.len dc))
 rw [hW1] at a1 q0
 have HB1:Hid (Below w.heap.size w W1):=a1
 have HC:Hid _:=back_any f nr kr dr nc kc dc W1 hF hO (hR.below a1) hkc (hE.below a1) hw
 obtain ⟨⟨z0,z1,z2,z3,z4,z5,z6,z7,z8⟩,_⟩:=cells9 q0
 clear a1 q0 hF hO hR hkc hE hw
 obtain ⟨⟨⟨xk,xn,xt,xs,xd⟩,y⟩,hX⟩:∃X,backM f=X:=⟨_,rfl⟩
 rw [hX] at HC ⊢
 clear hX
 go_enter Tryz.func28,Tryz.ntmps28
 go_upto_region 1 with fail
 clear hW1
 go_wp2_with fail
 refine Calls.mono HC.out ?_
 rintro e w2 ⟨v,rfl,hT,hb2⟩
 obtain ⟨rz,cz,rfl⟩:=hT.slice
 have HB2:Hid (Below w.heap.size w w2):=HB1.out.trans (hb2.mono HB1.out.size)
 clear hT hb2
 go_wp2
 go_ret
 exact ⟨rfl,HB2.out.alloc HB2.out.size _⟩
def StrB (w:World) (g:Nat):Prop:=∃cur fr,w.heap[g]?=some (.cells cur 9 fr)
structure UF (base ub mb kb:Nat) (w w' : World):Prop where
 os:w'.os=w.os
 tape:w'.tape=w.tape
 output:w'.output=w.output
 size:w.heap.size≤w'.heap.size
 block:∀g,g<w.heap.size→g≠ub→g≠mb→g≠kb→(g<base∨¬ StrB w g)→w'.heap[g]?=w.heap[g]?
theorem UF.refl (base ub mb kb:Nat) (w:World):UF base ub mb kb w w:=⟨rfl,rfl,rfl,Nat.le_refl _,fun _ _ _ _ _ _=>rfl⟩
theorem UF.trans {base ub mb kb:Nat} {a b c:World} (h:UF base ub mb kb a b) (k:UF base ub mb kb b c):UF base ub mb kb a c :=
 ⟨k.os.trans h.os,k.tape.trans h.tape,k.output.trans h.output,Nat.le_trans h.size k.size,fun g hg h1 h2 h3 hi=>by
  have e:=h.block g hg h1 h2 h3 hi
  exact (k.block g (Nat.lt_of_lt_of_le hg h.size) h1 h2 h3 (hi.imp id (fun hn hi2=>hn (by obtain ⟨c,f,q⟩:=hi2;exact ⟨c,f,e.symm.trans q⟩)))).trans e⟩
theorem UF.of {base ub mb kb:Nat} {a b:World} (h:Below a.heap.size a b):UF base ub mb kb a b:=⟨h.os,h.tape,h.output,h.size,fun g hg _ _ _ _=>h.block g hg⟩
theorem UF.below {base ub mb kb C:Nat} {a b:World} (h:UF base ub mb kb a b) (hC:C≤base) (hs:C≤a.heap.size) (hu:base≤ub) (hm:base≤mb) (hk:base≤kb):Below C a b:=⟨h.os,h.tape,h.output,h.size,fun g hg=>h.block g (by omega) (by omega) (by omega) (by omega) (.inl (by omega))⟩
theorem UF.at {base ub mb kb:Nat} {a b:World} (h:UF base ub mb kb a b) {g:Nat} {cs:Array Value} {e:TypeId} {fr:Nat × Nat} (hc:a.heap[g]?=some (.cells cs e fr)) (he:e≠9) (h1:g≠ub) (h2:g≠mb) (h3:g≠kb):b.heap[g]?=some (.cells cs e fr) :=
 (h.block g (Array.getElem?_eq_some_iff.1 hc).1 h1 h2 h3 (.inr (by rintro ⟨c,f,q⟩;rw [hc] at q;cases q;exact he rfl))).trans hc
structure UX (w:World) (base ub mb kb N:Nat) (B:List UInt8→Int) (out:List (List UInt8)):Prop where
 blk:∃v,w.heap[ub]?=some (.cells #[.map (some mb), .map (some kb),v] 139 (0,0))∧w.ownsRow base 9 1 v out.length (out.map S)
 cm:CM w mb N B
 nm:NM w kb N out
 hu:base≤ub
 hm:base≤mb
 hk:base≤kb
 ne:mb≠kb
theorem UX.umk {w:World} {base ub mb kb N:Nat} {B:List UInt8→Int} {out:List (List UInt8)} (h:UX w base ub mb kb N B out):ub≠mb∧ub≠kb:=by
 obtain ⟨v,hv,_⟩:=h.blk
 obtain ⟨es,c,hm⟩:=h.cm.map
 obtain ⟨es2,c2,hk⟩:=h.nm.map
 constructor
 ·rintro rfl;rw [hv] at hm;cases hm
 ·rintro rfl;rw [hv] at hk;cases hk
theorem UX.mono {w:World} {base ub mb kb N N' : Nat} {B:List UInt8→Int} {out:List (List UInt8)} (h:UX w base ub mb kb N B out) (hn:N≤N'):UX w base ub mb kb N' B out:=⟨h.blk,h.cm.mono hn,h.nm.mono hn,h.hu,h.hm,h.hk,h.ne⟩
theorem UX.keep {w w' : World} {base ub mb kb N:Nat} {B:List UInt8→Int} {out:List (List UInt8)} (h:UX w base ub mb kb N B out) (hb:Below w.heap.size w w'):UX w' base ub mb kb N B out:=by
 obtain ⟨v,hv,ho⟩:=h.blk
 exact ⟨⟨v,(hb.block _ (Array.getElem?_eq_some_iff.1 hv).1).trans hv,own_same ho fun g hg=>hb.block g (ho.lt g hg).2⟩,h.cm.kept (hb.block _ h.cm.lt),h.nm.kept (hb.block _ h.nm.lt),h.hu,h.hm,h.hk,h.ne⟩
theorem UF.grown {base ub mb kb k:Nat} {w w' : World} (hg:w.grownBy w' (some k)) (hk:k=ub∨k=mb∨k=kb):UF base ub mb kb w w' := ⟨hg.os,hg.tape,hg.output,hg.size,fun g h0 h1 h2 h3 _=>hg.block g h0 (fun e=>by cases e;omega)⟩
theorem bind_any (base ub mb kb N:Nat) (B:List UInt8→Int) (out:List (List UInt8)) (ns:List (List UInt8)) (nr:Option Addr) (nc:Nat) (W w:World) (d:Int) (hd:d=1∨d = -1) (hU:UX w base ub mb kb N B out) (hR:RN W nr ns) (hW:Below W.heap.size W w) (hWb:W.heap.size≤base) (hl:ns.length≤1000000) (hs:∀s∈ns,s.length≤281474976710656) (hN:N+ns.length≤100000000) :
  Calls Tryz.prog 129 #[.pointer (some ⟨ub,0,none⟩), .slice nr ns.length nc, .int .i64 d] w fun e w' => (∃v,e = .returned v)∧UX w' base ub mb kb (N+ns.length) (bindU B ns d) out∧UF base ub mb kb w w' := by
 have hml:281474976710656≤maxLen:=by unfold maxLen;omega
 have hml2:100000000<maxLen:=by unfold maxLen;omega
 obtain ⟨b,o,hz,hRd⟩:=hR
 have Hra:Hid (ns≠[]→nr=some ⟨b,o,none⟩):=fun h=>hz.resolve_left h
 have HRd:Hid (∀(j:Nat) (s:List UInt8),ns[j]?=some s→W.cell? ⟨b,o+j,none⟩=some (S s)):=hRd
 have HS:Hid (∀s∈ns,s.length≤281474976710656):=hs
 have HU:Hid (UX w base ub mb kb N B out):=hU
 have HW:Hid (Below W.heap.size W w):=hW
 have HD:Hid (d=1∨d = -1):=hd
 have d1 : -1≤d:=by omega
 have d2:d≤1:=by omega
 have hws:=hW.size
 clear hz hRd hs hU hW hd
 go_enter Tryz.func129,Tryz.ntmps129
 go_upto_region 1 with fail
 go_loopw [10] (fun i wr=>∃(j:Nat) (q r:List (List UInt8)),i = .int .i64 j∧r.length+j=ns.length∧Hid (ns=q++r)∧Hid (q.length=j)∧Hid (UX wr base ub mb kb (N+j) (bindU B q d) out)∧Hid (UF base ub mb kb w wr)) (fun i _=>ns.length-(intOf i).toNat)
 case atStart=>exact ⟨0,[],ns,rfl,by simp,rfl,rfl,by rw [show bindU B [] d=B from by funext s;simp [bindU]];exact HU,UF.refl _ _ _ _ _⟩
 case round =>
  obtain ⟨j,q,r,rfl,hj,HQ,HL,HX,HF⟩:=hrel
  cases r with
  | nil =>
   have hj' : j=ns.length:=by simpa using hj
   have i1:¬ ((j:Int)<(ns.length:Int)):=by omega
   have Hq:Hid (q=ns):=by show _=_;rw [HQ.out,List.append_nil]
   have HX2:Hid (UX wr base ub mb kb (N+ns.length) (bindU B ns d) out):=by rw [←Hq.out];rw [HL.out];exact HX
   clear hj hj'
   go_wp2
   exact bodyPost_end (results_none rfl _ _ _) rfl ⟨⟨_,rfl⟩,HX2.out,HF.out⟩
  | cons s r =>
   simp only [List.length_cons] at hj
   have i1:(j:Int)<(ns.length:Int):=by omega
   have hat:ns[j]?=some s:=by rw [HQ.out,List.getElem?_append_right (Nat.le_of_eq HL.out),HL.out,Nat.sub_self];rfl
   have hra:=Hra.out (fun e=>by rw [e] at hat;cases hat)
   subst hra
   have hc:=HRd.out j s hat
   have hbW:=cell_lt hc
   have bel:Below W.heap.size W wr:=HW.out.trans (HF.out.below hWb hws HX.out.hu HX.out.hm HX.out.hk)
   have e0:=(bel.cell (p:=⟨b,o+j,none⟩) hbW).trans hc
   have hss:s.length≤281474976710656:=HS.out s (List.mem_of_getElem? hat)
   obtain ⟨v,hv,ho⟩:=HX.out.blk
   have c0:wr.cell? ⟨ub,0,none⟩=some (.map (some mb)):=by simp [World.cell?,hv]
   have q1:=HX.out.cm.look s (by omega)
   have hbd:=HX.out.cm.2 s
   obtain ⟨w6,hr6,hcm6,hg6⟩:=HX.out.cm.put (by omega) s (by omega) d HD.out
   have hum:=HX.out.umk
   have HX6:Hid (UX w6 base ub mb kb (N+(j+1)) (bindU B (q++[s]) d) out):=by
    refine ⟨⟨v,(hg6.block ub (Array.getElem?_eq_some_iff.1 hv).1 (fun e=>hum.1 (Option.some.inj e))).trans hv,own_same ho fun g hg=>hg6.block g (ho.lt g hg).2 (fun e=>?_)⟩,?_,(HX.out.nm.kept (hg6.block kb HX.out.nm.lt (fun e=>HX.out.ne (Option.some.inj e).symm))).mono (by omega),HX.out.hu,HX.out.hm,HX.out.hk,HX.out.ne⟩
    ·obtain rfl:=Option.some.inj e
     obtain ⟨es,c,hm⟩:=HX.out.cm.map
     rcases ho.2 with ⟨h0,_⟩|⟨g', cap,cur,hv', _,hh,_⟩
     ·subst h0;cases hg
     ·subst hv'; cases hg;rw [hm] at hh;cases hh
    ·have e:bindU (bindU B q d) [s] d=bindU B (q++[s]) d:=by
      funext t
      simp only [bindU,List.count_append,Int.natCast_add,Int.mul_add]
      omega
     rw [←e,show N+(j+1)=N+j+1 by omega];exact hcm6
   have HF6:Hid (UF base ub mb kb w w6):=HF.out.trans (UF.grown hg6 (.inr (.inl rfl)))
   obtain ⟨fs,hfs⟩:∃fs,bindU B q d s=fs:=⟨_,rfl⟩
   rw [hfs] at q1 hr6 hbd
   have f1 : -100000000≤fs:=by omega
   have f2:fs≤100000000:=by omega
   clear hat hc hv ho hbd hcm6 hg6 hum hfs bel hbW hss
   go_wp2_with fail
   refine ⟨⟨j+1,q++[s],r,by simp,by omega,by show _=_;rw [HQ.out];simp,by show _=_;rw [List.length_append,HL.out];rfl,HX6,HF6⟩,?_⟩
   simp only [intOf]
   omega
end Go.Proofs.YtkgnigloboajcaaGreatDoor
