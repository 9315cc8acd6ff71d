/- What is done with a let's list.; rows: a function a keyword.; A call's list. -/
import Derived.Test.YtkgnigloboajcaaGreatDoorK23
set_option maxRecDepth 100000
set_option maxHeartbeats 16000000
namespace Go.Proofs.YtkgnigloboajcaaGreatDoor
open Go.RowKit Go.Maps Go.ChangeMaps
theorem formsM_len (R:Dt→PR Frm):∀{f:Fo} {i:Int} {g:Fm},formsM R i f = .ok g→g.len=f.len
 | .nil,i,g,h=>by cases h;rfl
 | .cons k n t s d r,i,g,h=>by
  rw [show formsM R i (.cons k n t s d r)=((R ⟨k,n,t,s,d⟩).within i).then fun x=>(formsM R (i+1) r).then fun g => .ok (x.fm g) from rfl] at h
  cases hx:R ⟨k,n,t,s,d⟩ with
  | bad e p=>rw [hx] at h;cases h
  | ok a =>
   rw [hx] at h
   simp only [PR.within,PR.then] at h
   cases hy:formsM R (i+1) r with
   | bad e p=>rw [hy] at h;cases h
   | ok q =>
    rw [hy] at h
    cases h
    have:=formsM_len R hy
    simp only [Fo.len,Frm.fm,Fm.len];omega
theorem bindsM_len (R:Dt→PR Frm):∀{f:Fo} {l:List (List UInt8)} {i:Int} {y:List (List UInt8) × Fm},bindsM R l i f = .ok y→y.2.len=f.len
 | .nil,l,i,g,h=>by cases h;rfl
 | .cons k n t s d r,l,i,g,h=>by
  rw [show bindsM R l i (.cons k n t s d r)=((bindM R l ⟨k,n,t,s,d⟩).within i).then fun x=>(bindsM R (l++[x.1]) (i+1) r).then fun y => .ok (x.1::y.1,x.2.fm y.2) from rfl] at h
  cases hx:bindM R l ⟨k,n,t,s,d⟩ with
  | bad e p=>rw [hx] at h;cases h
  | ok a =>
   rw [hx] at h
   simp only [PR.within,PR.then] at h
   cases hy:bindsM R (l++[a.1]) (i+1) r with
   | bad e p=>rw [hy] at h;cases h
   | ok q =>
    rw [hy] at h
    cases h
    have:=bindsM_len R hy
    simp only [Fo.len,Frm.fm,Fm.len];omega
theorem bindsD_len {R:Dt→PR Frm} {x:Dt} {y:List (List UInt8) × Fm} (h:bindsD R x = .ok y):y.2.len=x.s.len:=by
 unfold bindsD at h
 split at h
 ·cases h
 ·exact bindsM_len R h
theorem HdX.evo {X:Nat→Prop} {W w wr w' : World} {B pb mb:Nat} {ps:List Int} {x:Dt} {v:Value} (h:HdX X W w wr B pb mb ps x v) {b1 e1 s1 n1:Nat} {v1:Value} {x1:List Value} (o1:wr.ownsRow b1 e1 s1 v1 n1 x1) (hev:Evo wr w' v1.ownBlock v1.ownBlock)
  (i1:e1≠3) (p1:e1≠106) (h1:w.heap.size+2≤b1):HdX X W w w' B pb mb ps x v:=by
 have hl:=h.lt
 have hB:=h.c.px.hB
 have hW:=h.c.hB
 have k0:∀g,g<b1→some g≠v1.ownBlock:=fun g hg e=>by have:=(o1.lt g e.symm).1;omega
 exact ⟨h.c.evo o1 o1 hev i1 i1 p1 p1 (by omega) (by omega),h.k.evo o1 o1 hev (by omega) (by omega),hev.at h.q0 (k0 _ (by omega)) (k0 _ (by omega)),hev.at h.q1 (k0 _ (by omega)) (k0 _ (by omega)),h.ltx,h.lt⟩
theorem grow_kids {w7 wf:World} {base c gf cp:Nat} {l:List (List UInt8)} {g0 g:Fm} {nv uv:Value} {bs kbs dbs kbs2:List Nat} {kcs kcs2:List Value} (hnd:bs.Nodup) (hbs:bs=own1 nv++(own1 uv++kbs)++(own1 (.slice none 0 0)++dbs)) (hn:w7.ownsRow base 9 1 nv l.length (l.map S)) (hr:FRow w7 base g0 kcs kbs)
  (h1:FRow w7 c g kcs2 kbs2) (hnd2:kbs2.Nodup) (hc:∀y∈bs,y<c) (hbc:base≤c)
  (hu:wf.ownsRow base 36 9 (.slice (some ⟨gf,0,none⟩) (g0.len+g.len) cp) (g0.len+g.len) (kcs++kcs2)) (_:True=True) (pU:uv.ownBlock=some gf∨gf=w7.heap.size) (EV:Evo w7 wf uv.ownBlock uv.ownBlock) :
  ∃bs', FOne wf base (soFar l (g0.app g)) nv (.slice (some ⟨gf,0,none⟩) (g0.len+g.len) cp) (.slice none 0 0) bs' := by
 have hnd1:=hnd
 rw [hbs,List.nodup_append] at hnd1
 obtain ⟨h2,_,_⟩:=hnd1
 rw [List.nodup_append] at h2
 obtain ⟨_,h4,h5⟩:=h2
 rw [List.nodup_append] at h4
 have hk:∀y∈kbs,some y≠uv.ownBlock∧y<c:=fun y hy=>⟨fun e=>h4.2.2 y (mem_own1.2 e.symm) y hy rfl,hc y (by rw [hbs];simp [hy])⟩
 have hnk:∀y,nv.ownBlock=some y→some y≠uv.ownBlock∧y<c∧y ∉ kbs:=fun y hy=>⟨fun e=>h5 y (mem_own1.2 hy) y (List.mem_append_left _ (mem_own1.2 e.symm)) rfl,hc y (by rw [hbs];simp [mem_own1,hy]),fun h=>h5 y (mem_own1.2 hy) y (List.mem_append_right _ h) rfl⟩
 have ho:∀y,uv.ownBlock=some y→y<c:=fun y hy=>hc y (by rw [hbs];simp [mem_own1,hy])
 have hn2:∀y∈kbs2,some y≠uv.ownBlock∧c≤y∧y<w7.heap.size:=fun y hy=>by
  have:=h1.lt y hy
  exact ⟨fun e=>by have:=ho y e.symm;omega,this.1,this.2⟩
 have hk2:∀y∈kbs,y<w7.heap.size:=fun y hy=>(hr.lt y hy).2
 have hgf:∀y,y<w7.heap.size→some y≠uv.ownBlock→y≠gf:=fun y h1 h2 e=>by
  subst e
  rcases pU with p|p
  ·exact h2 p.symm
  ·omega
 refine ⟨_,⟨kcs++kcs2,kbs++kbs2,[],[],rfl,own_same hn (fun y hy=>EV.block y (hn.lt y hy).2 (hnk y hy).1 (hnk y hy).1),⟨?_,?_⟩,World.ownsRow_nil _ _ _ _,rfl,rfl⟩,?_⟩
 ·show wf.ownsRow _ _ _ _ (g0.app g).len _
  rw [Fm.len_app];exact hu
 ·exact (hr.kept fun y hy=>EV.block y (hk2 y hy) (hk y hy).1 (hk y hy).1).app ((h1.kept fun y hy=>EV.block y (hn2 y hy).2.2 (hn2 y hy).1 (hn2 y hy).1).mono hbc)
 ·have e2:own1 (.slice (some ⟨gf,0,none⟩) (g0.len+g.len) cp)=[gf]:=rfl
  rw [own1_nil,List.append_nil,List.append_nil,e2,List.nodup_append]
  refine ⟨own1_nodup _,?_,fun y hy z hz e=>?_⟩
  ·show (gf::(kbs++kbs2)).Nodup
   refine List.nodup_cons.2 ⟨fun h=>?_,?_⟩
   ·rcases List.mem_append.1 h with h|h
    ·exact hgf gf (hk2 gf h) (hk gf h).1 rfl
    ·exact hgf gf (hn2 gf h).2.2 (hn2 gf h).1 rfl
   ·rw [List.nodup_append]
    exact ⟨h4.2.1,hnd2,fun y hy z hz e=>by subst e;have:=(hk y hy).2;have:=(hn2 y hz).2.1;omega⟩
  ·subst e
   have hy' := mem_own1.1 hy
   rcases List.mem_cons.1 (show y∈gf::(kbs++kbs2) from hz) with h|h
   ·exact hgf y (hn.lt y hy').2 (hnk y hy').1 h
   ·rcases List.mem_append.1 h with h' | h'
    ·exact (hnk y hy').2.2 h'
    ·have:=(hnk y hy').2.1;have:=(hn2 y h').2.1;omega
theorem let_any {K:Nat} (hF:FormC K) (W:World) (B pb mb:Nat) (ps:List Int) (x:Dt) (rk:Option Addr) (ck:Nat) (w:World) (hC:Ctx W w B pb mb ps) (hl:ps.length+3+4*K≤900) (hX:DOk x) (hdp:x.s.dpt≤K) (hR:RS W rk x.s) (hx3:3≤x.s.len) (hx2:∃k0 n0 t0 s0 d0 k1 n1 t1 s1 d1 r,x.s = .cons k0 n0 t0 s0 d0 (.cons k1 n1 t1 s1 d1 r)) :
  RowC W w B pb mb ps x rk ck 106 (rowLet (formM K true) x):=by
 unfold RowC
 have HH:Hid (Hd W w ((w.alloc (boxD x (.slice rk x.s.len ck))).alloc F9) B pb mb ps x (.slice rk x.s.len ck)):=Hd.new hC x _
 have HF:Hid (FormC K):=hF
 have HX:Hid (DOk x):=hX
 have HR:Hid (RS W rk x.s):=hR
 obtain ⟨k0,n0,t0,s0,d0,k1,n1,t1,s1,d1,r,hs⟩:=hx2
 obtain ⟨q1,hq1,hq2⟩:∃q1:Fo,x.s=q1.app x.s.tl.tl∧q1.len=2:=by
  rw [hs]
  exact ⟨.cons k0 n0 t0 s0 d0 (.cons k1 n1 t1 s1 d1 .nil),rfl,rfl⟩
 have HQ:Hid (x.s=q1.app x.s.tl.tl):=hq1
 have HQ2:Hid (q1.len=2):=hq2
 have HOk:Hid (DOk ⟨k1,n1,t1,s1,d1⟩):=hX.kid (q := .cons k0 n0 t0 s0 d0 .nil) (r:=r) (by rw [hs];rfl)
 have HHD:Hid (x.s.tl.hd=⟨k1,n1,t1,s1,d1⟩):=by show _=_;rw [hs];rfl
 have HDP:Hid (s1.dpt+1≤K):=by
  have:=Fo.dpt_app (k:=k1) (n:=n1) (t:=t1) (s:=s1) (d:=d1) (r:=r) (.cons k0 n0 t0 s0 d0 .nil)
  rw [hs] at hdp
  show _≤_
  exact Nat.le_trans this hdp
 have HL2:Hid (1≤x.s.tl.tl.len∧x.s.tl.tl.len≤x.s.len):=by
  show _∧_
  rw [hs] at hx3 ⊢
  simp only [Fo.len,Fo.tl] at hx3 ⊢
  omega
 obtain ⟨b,o,hab,hRd⟩:=hR
 have hra:rk=some ⟨b,o,none⟩:=hab.resolve_left (by rw [hs];simp [Fo.len])
 have hsl:(1:Int)<(x.s.len:Int):=by rw [hs];simp only [Fo.len];omega
 subst hra
 rw [hs] at hRd
 obtain ⟨_,_,_,_,_,_,_,_,_,_,hRd1⟩:=rd_cons hRd
 obtain ⟨o1,ho1⟩:∃o1,o+5=o1:=⟨_,rfl⟩
 rw [ho1] at hRd1
 obtain ⟨hb0,hsl0,rk2,ck2,y0,y1,y2,y3,y4,hrs,_⟩:=rd_cons hRd1
 have HRk:Hid (RS W rk2 s1):=hrs
 have HD0:Hid (W.cell? ⟨b,o1,none⟩=some (.int .u8 k1)∧W.cell? ⟨b,o1+1,none⟩=some (.int .i64 n1)∧W.cell? ⟨b,o1+1+1,none⟩=some (S t1)∧W.cell? ⟨b,o1+1+1+1,none⟩=some (.slice rk2 s1.len ck2)∧W.cell? ⟨b,o1+1+1+1+1,none⟩=some (.bool d1)∧b<W.heap.size):=⟨y0,y1,y2,y3,y4,hb0⟩
 clear hs hab hRd hRd1 y0 y1 y2 y3 y4 hrs hb0
 clear hC hF hX hq1 hq2
 go_enter Tryz.func106,Tryz.ntmps106
 go_upto_region 1 with fail
 generalize (w.alloc (boxD x (.slice (some ⟨b,o,none⟩) x.s.len ck))).alloc F9=W2 at *
 obtain ⟨c0,c1,c2,c3,c4,_⟩:=cells5 HH.out.q0
 have hpb:=HH.out.lt
 go_wp2_with fail
 refine (enter_any B pb mb ps 1 W2 HH.out.c.px (by omega) (by have:=HH.out.c.px.hB;have:=HH.out.c.px.lt;omega)).mono ?_
 rintro e w3 ⟨⟨v3,rfl⟩,hp3,hk3⟩
 have HH3:Hid (Hd W w w3 B pb mb (ps++[1]) x (.slice (some ⟨b,o,none⟩) x.s.len ck)):=HH.out.step hp3 hk3
 have hs3:=hk3.size
 clear hp3 hk3 c0 c1 c2 c3 c4
 obtain ⟨c0,c1,c2,c3,c4,_⟩:=cells5 HH3.out.q0
 have bel:=HH3.out.c.hW
 obtain ⟨y0,y1,y2,y3,y4,hb0⟩:=HD0.out
 have e0:=(bel.cell (p:=⟨b,_,none⟩) hb0).trans y0
 have e1:=(bel.cell (p:=⟨b,_,none⟩) hb0).trans y1
 have e2:=(bel.cell (p:=⟨b,_,none⟩) hb0).trans y2
 have e3:=(bel.cell (p:=⟨b,_,none⟩) hb0).trans y3
 have e4:=(bel.cell (p:=⟨b,_,none⟩) hb0).trans y4
 clear bel y0 y1 y2 y3 y4
 go_wp2_with fail
 refine (binds_any HF.out W B pb mb (ps++[1]) ⟨k1,n1,t1,s1,d1⟩ rk2 ck2 w3 HH3.out.c (by simp;omega) HOk.out (by have:=HDP.out;show s1.dpt≤K+1;omega) HRk.out).mono ?_
 cases hv:bindsD (formM K true) ⟨k1,n1,t1,s1,d1⟩ with
 | bad er p =>
  have HNW:Hid (rowLet (formM K true) x = .bad er (1::p)):=by show _=_;unfold rowLet;rw [HHD.out];simp only [hv];rfl
  rintro e w4 ⟨v5,rfl,h1,h2⟩
  clear hv
  go_wp2_with fail
  refine ⟨rfl,?_⟩
  rw [HNW.out]
  exact (GaveUp.elder (GaveUp.cast ⟨v5,rfl,h1,h2⟩ (by simp)) HH3.out.k)
 | ok a =>
  obtain ⟨l,g0⟩:=a
  have HV:Hid (bindsD (formM K true) ⟨k1,n1,t1,s1,d1⟩ = .ok (l,g0)):=hv
  clear hv
  rintro e w4 ⟨⟨nv,uv,bs,rfl,hone⟩,hp4,hk4⟩
  obtain ⟨rn,cn,ru,cu,rx,cx,rfl,rfl,hnl⟩:=hone.slices
  clear hnl
  have hs4:=hk4.size
  have HH4:Hid (Hd W w w4 B pb mb (ps++[1]) x (.slice (some ⟨b,o,none⟩) x.s.len ck)):=HH3.out.step hp4 hk4
  have HO4:Hid (FOne w4 w3.heap.size (soFar l g0) (.slice rn l.length cn) (.slice ru g0.len cu) (.slice none 0 0) bs):=hone
  have HL3:Hid (w.heap.size+2≤w3.heap.size):=by show _≤_;have:=(Array.getElem?_eq_some_iff.1 HH3.out.q1).1;omega
  clear hone
  clear hp4 hk4 c0 c1 c2 c3 c4 e0 e1 e2 e3 e4
  go_wp2_with fail
  refine (leave_any B pb mb ps 1 w4 HH4.out.c.px (by omega)).mono ?_
  rintro e w6 ⟨⟨v6,rfl⟩,hp6,hk6⟩
  have hs6:=hk6.size
  have HH6:Hid (Hd W w w6 B pb mb ps x (.slice (some ⟨b,o,none⟩) x.s.len ck)):=HH4.out.step hp6 hk6
  have HO6:Hid (FOne w6 w3.heap.size (soFar l g0) (.slice rn l.length cn) (.slice ru g0.len cu) (.slice none 0 0) bs):=HO4.out.keep hk6 (fun g h1 _=>by have:=HL3.out;show ¬ _=pb;omega)
  have HZ6:Hid (w.heap.size+2≤w6.heap.size):=by show _≤_;have:=(Array.getElem?_eq_some_iff.1 HH6.out.q1).1;omega
  clear hp6 hk6
  obtain ⟨c0,c1,c2,c3,c4,_⟩:=cells5 HH6.out.q0
  go_wp2_with fail
  refine (forms_any HF.out W B pb mb ps x (some ⟨b,o,none⟩) ck w6 2 q1 x.s.tl.tl HH6.out.c (by omega) HX.out hdp HR.out HQ.out HQ2.out).mono ?_
  cases hx:formsM (formM K true) (2:Nat) x.s.tl.tl with
  | bad er p =>
   have HNW:Hid (rowLet (formM K true) x = .bad er p):=by show _=_;unfold rowLet;rw [HHD.out];simp only [HV.out,PR.within,PR.then];rw [show (2:Int)=((2:Nat):Int) from rfl,hx]
   rintro e w5 ⟨v5,rfl,h1,h2⟩
   clear hx
   go_wp2_with fail
   refine ⟨rfl,?_⟩
   rw [HNW.out]
   exact GaveUp.elder ⟨v5,rfl,h1,h2⟩ HH6.out.k
  | ok g =>
   have HNW:Hid (rowLet (formM K true) x = .ok (soFar l (g0.app g))):=by show _=_;unfold rowLet;rw [HHD.out];simp only [HV.out,PR.within,PR.then];rw [show (2:Int)=((2:Nat):Int) from rfl,hx]
   rintro e w5 ⟨⟨v5,rfl,hT⟩,hp5,hk5⟩
   obtain ⟨ra,ca,rfl⟩:=hT.slice
   have HH5:Hid (Hd W w w5 B pb mb ps x (.slice (some ⟨b,o,none⟩) x.s.len ck)):=HH6.out.step hp5 hk5
   have HT:Hid (FTree w5 w6.heap.size (.slice ra g.len ca) g):=hT
   have HO5:Hid (FOne w5 w3.heap.size (soFar l g0) (.slice rn l.length cn) (.slice ru g0.len cu) (.slice none 0 0) bs):=HO6.out.keep hk5 (fun g h1 _=>by have:=HL3.out;show ¬ _=pb;omega)
   have Hbs:Hid (∀y∈bs,y<w6.heap.size):=fun y hy=>(HO6.out.lt y hy).2
   have HGL:Hid (g.len=x.s.tl.tl.len):=formsM_len _ hx
   obtain ⟨i1,hi1,hy0,hy1,hy2⟩:=info_parts infoFrm
   obtain ⟨kcs,kbs,dcs,dbs,hbs,hn1,⟨hn2,hn3⟩,hn4,hn5⟩:=HO5.out.row
   obtain ⟨kcs2,kbs2,hm1,hm2,hm3⟩:=HT.out.ex
   obtain ⟨ga,hga⟩:∃ga,ra=some ⟨ga,0,none⟩:=by
    rcases hm1.2 with ⟨_,h0⟩|⟨g', cap,cur,hv,_⟩
    ·have:=HGL.out;have:=HL2.out;omega
    ·cases hv;exact ⟨g', rfl⟩
   subst hga
   have HN1:Hid (w5.ownsRow w3.heap.size 9 1 (.slice rn l.length cn) l.length (l.map S)):=hn1
   have HN2:Hid (w5.ownsRow w3.heap.size 36 9 (.slice ru g0.len cu) g0.len kcs):=hn2
   have HM1:Hid (w5.ownsRow w6.heap.size 36 9 (.slice (some ⟨ga,0,none⟩) g.len ca) g.len kcs2):=hm1
   have HM2:Hid (FRow w5 w6.heap.size g kcs2 kbs2):=hm2
   have HGp:Hid (0<g.len):=by have:=HGL.out;have:=HL2.out;show 0<_;omega
   have HGs:Hid (g.len≤1000000∧g0.len≤1000000):=⟨by have:=HGL.out;have:=HL2.out;have:=HX.out.len;omega,by have h1:g0.len=s1.len:=bindsD_len HV.out;have h2:s1.len≤1000000:=HOk.out.len;omega⟩
   have hs35:w3.heap.size≤w5.heap.size:=by have:=hk5.size;omega
   clear hx hT hp5 hk5 c0 c1 c2 c3 c4 hn1 hn2 hm1 hm2
   go_wp2_with (at_builtin;refine stop_of ?_)
   unfold Hid
   refine wpList_append_lies _ rfl _ _ 34 rfl w3.heap.size 36 i1 (.agg #[.int .u8 0, .string ⟨#[]⟩, .slice none 0 0, .slice none 0 0, .int .u8 0, .int .i64 0, .string ⟨#[]⟩, .slice none 0 0, .bool false]) 9 136 Tryz.underlying34 hi1 hy0 hy1 hy2 rfl (by decide) (.slice ru g0.len cu) g0.len kcs rfl HN2.out ⟨ga,0,none⟩ g.len ca kcs2 rfl HM2.out.len (fun j' u hu=>HM1.out.cells rfl j' u hu) HM2.out.one HGp.out (by have:=HGs.out;unfold maxLen;omega) (by have:=HGs.out;omega) (by omega) _ rfl ?_
   intro gf cp w7 hown hgr hat hl7
   have EV:Evo w5 w7 (Value.slice ru g0.len cu).ownBlock (Value.slice ru g0.len cu).ownBlock:=⟨hgr.os,hgr.tape,hgr.output,hgr.size,fun k hk h1 _=>hgr.block k hk h1⟩
   have hL3:=HL3.out
   have HH7:Hid (Hd W w w7 B pb mb ps x (.slice (some ⟨b,o,none⟩) x.s.len ck)):=HH5.out.evo HN2.out EV (by decide) (by decide) (by omega)
   have HOf:Hid (∃bs', FOne w7 (w.heap.size+2) (soFar l (g0.app g)) (.slice rn l.length cn) (.slice (some ⟨gf,0,none⟩) (g0.len+g.len) cp) (.slice none 0 0) bs'):=by
    obtain ⟨bs', h'⟩:=grow_kids HO5.out.nodup hbs HN1.out hn3 HM2.out (List.nodup_append.1 hm3).2.1 Hbs.out (by omega) hown rfl hat EV
    exact ⟨bs', h'.mono hL3⟩
   clear EV hown hgr hat hl7 hbs hn3 hn4 hn5 hm3
   obtain ⟨⟨z0,z1,z2,z3,z4,z5,z6,z7,z8⟩,zf⟩:=cells9 HH7.out.q1
   have f0:=zf 0
   have f1:=zf 1
   have f2:=zf 2
   have f3:=zf 3
   have f4:=zf 4
   have f5:=zf 5
   have f6:=zf 6
   have f7:=zf 7
   have f8:=zf 8
   clear zf
   go_wp2_with fail
   refine bodyPost_nine (s:=4) rfl rfl rfl HH7.out.q1 fun W9 h9=>?_
   rw [HNW.out]
   obtain ⟨bs', ho⟩:=HOf.out
   exact row_end (f:=soFar l (g0.app g)) HH7.out ho h9
def row0:List UInt8→Nat:=fun _=>0
def row1:List UInt8→Nat:=fun k=>if k=[113,117,111,116,101] then 102 else row0 k
def row2:List UInt8→Nat:=fun k=>if k=[105,102] then 103 else row1 k
def row3:List UInt8→Nat:=fun k=>if k=[108,97,109,98,100,97] then 104 else row2 k
def row4:List UInt8→Nat:=fun k=>if k=[100,101,102,105,110,101] then 105 else row3 k
def row5:List UInt8→Nat:=fun k=>if k=[115,101,116,33] then 105 else row4 k
def row6:List UInt8→Nat:=fun k=>if k=[98,101,103,105,110] then 103 else row5 k
def row7:List UInt8→Nat:=fun k=>if k=[108,101,116] then 106 else row6 k
def row8:List UInt8→Nat:=fun k=>if k=[119,104,105,108,101] then 103 else row7 k
def row9:List UInt8→Nat:=fun k=>if k=[115,112,97,119,110] then 103 else row8 k
def row10:List UInt8→Nat:=fun k=>if k=[106,111,105,110] then 103 else row9 k
def row11:List UInt8→Nat:=fun k=>if k=[108,111,99,107] then 103 else row10 k
def row12:List UInt8→Nat:=fun k=>if k=[117,110,108,111,99,107] then 103 else row11 k
def row13:List UInt8→Nat:=fun k=>if k=[121,105,101,108,100] then 103 else row12 k
theorem row_all:row13=rowFn:=by
 funext s
 by_cases h13:s=[121,105,101,108,100]
 ·subst h13;rfl
 by_cases h12:s=[117,110,108,111,99,107]
 ·subst h12;rfl
 by_cases h11:s=[108,111,99,107]
 ·subst h11;rfl
 by_cases h10:s=[106,111,105,110]
 ·subst h10;rfl
 by_cases h9:s=[115,112,97,119,110]
 ·subst h9;rfl
 by_cases h8:s=[119,104,105,108,101]
 ·subst h8;rfl
 by_cases h7:s=[108,101,116]
 ·subst h7;rfl
 by_cases h6:s=[98,101,103,105,110]
 ·subst h6;rfl
 by_cases h5:s=[115,101,116,33]
 ·subst h5;rfl
 by_cases h4:s=[100,101,102,105,110,101]
 ·subst h4;rfl
 by_cases h3:s=[108,97,109,98,100,97]
 ·subst h3;rfl
 by_cases h2:s=[105,102]
 ·subst h2;rfl
 by_cases h1:s=[113,117,111,116,101]
 ·subst h1;rfl
 have hn:kwOf s=none:=by
  by_cases h0:s=[]
  ·subst h0;rfl
  refine kwOf_none fun i hi=>?_
  rcases i with _|_|_|_|_|_|_|_|_|_|_|_|_|_|_|i
  ·exact fun e=>h1 e.symm
  ·exact fun e=>h0 e.symm
  ·exact fun e=>h2 e.symm
  ·exact fun e=>h3 e.symm
  ·exact fun e=>h4 e.symm
  ·exact fun e=>h5 e.symm
  ·exact fun e=>h6 e.symm
  ·exact fun e=>h7 e.symm
  ·exact fun e=>h8 e.symm
  ·exact fun e=>h0 e.symm
  ·exact fun e=>h9 e.symm
  ·exact fun e=>h10 e.symm
  ·exact fun e=>h11 e.symm
  ·exact fun e=>h12 e.symm
  ·exact fun e=>h13 e.symm
  ·omega
 have hr:rowFn s=0:=by unfold rowFn;rw [hn]
 rw [hr]
 unfold row13 row12 row11 row10 row9 row8 row7 row6 row5 row4 row3 row2 row1 row0
 simp only [if_neg h13,if_neg h12,if_neg h11,if_neg h10,if_neg h9,if_neg h8,if_neg h7,if_neg h6,if_neg h5,if_neg h4,if_neg h3,if_neg h2,if_neg h1]
theorem rows_any (w:World):Calls Tryz.prog 51 #[] w fun e w' => ∃mb,e = .returned (.map (some mb))∧w.heap.size≤mb∧(∃n,MF w' mb n rowFn)∧Below w.heap.size w w' := by
 have mm:(Instr.makeMap 103 none).run Tryz.prog w = .ok (.map (some w.heap.size)) (w.alloc (.map #[] 0)):=run_makeMap (P:=Tryz.prog) 103 w
 have HB:Hid (Below w.heap.size w (w.alloc (.map #[] 0))):=(Below.refl _ w).alloc (Nat.le_refl _) _
 have hm0:MF (w.alloc (.map #[] 0)) w.heap.size 0 row0:=MF.made w
 have hL:(13:Nat)<maxLen:=by unfold maxLen;omega
 obtain ⟨w1,r1,hm1,g1⟩:=hm0.put (s:=[113,117,111,116,101]) (by simp only [List.length];omega) (by omega) 102
 have q1:(Instr.mapUpdate 103 (.map (some w.heap.size)) (.string ⟨#[113,117,111,116,101]⟩) (.func (.func 102) #[] #[])).run Tryz.prog (w.alloc (.map #[] 0)) = .ok () w1:=r1
 change MF w1 w.heap.size 1 row1 at hm1
 obtain ⟨w2,r2,hm2,g2⟩:=hm1.put (s:=[105,102]) (by simp only [List.length];omega) (by omega) 103
 have q2:(Instr.mapUpdate 103 (.map (some w.heap.size)) (.string ⟨#[105,102]⟩) (.func (.func 103) #[] #[])).run Tryz.prog w1 = .ok () w2:=r2
 change MF w2 w.heap.size 2 row2 at hm2
 obtain ⟨w3,r3,hm3,g3⟩:=hm2.put (s:=[108,97,109,98,100,97]) (by simp only [List.length];omega) (by omega) 104
 have q3:(Instr.mapUpdate 103 (.map (some w.heap.size)) (.string ⟨#[108,97,109,98,100,97]⟩) (.func (.func 104) #[] #[])).run Tryz.prog w2 = .ok () w3:=r3
 change MF w3 w.heap.size 3 row3 at hm3
 obtain ⟨w4,r4,hm4,g4⟩:=hm3.put (s:=[100,101,102,105,110,101]) (by simp only [List.length];omega) (by omega) 105
 have q4:(Instr.mapUpdate 103 (.map (some w.heap.size)) (.string ⟨#[100,101,102,105,110,101]⟩) (.func (.func 105) #[] #[])).run Tryz.prog w3 = .ok () w4:=r4
 change MF w4 w.heap.size 4 row4 at hm4
 obtain ⟨w5,r5,hm5,g5⟩:=hm4.put (s:=[115,101,116,33]) (by simp only [List.length];omega) (by omega) 105
 have q5:(Instr.mapUpdate 103 (.map (some w.heap.size)) (.string ⟨#[115,101,116,33]⟩) (.func (.func 105) #[] #[])).run Tryz.prog w4 = .ok () w5:=r5
 change MF w5 w.heap.size 5 row5 at hm5
 obtain ⟨w6,r6,hm6,g6⟩:=hm5.put (s:=[98,101,103,105,110]) (by simp only [List.length];omega) (by omega) 103
 have q6:(Instr.mapUpdate 103 (.map (some w.heap.size)) (.string ⟨#[98,101,103,105,110]⟩) (.func (.func 103) #[] #[])).run Tryz.prog w5 = .ok () w6:=r6
 change MF w6 w.heap.size 6 row6 at hm6
 obtain ⟨w7,r7,hm7,g7⟩:=hm6.put (s:=[108,101,116]) (by simp only [List.length];omega) (by omega) 106
 have q7:(Instr.mapUpdate 103 (.map (some w.heap.size)) (.string ⟨#[108,101,116]⟩) (.func (.func 106) #[] #[])).run Tryz.prog w6 = .ok () w7:=r7
 change MF w7 w.heap.size 7 row7 at hm7
 obtain ⟨w8,r8,hm8,g8⟩:=hm7.put (s:=[119,104,105,108,101]) (by simp only [List.length];omega) (by omega) 103
 have q8:(Instr.mapUpdate 103 (.map (some w.heap.size)) (.string ⟨#[119,104,105,108,101]⟩) (.func (.func 103) #[] #[])).run Tryz.prog w7 = .ok () w8:=r8
 change MF w8 w.heap.size 8 row8 at hm8
 obtain ⟨w9,r9,hm9,g9⟩:=hm8.put (s:=[115,112,97,119,110]) (by simp only [List.length];omega) (by omega) 103
 have q9:(Instr.mapUpdate 103 (.map (some w.heap.size)) (.string ⟨#[115,112,97,119,110]⟩) (.func (.func 103) #[] #[])).run Tryz.prog w8 = .ok () w9:=r9
 change MF w9 w.heap.size 9 row9 at hm9
 obtain ⟨w10,r10,hm10,g10⟩:=hm9.put (s:=[106,111,105,110]) (by simp only [List.length];omega) (by omega) 103
 have q10:(Instr.mapUpdate 103 (.map (some w.heap.size)) (.string ⟨#[106,111,105,110]⟩) (.func (.func 103) #[] #[])).run Tryz.prog w9 = .ok () w10:=r10
 change MF w10 w.heap.size 10 row10 at hm10
 obtain ⟨w11,r11,hm11,g11⟩:=hm10.put (s:=[108,111,99,107]) (by simp only [List.length];omega) (by omega) 103
 have q11:(Instr.mapUpdate 103 (.map (some w.heap.size)) (.string ⟨#[108,111,99,107]⟩) (.func (.func 103) #[] #[])).run Tryz.prog w10 = .ok () w11:=r11
 change MF w11 w.heap.size 11 row11 at hm11
 obtain ⟨w12,r12,hm12,g12⟩:=hm11.put (s:=[117,110,108,111,99,107]) (by simp only [List.length];omega) (by omega) 103
 have q12:(Instr.mapUpdate 103 (.map (some w.heap.size)) (.string ⟨#[117,110,108,111,99,107]⟩) (.func (.func 103) #[] #[])).run Tryz.prog w11 = .ok () w12:=r12
 change MF w12 w.heap.size 12 row12 at hm12
 obtain ⟨w13,r13,hm13,g13⟩:=hm12.put (s:=[121,105,101,108,100]) (by simp only [List.length];omega) (by omega) 103
 have q13:(Instr.mapUpdate 103 (.map (some w.heap.size)) (.string ⟨#[121,105,101,108,100]⟩) (.func (.func 103) #[] #[])).run Tryz.prog w12 = .ok () w13:=r13
 change MF w13 w.heap.size 13 row13 at hm13
 have HM:Hid (MF w13 w.heap.size 13 row13):=hm13
 have k0:∀{a b:World},a.grownBy b (some w.heap.size)→Below w.heap.size w a→Below w.heap.size w b:=fun h hb=>hb.trans ((Below.refl _ _).grown h hb.size (fun k hk=>by cases hk;exact Nat.le_refl _))
 have HB13:Hid (Below w.heap.size w w13):=(k0 g13 (k0 g12 (k0 g11 (k0 g10 (k0 g9 (k0 g8 (k0 g7 (k0 g6 (k0 g5 (k0 g4 (k0 g3 (k0 g2 (k0 g1 HB.out)))))))))))))
 clear hm1 g1 r1 hm2 g2 r2 hm3 g3 r3 hm4 g4 r4 hm5 g5 r5 hm6 g6 r6 hm7 g7 r7 hm8 g8 r8 hm9 g9 r9 hm10 g10 r10 hm11 g11 r11 hm12 g12 r12 hm13 g13 r13 hm0 k0
 go_enter Tryz.func51,Tryz.ntmps51
 go_wp2
 go_ret
 exact ⟨_,rfl,Nat.le_refl _,⟨13,by rw [←row_all];exact HM.out⟩,HB13.out⟩
theorem wrapI {n:Int} (h0:0≤n) (h1:n<9223372036854775808):IntKind.i64.wrap n=n:=by
 have e:n % 2 ^ 64=n:=Int.emod_eq_of_lt h0 (by omega)
 simp only [IntKind.wrap,IntKind.bits,IntKind.signed,e]
 rw [if_neg]
 simp
 omega
theorem keep2 {W W' : World} {b g o1 o2:Nat} {u v:Value} (hb:Below W.heap.size W W') (h:W.cell? ⟨b,o1,none⟩=some u∧W.cell? ⟨g,o2,none⟩=some v):W'.cell? ⟨b,o1,none⟩=some u∧W'.cell? ⟨g,o2,none⟩=some v :=
 ⟨(hb.cell (p:=⟨b,o1,none⟩) (cell_lt h.1)).trans h.1,(hb.cell (p:=⟨g,o2,none⟩) (cell_lt h.2)).trans h.2⟩
theorem call_any {K:Nat} (hF:FormC K) (W:World) (B pb mb:Nat) (ps:List Int) (x:Dt) (rk:Option Addr) (ck:Nat) (w:World) (hC:Ctx W w B pb mb ps) (hl:ps.length+1+4*K≤900) (hX:DOk x) (hdp:x.s.dpt≤K) (hR:RS W rk x.s) (hx1:∃k0 n0 t0 s0 d0 r,x.s = .cons k0 n0 t0 s0 d0 r) :
  RowC W w B pb mb ps x rk ck 148 (callM (formM K true) x):=by
 unfold RowC
 have HH:Hid (Hd W w ((w.alloc (boxD x (.slice rk x.s.len ck))).alloc F9) B pb mb ps x (.slice rk x.s.len ck)):=Hd.new hC x _
 have HF:Hid (FormC K):=hF
 have HX:Hid (DOk x):=hX
 have HR:Hid (RS W rk x.s):=hR
 obtain ⟨k0,n0,t0,s0,d0,r,hs⟩:=hx1
 have HOk:Hid (DOk ⟨k0,n0,t0,s0,d0⟩):=hX.kid (q := .nil) (r:=r) (by rw [hs];rfl)
 have HCM:Hid (callM (formM K true) x=if !argsB t0 (x.s.len-1) then .bad 70 [] else (formsM (formM K true) 0 x.s).then fun g => .ok { frm0 with kind:=10,kids:=g }):=by
  show _=_;unfold callM;rw [hs];rfl
 have HZ:Hid (((w.alloc (boxD x (.slice rk x.s.len ck))).alloc F9).heap.size=w.heap.size+2):=by show _=_;simp
 have hlen:=hX.len
 obtain ⟨b,o,hab,hRd⟩:=hR
 have hra:rk=some ⟨b,o,none⟩:=hab.resolve_left (by rw [hs];simp [Fo.len])
 have hsl:(0:Int)<(x.s.len:Int):=by rw [hs];simp only [Fo.len];omega
 have hsl2:0<x.s.len:=by omega
 have hwr:IntKind.i64.wrap ((x.s.len:Int)-1)=(x.s.len:Int)-1:=wrapI (by omega) (by omega)
 subst hra
 rw [hs] at hRd
 obtain ⟨hb0,hsl0,rk2,ck2,y0,y1,y2,y3,y4,hrs,_⟩:=rd_cons hRd
 clear hs hab hRd hC hX hrs hF
 obtain ⟨ab,hab⟩:∃ab,argsB t0 ((x.s.len:Int)-1)=ab:=⟨_,rfl⟩
 rw [HCM.out,hab]
 have hmx:Tryz.prog.follows .mixedOrders=true:=by kernel_rfl
 go_enter Tryz.func148,Tryz.ntmps148
 go_upto_region 1 with fail
 generalize (w.alloc (boxD x (.slice (some ⟨b,o,none⟩) x.s.len ck))).alloc F9=W2 at *
 obtain ⟨c0,c1,c2,c3,c4,_⟩:=cells5 HH.out.q0
 have bel:=HH.out.c.hW
 have e2:=(bel.cell (p:=⟨b,_,none⟩) hb0).trans y2
 have HC2:Hid (Calls Tryz.prog 172 #[S t0, .int .i64 ((x.s.len:Int)-1)] W2.drew fun e w' => e = .returned (.bool ab)∧Below W2.heap.size W2.drew w'):=by rw [←hab];exact args_any t0 _ _ HOk.out.t (HH.out.c.envw.below (Below.refl _ _).drew)
 clear hab
 have mk:∀wx,Below W2.heap.size W2.drew wx→wx.cell? ⟨w.heap.size,3,none⟩=some (.slice (some ⟨b,o,none⟩) x.s.len ck)∧wx.cell? ⟨b,o+1+1,none⟩=some (S t0):=fun wx hb=>keep2 (W:=W2.drew) hb ⟨c3,e2⟩
 clear bel y0 y1 y2 y3 y4 c0 c1 c2 c4 hb0
 go_region_held3 (fun wx=>wx.cell? ⟨w.heap.size,3,none⟩=some (.slice (some ⟨b,o,none⟩) x.s.len ck)∧wx.cell? ⟨b,o+1+1,none⟩=some (S t0)) (first|(go_keep;done)|exact mk _ hb1)
  (first|(go_at_call 172;refine HC2.out.mono ?_;rintro e w1 ⟨rfl,hb1⟩))
 have hbW:Below W2.heap.size W2 w1:=(Below.refl _ W2).drew.trans hb1
 have HH1:Hid (Hd W w w1 B pb mb ps x (.slice (some ⟨b,o,none⟩) x.s.len ck)):=HH.out.step (HH.out.c.px.same hbW) (KP.of hbW)
 have HZ1:Hid (w.heap.size+2≤w1.heap.size):=by show _≤_;have:=HZ.out;have:=hbW.size;omega
 clear hb1 hbW mk c3 e2
 obtain ⟨c0,c1,c2,c3,c4,_⟩:=cells5 HH1.out.q0
 cases ab with
 | false =>
  go_wp2_with fail
  refine (giveUp_any B pb mb ps 70 w1 HH1.out.c.px (by omega)).mono ?_
  rintro e w2 ⟨v', rfl,h1,h2⟩
  go_wp2_with fail
  refine ⟨rfl,?_⟩
  exact (GaveUp.elder ⟨v', rfl,h1,h2⟩ HH1.out.k).cast (by simp)
 | true =>
  go_wp2_with fail
  refine (forms_any HF.out W B pb mb ps x (some ⟨b,o,none⟩) ck w1 0 .nil x.s HH1.out.c hl HX.out hdp HR.out rfl rfl).mono ?_
  cases hx:formsM (formM K true) (0:Nat) x.s with
  | bad er p =>
   have HNW:Hid (formsM (formM K true) 0 x.s = .bad er p):=hx
   rintro e w5 ⟨v5,rfl,h1,h2⟩
   clear hx
   go_wp2_with fail
   refine ⟨rfl,?_⟩
   rw [HNW.out]
   exact GaveUp.elder ⟨v5,rfl,h1,h2⟩ HH1.out.k
  | ok g =>
   have HNW:Hid (formsM (formM K true) 0 x.s = .ok g):=hx
   rintro e w5 ⟨⟨v5,rfl,hT⟩,hp5,hk5⟩
   obtain ⟨ra,ca,rfl⟩:=hT.slice
   have HH5:Hid (Hd W w w5 B pb mb ps x (.slice (some ⟨b,o,none⟩) x.s.len ck)):=HH1.out.step hp5 hk5
   have HT:Hid (FTree w5 w1.heap.size (.slice ra g.len ca) g):=hT
   obtain ⟨⟨z0,z1,z2,z3,z4,z5,z6,z7,z8⟩,zf⟩:=cells9 HH5.out.q1
   have f0:=zf 0
   have f1:=zf 1
   have f2:=zf 2
   have f3:=zf 3
   have f4:=zf 4
   have f5:=zf 5
   have f6:=zf 6
   have f7:=zf 7
   have f8:=zf 8
   clear hx hT hp5 hk5 zf c0 c1 c2 c3 c4
   go_wp2_with fail
   refine bodyPost_nine (s:=4) rfl rfl rfl HH5.out.q1 fun W9 h9=>?_
   rw [HNW.out]
   obtain ⟨bs,ho⟩:=one_nk (w:=w5) (base:=w.heap.size+2) (c:=w1.heap.size) (f:={ frm0 with kind:=10,kids:=g }) rfl (World.ownsRow_nil _ _ _ _) (fun g hg=>by cases hg) HT.out HZ1.out
   exact row_end (f:={ frm0 with kind:=10,kids:=g }) HH5.out ho h9
end Go.Proofs.YtkgnigloboajcaaGreatDoor
