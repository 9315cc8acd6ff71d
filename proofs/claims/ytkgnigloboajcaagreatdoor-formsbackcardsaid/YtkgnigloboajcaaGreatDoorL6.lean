/- How many forms.; OfDatum: how much a datum is.; OfForm: how much a form is. -/
import Derived.Test.YtkgnigloboajcaaGreatDoorK41
set_option maxRecDepth 100000
set_option maxHeartbeats 8000000
namespace Go.Proofs.YtkgnigloboajcaaGreatDoor
def Fm.sz:Fm→Nat
 | .nil=>0
 | .cons _ _ _ ks _ _ _ _ _ r=>ks.sz+r.sz+1
open Go.RowKit
def Fo.am:Fo→Nat
 | .nil=>0
 | .cons _ _ t s _ r=>1+t.length+s.am+r.am
def Dt.am (x:Dt):Nat:=1+x.t.length+x.s.am
theorem Fo.am_app:∀f g:Fo,(f.app g).am=f.am+g.am
 | .nil,g=>by simp [Fo.app,Fo.am]
 | .cons _ _ _ _ _ r,g=>by simp only [Fo.app,Fo.am,Fo.am_app r g];omega
theorem Fo.am_size:∀f:Fo,f.size≤f.am
 | .nil=>Nat.le_refl _
 | .cons _ _ t s _ r=>by have h1:=Fo.am_size s;have h2:=Fo.am_size r;simp only [Fo.size,Fo.am];omega
theorem Fo.am_tx:∀{f:Fo} {n:Nat},f.am≤n→n≤281474976710656→f.tx
 | .nil,_,_,_=>trivial
 | .cons _ _ t s _ r,n,h,hn=>by
  simp only [Fo.am] at h
  exact ⟨by omega,Fo.am_tx (n:=n) (by omega) hn,Fo.am_tx (n:=n) (by omega) hn⟩
def Fo.sl:Fo→Prop
 | .nil=>True
 | .cons _ _ t s _ r=>t.length≤281474976710656∧s.sl∧r.sl
def OfDC (N:Nat):Prop:=∀(x:Dt) (rk:Option Addr) (ck L:Nat) (w:World),x.s.size≤N→L≤2001→RS w rk x.s→x.s.len≤maxLen→x.t.length≤281474976710656→x.s.sl →
 Calls Tryz.prog 44 #[datV x (.slice rk x.s.len ck), .int .i64 L] w fun e w' => (∃v:Nat,e = .returned (.int .i64 v)∧v≤281474976710657+(2001-L)*2147483648∧(v≤2147483647→v=x.am))∧Below w.heap.size w w'
theorem ofD_of {N:Nat} (h:∀M,M<N→OfDC M):OfDC N:=by
 intro x rk ck L w hN hL hR hm ht hst
 have HC:Hid (∀M,M<N→OfDC M):=h
 have HS:Hid (x.s.sl):=hst
 have hal:Below w.heap.size w (w.alloc (boxD x (.slice rk x.s.len ck))):=(Below.refl _ w).alloc (Nat.le_refl _) _
 have Hal:Hid _:=hal
 have HQ0:Hid _:=World.alloc_heap_new w (boxD x (.slice rk x.s.len ck))
 have htl:(x.t.length:Int)≤281474976710656:=by omega
 have hmm:=hm
 unfold maxLen at hmm
 have HAm:Hid (x.am=1+x.t.length+x.s.am):=rfl
 obtain ⟨c0,c1,c2,c3,c4,_⟩:=cells5 HQ0.out
 obtain ⟨b,o,hab,hRd⟩:=hR
 have HRd:Hid (Rd w b o x.s):=hRd
 have Hra:Hid (x.s.len≠0→rk=some ⟨b,o,none⟩):=fun h=>hab.resolve_left h
 clear h hst hal hRd hab
 by_cases h5:2000<L
 ·have h5' : (2000:Int)<(L:Int):=by omega
  go_enter Tryz.func44,Tryz.ntmps44
  go_wp2
  go_ret
  exact ⟨⟨2147483648,rfl,by omega,fun h=>absurd h (by omega)⟩,Hal.out⟩
 ·have h5' : ¬ (2000:Int)<(L:Int):=by omega
  go_enter Tryz.func44,Tryz.ntmps44
  go_upto_region 5 with fail
  clear c0 c1 c2 c3 c4
  go_loopw [5,6] (fun nv i wr=>∃(j n:Nat) (q fi:Fo),nv = .int .i64 n∧i = .int .i64 j∧fi.len+j=x.s.len∧fi.size≤x.s.size∧n≤281474976710657+(2001-L)*2147483648∧Hid (x.s=q.app fi)∧Hid fi.sl∧Hid (Rd w b (o+j*5) fi)∧Hid (Below w.heap.size w wr)∧Hid (wr.heap[w.heap.size]?=some (.cells #[.int .u8 x.k, .int .i64 x.n,S x.t, .slice rk x.s.len ck, .bool x.d] 32 (0,0)))∧Hid (n≤2147483647→n=1+x.t.length+q.am)) (fun _ i _=>x.s.len-(intOf i).toNat)
  case atStart=>exact ⟨0,1+x.t.length, .nil,x.s,by simp,rfl,by simp,Nat.le_refl _,by omega,rfl,HS,by simpa using HRd,Hal,HQ0,fun _=>by simp [Fo.am]⟩
  case round =>
   obtain ⟨j,n,q,fi,rfl,rfl,hj,hsz,hnb,HQq,HSi,HF,HBj,HQj,HQ⟩:=hrel
   obtain ⟨z0,z1,z2,z3,z4,_⟩:=cells5 HQj.out
   cases fi with
   | nil =>
    have hj' : j=x.s.len:=by simpa [Fo.len] using hj
    have hjl:¬ ((j:Int)<(x.s.len:Int)):=by omega
    have HE:Hid (n≤2147483647→n=x.am):=fun h=>by rw [HAm.out,HQq.out,Fo.app_nil];exact HQ.out h
    clear hj hj'
    go_wp2
    go_ret
    exact ⟨⟨n,rfl,hnb,HE.out⟩,HBj.out⟩
   | cons k' n' t' s' d' r' =>
    simp only [Fo.len] at hj
    simp only [Fo.size] at hsz
    have i1:(j:Int)<(x.s.len:Int):=by omega
    by_cases hn:n≤2147483647
    case neg =>
     have hn' : ¬ (n:Int)≤2147483647:=by omega
     go_wp2
     go_ret
     exact ⟨⟨n,rfl,hnb,fun h=>absurd h hn⟩,HBj.out⟩
    have hn' : (n:Int)≤2147483647:=by omega
    obtain ⟨⟨g0,g1,g2,g3,g4,g5⟩,⟨rk', ck', bk', ok', gk,gz,gs⟩,gr⟩:=HF.out
    have ec:∀o,wr.cell? ⟨b,o,none⟩=w.cell? ⟨b,o,none⟩:=fun o=>HBj.out.cell (p:=⟨b,o,none⟩) g0
    have h1:=(ec _).trans g1
    have h2:=(ec _).trans g2
    have h3:=(ec _).trans g3
    have h4:=(ec _).trans g4
    have hk:=(ec _).trans gk
    have HRk:Hid (RS wr rk' s'):=RS.below ⟨bk', ok', gz,gs⟩ HBj.out
    have Hr:Hid (Rd w b (o+j*5+5) r'):=gr
    have hra:=Hra.out (by omega)
    subst hra
    have HSs:Hid (t'.length≤281474976710656∧s'.sl∧r'.sl):=HSi.out
    have HCC:Hid (Calls Tryz.prog 44 #[.agg #[.int .u8 k', .int .i64 n', S t', .slice rk' s'.len ck', .bool d'], .int .i64 ((L:Int)+1)] wr fun e w' => (∃v:Nat,e = .returned (.int .i64 v)∧v≤281474976710657+(2001-(L+1))*2147483648∧(v≤2147483647→v=Dt.am ⟨k', n', t', s', d'⟩))∧Below wr.heap.size wr w'):=HC.out s'.size (by omega) ⟨k', n', t', s', d'⟩ rk' ck' (L+1) wr (Nat.le_refl _) (by omega) HRk.out g5 HSs.out.1 HSs.out.2.1
    clear ec g0 g1 g2 g3 g4 g5 gk gz gs gr
    go_wp2_with fail
    refine HCC.out.mono ?_
    rintro e w4 ⟨⟨v,rfl,hv1,hv2⟩,hb4⟩
    have HB4:Hid (Below w.heap.size w w4):=HBj.out.trans (hb4.mono HBj.out.size)
    have HQ4:Hid _:=(hb4.block _ (Array.getElem?_eq_some_iff.1 HQj.out).1).trans HQj.out
    have HE:Hid (n+v≤2147483647→n+v=1+x.t.length+(q.app (.cons k' n' t' s' d' .nil)).am):=fun h=>by
     have e1:=HQ.out hn
     have e2:=hv2 (by omega)
     rw [Fo.am_app]
     simp only [Fo.am,Dt.am] at e2 ⊢
     omega
    have hvi:(v:Int)≤281474976710657+2001*2147483648:=by omega
    have hnv:n+v≤281474976710657+(2001-L)*2147483648:=by omega
    clear hb4 HCC hv2 z0 z1 z2 z3 z4 h1 h2 h3 h4 hk
    go_wp2_with fail
    go_roundw
    case rel=>exact ⟨j+1,n+v,q.app (.cons k' n' t' s' d' .nil),r', by go_num,by go_num,by omega,by omega,hnv,by show _=_;rw [HQq.out,Fo.app_assoc];rfl,HSs.out.2.2,by have:=Hr.out;show Rd w b (o+(j+1)*5) r'; rw [show o+(j+1)*5=o+j*5+5 by omega];exact this,HB4,HQ4,HE⟩
    case measure=>simp [intOf];omega
theorem ofD_all:∀N,OfDC N:=fun N=>by
 induction N using Nat.strongRecOn with
 | _ N ih=>exact ofD_of ih
def txsAm:List (List UInt8)→Nat
 | []=>0
 | s::r=>1+s.length+txsAm r
theorem txsAm_app:∀l m,txsAm (l++m)=txsAm l+txsAm m
 | [],m=>by simp [txsAm]
 | s::l,m=>by simp only [List.cons_append,txsAm,txsAm_app l m];omega
theorem txsAm_len:∀l,l.length≤txsAm l
 | []=>Nat.le_refl _
 | s::l=>by have:=txsAm_len l;simp only [txsAm,List.length_cons];omega
theorem txsAm_mem:∀{l:List (List UInt8)} {s:List UInt8},s∈l→s.length≤txsAm l
 | [],_,h=>by cases h
 | a::l,s,h=>by
  rcases List.mem_cons.1 h with rfl|h
  ·simp only [txsAm];omega
  ·have:=txsAm_mem h;simp only [txsAm];omega
def Fm.am:Fm→Nat
 | .nil=>0
 | .cons _ t ns ks _ _ dt ds _ r=>1+t.length+(1+dt.length+ds.am)+txsAm ns+ks.am+r.am
def Frm.am (f:Frm):Nat:=1+f.text.length+f.dat.am+txsAm f.names+f.kids.am
theorem Fm.am_app:∀f g:Fm,(f.app g).am=f.am+g.am
 | .nil,g=>by simp [Fm.app,Fm.am]
 | .cons _ _ _ _ _ _ _ _ _ r,g=>by simp only [Fm.app,Fm.am,Fm.am_app r g];omega
def Fm.sls:Fm→Prop
 | .nil=>True
 | .cons _ t ns ks _ _ dt ds _ r=>t.length≤281474976710656∧ns.length≤maxLen∧(∀s∈ns,s.length≤281474976710656)∧ks.len≤maxLen∧(ds.len≤maxLen∧dt.length≤281474976710656∧ds.sl)∧ks.sls∧r.sls
structure Frm.SL (f:Frm):Prop where
 t:f.text.length≤281474976710656
 nl:f.names.length≤maxLen
 ns:∀s∈f.names,s.length≤281474976710656
 kl:f.kids.len≤maxLen
 dl:f.dat.s.len≤maxLen
 dt:f.dat.t.length≤281474976710656
 ds:f.dat.s.sl
 ks:f.kids.sls
theorem Fm.am_ok:∀{g:Fm} {n:Nat},g.am≤n→n≤1000000→g.oks∧g.wt≤4*g.am∧g.len≤g.am
 | .nil,_,_,_=>⟨trivial,Nat.le_refl _,Nat.le_refl _⟩
 | .cons k t ns ks dk dn dt ds dd r,n,h,hn=>by
  simp only [Fm.am] at h
  obtain ⟨k1,k2,k3⟩:=Fm.am_ok (g:=ks) (n:=n) (by omega) hn
  obtain ⟨r1,r2,r3⟩:=Fm.am_ok (g:=r) (n:=n) (by omega) hn
  have hl:=txsAm_len ns
  have hs:=Fo.am_size ds
  refine ⟨⟨⟨by show t.length≤281474976710656;omega,by show ns.length≤1000000;omega,fun s hs=>by have:s.length≤txsAm ns:=txsAm_mem hs;omega,by show ks.len≤1000000;omega,?_⟩,k1,r1⟩,?_,?_⟩
  ·exact ⟨by show ds.size≤1000000;omega,by show dt.length≤281474976710656;omega,Fo.am_tx (f:=ds) (n:=n) (by omega) (by omega)⟩
  ·simp only [Fm.wt,Fm.am];omega
  ·simp only [Fm.len,Fm.am];omega
theorem Frm.am_ok {f:Frm} {n:Nat} (h:f.am≤n) (hn:n≤200000):FOk f∧f.kids.oks∧(f.fm .nil).wt≤900000:=by
 have e:(f.fm .nil).am=f.am:=by
  show 1+f.text.length+(1+f.dat.t.length+f.dat.s.am)+txsAm f.names+f.kids.am+0=1+f.text.length+(1+f.dat.t.length+f.dat.s.am)+txsAm f.names+f.kids.am
  omega
 obtain ⟨h1,h2,_⟩:=Fm.am_ok (g:=f.fm .nil) (n:=n) (by omega) (by omega)
 exact ⟨h1.1,h1.2.1,by omega⟩
theorem ofTexts_any (l:List (List UInt8)) (ra:Option Addr) (ca:Nat) (w:World) (hm:l.length≤maxLen) (hl:∀s∈l,s.length≤281474976710656) (hR:RX S w ra l) :
  Calls Tryz.prog 113 #[.slice ra l.length ca] w fun e w' => (∃v:Nat,e = .returned (.int .i64 v)∧v≤2147483647+281474976710657∧(v≤2147483647→v=txsAm l))∧Below w.heap.size w w' := by
 obtain ⟨b,o,h1,h2⟩:=RX.at hR
 have H1:Hid _:=h1
 have H2:Hid _:=h2
 have HL:Hid (∀s∈l,s.length≤281474976710656):=hl
 unfold maxLen at hm
 clear h1 h2 hR hl
 go_enter Tryz.func113,Tryz.ntmps113
 go_upto_region 3 with fail
 go_loopw [3,4] (fun nv iv wr=>∃(j n:Nat),nv = .int .i64 n∧iv = .int .i64 j∧j≤l.length∧n≤2147483647+281474976710657∧Hid (n≤2147483647→n=txsAm (l.take j))∧wr=w) (fun _ iv _=>l.length-(intOf iv).toNat)
 case atStart=>exact ⟨0,0,rfl,rfl,Nat.zero_le _,by omega,fun _=>by simp [txsAm],rfl⟩
 case round =>
  obtain ⟨j,n,rfl,rfl,hj,hn,HQ,rfl⟩:=hrel
  by_cases hlt:j<l.length
  case neg =>
   have i1:¬ (j:Int)<(l.length:Int):=by omega
   have HE:Hid (n≤2147483647→n=txsAm l):=fun h=>by have:=HQ.out h;rwa [List.take_of_length_le (by omega)] at this
   clear hlt
   go_wp2
   go_ret
   exact ⟨⟨n,rfl,hn,HE.out⟩,Below.refl _ _⟩
  have i1:(j:Int)<(l.length:Int):=by omega
  by_cases hn2:n≤2147483647
  case neg =>
   have hn3:¬ (n:Int)≤2147483647:=by omega
   go_wp2
   go_ret
   exact ⟨⟨n,rfl,hn,fun h=>absurd h hn2⟩,Below.refl _ _⟩
  have hn3:(n:Int)≤2147483647:=by omega
  have hra:=H1.out (by omega)
  subst hra
  obtain ⟨s,hs⟩:∃s,l[j]?=some s:=⟨_,List.getElem?_eq_getElem hlt⟩
  obtain ⟨hb,hc⟩:=H2.out j s hs
  have hsl:s.length≤281474976710656:=HL.out s (List.mem_of_getElem? hs)
  have hsi:(s.length:Int)≤281474976710656:=by omega
  have HE:Hid (n+(1+s.length)≤2147483647→n+(1+s.length)=txsAm (l.take (j+1))):=fun h=>by
   have e1:=HQ.out hn2
   rw [List.take_add_one,hs,txsAm_app, ←e1]
   simp [txsAm]
  clear hs
  go_wp2_with fail
  go_roundw
  case rel=>exact ⟨j+1,n+(1+s.length),by go_num,by go_num,by omega,by omega,HE,trivial⟩
  case measure=>simp [intOf];omega
theorem wrapS {x:Int} (h0:0≤x) (h1:x≤9000000000000000000):IntKind.i64.wrap x=x:=by
 simp [IntKind.wrap,IntKind.bits,IntKind.signed]
 omega
def OfFC (N:Nat):Prop:=∀(f:Frm) (nr kr dr:Option Addr) (nc kc dc L:Nat) (w:World),f.kids.sz≤N→L≤2001→RFo w f nr kr dr→f.SL →
 Calls Tryz.prog 74 #[frmV f (.slice nr f.names.length nc) (.slice kr f.kids.len kc) (.slice dr f.dat.s.len dc), .int .i64 L] w fun e w' => (∃v:Nat,e = .returned (.int .i64 v)∧v≤900000000000000+(2001-L)*2147483648∧(v≤2147483647→v=f.am))∧Below w.heap.size w w'
theorem sls_cons {k:Int} {t:List UInt8} {ns:List (List UInt8)} {ks:Fm} {dk dn:Int} {dt:List UInt8} {ds:Fo} {dd:Bool} {r:Fm} (h:(Fm.cons k t ns ks dk dn dt ds dd r).sls):Frm.SL ⟨k,t,ns,ks,⟨dk,dn,dt,ds,dd⟩⟩:=⟨h.1,h.2.1,h.2.2.1,h.2.2.2.1,h.2.2.2.2.1.1,h.2.2.2.2.1.2.1,h.2.2.2.2.1.2.2,h.2.2.2.2.2.1⟩
theorem sls_tail {k:Int} {t:List UInt8} {ns:List (List UInt8)} {ks:Fm} {dk dn:Int} {dt:List UInt8} {ds:Fo} {dd:Bool} {r:Fm} (h:(Fm.cons k t ns ks dk dn dt ds dd r).sls):r.sls:=h.2.2.2.2.2.2
theorem keepN9c {W W' : World} {b:Nat} {v0 v1 v2 v3 v4 v5 v6 v7 v8:Value} (hb:Below W.heap.size W W') (h:W.cell? ⟨b,0,none⟩=some v0∧W.cell? ⟨b,1,none⟩=some v1∧W.cell? ⟨b,2,none⟩=some v2∧W.cell? ⟨b,3,none⟩=some v3∧W.cell? ⟨b,4,none⟩=some v4∧W.cell? ⟨b,5,none⟩=some v5∧W.cell? ⟨b,6,none⟩=some v6∧W.cell? ⟨b,7,none⟩=some v7∧W.cell? ⟨b,8,none⟩=some v8) :
  W'.cell? ⟨b,0,none⟩=some v0∧W'.cell? ⟨b,1,none⟩=some v1∧W'.cell? ⟨b,2,none⟩=some v2∧W'.cell? ⟨b,3,none⟩=some v3∧W'.cell? ⟨b,4,none⟩=some v4∧W'.cell? ⟨b,5,none⟩=some v5∧W'.cell? ⟨b,6,none⟩=some v6∧W'.cell? ⟨b,7,none⟩=some v7∧W'.cell? ⟨b,8,none⟩=some v8:=by
 obtain ⟨h0,h1,h2,h3,h4,h5,h6,h7,h8⟩:=h
 exact ⟨below_cells hb _ _ h0,below_cells hb _ _ h1,below_cells hb _ _ h2,below_cells hb _ _ h3,below_cells hb _ _ h4,below_cells hb _ _ h5,below_cells hb _ _ h6,below_cells hb _ _ h7,below_cells hb _ _ h8⟩
theorem ofF_of {N:Nat} (h:∀M,M<N→OfFC M):OfFC N:=by
 intro f nr kr dr nc kc dc L w hN hL hR hS
 obtain ⟨W1,hW1⟩:∃W1,w.alloc (Z9 f (.slice nr f.names.length nc) (.slice kr f.kids.len kc) (.slice dr f.dat.s.len dc))=W1:=⟨_,rfl⟩
 have a1:=(Below.refl _ w).alloc (Nat.le_refl w.heap.size) (Z9 f (.slice nr f.names.length nc) (.slice kr f.kids.len kc) (.slice dr f.dat.s.len dc))
 have q0:=World.alloc_heap_new w (Z9 f (.slice nr f.names.length nc) (.slice kr f.kids.len kc) (.slice dr f.dat.s.len dc))
 rw [hW1] at a1 q0
 have HC:Hid (∀M,M<N→OfFC M):=h
 have HB1:Hid (Below w.heap.size w W1):=a1
 have HQ1:Hid _:=q0
 have HR1:Hid (RFo W1 f nr kr dr):=hR.below a1
 have HSL:Hid f.SL:=hS
 have htl:(f.text.length:Int)≤281474976710656:=by have:=hS.t;omega
 have hkl:=hS.kl
 unfold maxLen at hkl
 have HAm:Hid (f.am=1+f.text.length+f.dat.am+txsAm f.names+f.kids.am):=rfl
 have HCD:Hid (∀W,Below W1.heap.size W1 W→Calls Tryz.prog 44 #[datV f.dat (.slice dr f.dat.s.len dc), .int .i64 0] W fun e w' => (∃v:Nat,e = .returned (.int .i64 v)∧v≤281474976710657+(2001-0)*2147483648∧(v≤2147483647→v=f.dat.am))∧Below W.heap.size W w'):=fun W hb=>ofD_all f.dat.s.size f.dat dr dc 0 W (Nat.le_refl _) (by omega) (HR1.out.d.below hb) HSL.out.dl HSL.out.dt HSL.out.ds
 have HCT:Hid (∀W,Below W1.heap.size W1 W→Calls Tryz.prog 113 #[.slice nr f.names.length nc] W fun e w' => (∃v:Nat,e = .returned (.int .i64 v)∧v≤2147483647+281474976710657∧(v≤2147483647→v=txsAm f.names))∧Below W.heap.size W w'):=fun W hb=>ofTexts_any f.names nr nc W HSL.out.nl HSL.out.ns (HR1.out.n.rx.below hb)
 obtain ⟨⟨z0,z1,z2,z3,z4,z5,z6,z7,z8⟩,_⟩:=cells9 q0
 obtain ⟨b,o,hab,hRd⟩:=HR1.out.k
 have HRd:Hid (RdF W1 f.kids b o):=hRd
 have Hra:Hid (f.kids.len≠0→kr=some ⟨b,o,none⟩):=fun h=>hab.resolve_left h
 have hmx:Tryz.prog.follows .mixedOrders=true:=by kernel_rfl
 clear h hR hS a1 q0 hRd hab
 go_enter Tryz.func74,Tryz.ntmps74
 go_upto_region 1 with fail
 clear hW1
 obtain ⟨bq,hbq⟩:∃b,w.heap.size=b:=⟨_,rfl⟩
 rw [hbq] at z0 z1 z2 z3 z4 z5 z6 z7 z8 ⊢
 have HBq:Hid (w.heap.size=bq):=hbq
 clear hbq
 first
 | go_region_held3 (fun wx=>wx.cell? ⟨bq,0,none⟩=some (.int .u8 f.kind)∧wx.cell? ⟨bq,1,none⟩=some (S f.text)∧wx.cell? ⟨bq,2,none⟩=some (.slice nr f.names.length nc)∧wx.cell? ⟨bq,3,none⟩=some (.slice kr f.kids.len kc)∧wx.cell? ⟨bq,4,none⟩=some (.int .u8 f.dat.k)∧wx.cell? ⟨bq,5,none⟩=some (.int .i64 f.dat.n)∧wx.cell? ⟨bq,6,none⟩=some (S f.dat.t)∧wx.cell? ⟨bq,7,none⟩=some (.slice dr f.dat.s.len dc)∧wx.cell? ⟨bq,8,none⟩=some (.bool f.dat.d))
   (first|(with_reducible refine keepN9c hx2 ?_;first|assumption|(go_keep;done))|(with_reducible refine keepN9c hx3 ?_;first|assumption|(go_keep;done))|(go_keep;done))
   (first
    | (have _t:=hx2;go_at_call 113;refine Calls.mono (HCT.out _ ((Below.refl _ _).drew.trans hx2)) ?_;rintro e w3 ⟨⟨v3,rfl,hv3,he3⟩,hx3⟩)
    | (go_at_call 44;refine Calls.mono (HCD.out _ (Below.refl _ _).drew) ?_;rintro e w2 ⟨⟨v2,rfl,hv2,he2⟩,hx2⟩))
 | fail
 have hwr:IntKind.i64.wrap (IntKind.i64.wrap (IntKind.i64.wrap (1+(f.text.length:Int))+(v2:Int))+(v3:Int))=((1+f.text.length+v2+v3:Nat):Int):=by
  have e1:IntKind.i64.wrap (1+(f.text.length:Int))=1+(f.text.length:Int):=wrapS (by omega) (by omega)
  have e2:IntKind.i64.wrap (1+(f.text.length:Int)+(v2:Int))=1+(f.text.length:Int)+(v2:Int):=wrapS (by omega) (by omega)
  have e3:IntKind.i64.wrap (1+(f.text.length:Int)+(v2:Int)+(v3:Int))=1+(f.text.length:Int)+(v2:Int)+(v3:Int):=wrapS (by omega) (by omega)
  rw [e1,e2,e3]
  omega
 have hb13:Below W1.heap.size W1 w3:=((Below.refl W1.heap.size W1).drew.trans hx2).trans (hx3.mono ((Below.refl W1.heap.size W1).drew.trans hx2).size)
 have HB3:Hid (Below w.heap.size w w3):=HB1.out.trans (hb13.mono HB1.out.size)
 have HW3:Hid (Below W1.heap.size W1 w3):=hb13
 have HQ3:Hid (w3.heap[bq]?=some (Z9 f (.slice nr f.names.length nc) (.slice kr f.kids.len kc) (.slice dr f.dat.s.len dc))):=by
  have:=cy0 HQ1.out hb13
  rw [HBq.out] at this
  exact this
 rw [hwr]
 obtain ⟨n0,hn0⟩:∃n0,1+f.text.length+v2+v3=n0:=⟨_,rfl⟩
 have HE0:Hid (n0≤2147483647→n0=1+f.text.length+f.dat.am+txsAm f.names+0):=fun h=>by
  have:=he2 (by omega)
  have:=he3 (by omega)
  omega
 have hn0b:n0≤900000000000000:=by have:=HSL.out.t;omega
 rw [hn0]
 clear hwr hb13 hx2 hx3 hv2 hv3 he2 he3 hn0 HCD HCT z0 z1 z2 z3 z4 z5 z6 z7 z8
 by_cases h5:2000<L
 ·have h5' : (2000:Int)<(L:Int):=by omega
  go_wp2_with fail
  go_ret
  exact ⟨⟨2147483648,rfl,by omega,fun h=>absurd h (by omega)⟩,HB3.out⟩
 have h5' : ¬ (2000:Int)<(L:Int):=by omega
 go_upto_region 5 with fail
 go_loopw [5,6] (fun nv iv wr=>∃(j n:Nat) (q fi:Fm),nv = .int .i64 n∧iv = .int .i64 j∧fi.len+j=f.kids.len∧fi.sz≤f.kids.sz∧n≤900000000000000+(2001-L)*2147483648∧Hid (f.kids=q.app fi)∧Hid fi.sls∧Hid (RdF W1 fi b (o+j*9))∧Hid (Below w3.heap.size w3 wr)∧Hid (n≤2147483647→n=1+f.text.length+f.dat.am+txsAm f.names+q.am)) (fun _ iv _=>f.kids.len-(intOf iv).toNat)
 case atStart=>exact ⟨0,n0, .nil,f.kids,rfl,rfl,by simp,Nat.le_refl _,by omega,rfl,HSL.out.ks,by simpa using HRd,Below.refl _ _,HE0⟩
 case round =>
  obtain ⟨j,n,q,fi,rfl,rfl,hj,hsz,hnb,HQq,HSi,HF,HBj,HQ⟩:=hrel
  obtain ⟨⟨z0,z1,z2,z3,z4,z5,z6,z7,z8⟩,_⟩:=cells9 (cy0 HQ3.out HBj.out)
  cases fi with
  | nil =>
   have hj' : j=f.kids.len:=by simpa [Fm.len] using hj
   have hjl:¬ ((j:Int)<(f.kids.len:Int)):=by omega
   have HE:Hid (n≤2147483647→n=f.am):=fun h=>by rw [HAm.out,HQq.out,Fm.app_nil];exact HQ.out h
   clear hj hj'
   go_wp2
   go_ret
   exact ⟨⟨n,rfl,hnb,HE.out⟩,HB3.out.trans (HBj.out.mono HB3.out.size)⟩
  | cons k t ns ks dk dn dt ds dd r =>
   simp only [Fm.len] at hj
   simp only [Fm.sz] at hsz
   have i1:(j:Int)<(f.kids.len:Int):=by omega
   by_cases hn:n≤2147483647
   case neg =>
    have hn' : ¬ (n:Int)≤2147483647:=by omega
    go_wp2
    go_ret
    exact ⟨⟨n,rfl,hnb,fun h=>absurd h hn⟩,HB3.out.trans (HBj.out.mono HB3.out.size)⟩
   have hn' : (n:Int)≤2147483647:=by omega
   obtain ⟨lt0,nr1,nc1,kr1,kc1,dr1,dc1,⟨g0,g1,g2,g3,g4,g5,g6,g7,g8⟩,hro,hr⟩:=rdf_cons HF.out
   have HWj:Hid (Below W1.heap.size W1 wr):=HW3.out.trans (HBj.out.mono HW3.out.size)
   have ec:∀o,wr.cell? ⟨b,o,none⟩=W1.cell? ⟨b,o,none⟩:=fun o=>HWj.out.cell (p:=⟨b,o,none⟩) lt0
   have h0:=(ec _).trans g0
   have h1:=(ec _).trans g1
   have h2:=(ec _).trans g2
   have h3:=(ec _).trans g3
   have h4:=(ec _).trans g4
   have h5:=(ec _).trans g5
   have h6:=(ec _).trans g6
   have h7:=(ec _).trans g7
   have h8:=(ec _).trans g8
   have lt1:b<wr.heap.size:=Nat.lt_of_lt_of_le lt0 HWj.out.size
   have hra:=Hra.out (by omega)
   subst hra
   have Hr:Hid (RdF W1 r b (o+j*9+9)):=hr
   have HSr:Hid r.sls:=sls_tail HSi.out
   have HCC:Hid (Calls Tryz.prog 74 #[.agg #[.int .u8 k,S t, .slice nr1 ns.length nc1, .slice kr1 ks.len kc1, .int .u8 dk, .int .i64 dn,S dt, .slice dr1 ds.len dc1, .bool dd], .int .i64 ((L:Int)+1)] wr fun e w' => (∃v:Nat,e = .returned (.int .i64 v)∧v≤900000000000000+(2001-(L+1))*2147483648∧(v≤2147483647→v=Frm.am ⟨k,t,ns,ks,⟨dk,dn,dt,ds,dd⟩⟩))∧Below wr.heap.size wr w'):=HC.out ks.sz (by omega) ⟨k,t,ns,ks,⟨dk,dn,dt,ds,dd⟩⟩ nr1 kr1 dr1 nc1 kc1 dc1 (L+1) wr (Nat.le_refl _) (by omega) (hro.below HWj.out) (sls_cons HSi.out)
   clear ec g0 g1 g2 g3 g4 g5 g6 g7 g8 hro hr lt0
   go_wp2_with fail
   refine HCC.out.mono ?_
   rintro e w4 ⟨⟨v,rfl,hv1,hv2⟩,hb4⟩
   have HB4:Hid (Below w3.heap.size w3 w4):=HBj.out.trans (hb4.mono HBj.out.size)
   have HE:Hid (n+v≤2147483647→n+v=1+f.text.length+f.dat.am+txsAm f.names+(q.app (.cons k t ns ks dk dn dt ds dd .nil)).am):=fun h=>by
    have e1:=HQ.out hn
    have e2:=hv2 (by omega)
    rw [Fm.am_app]
    simp only [Fm.am,Frm.am,Dt.am] at e1 e2 ⊢
    omega
   have hvi:(v:Int)≤900000000000000+2001*2147483648:=by omega
   have hnv:n+v≤900000000000000+(2001-L)*2147483648:=by omega
   clear hb4 HCC hv2 z0 z1 z2 z3 z4 z5 z6 z7 z8 h0 h1 h2 h3 h4 h5 h6 h7 h8
   go_wp2_with fail
   go_roundw
   case rel=>exact ⟨j+1,n+v,q.app (.cons k t ns ks dk dn dt ds dd .nil),r,by go_num,by go_num,by omega,by omega,hnv,by show _=_;rw [HQq.out,Fm.app_assoc];rfl,HSr,by have:=Hr.out;show RdF W1 r b (o+(j+1)*9);rw [show o+(j+1)*9=o+j*9+9 by omega];exact this,HB4,HE⟩
   case measure=>simp [intOf];omega
theorem ofF_all:∀N,OfFC N:=fun N=>by
 induction N using Nat.strongRecOn with
 | _ N ih=>exact ofF_of ih
theorem ofForm_any (f:Frm) (nr kr dr:Option Addr) (nc kc dc:Nat) (w:World) (hR:RFo w f nr kr dr) (hS:f.SL) :
  Calls Tryz.prog 23 #[frmV f (.slice nr f.names.length nc) (.slice kr f.kids.len kc) (.slice dr f.dat.s.len dc)] w fun e w' => (∃v:Nat,e = .returned (.int .i64 v)∧v≤1000000000000000∧(v≤2147483647→v=f.am))∧Below w.heap.size w w' := by
 obtain ⟨W1,hW1⟩:∃W1,w.alloc (Z9 f (.slice nr f.names.length nc) (.slice kr f.kids.len kc) (.slice dr f.dat.s.len dc))=W1:=⟨_,rfl⟩
 have a1:=(Below.refl _ w).alloc (Nat.le_refl w.heap.size) (Z9 f (.slice nr f.names.length nc) (.slice kr f.kids.len kc) (.slice dr f.dat.s.len dc))
 have q0:=World.alloc_heap_new w (Z9 f (.slice nr f.names.length nc) (.slice kr f.kids.len kc) (.slice dr f.dat.s.len dc))
 rw [hW1] at a1 q0
 have HC:Hid (Calls Tryz.prog 74 #[frmV f (.slice nr f.names.length nc) (.slice kr f.kids.len kc) (.slice dr f.dat.s.len dc), .int .i64 0] W1 fun e w' => (∃v:Nat,e = .returned (.int .i64 v)∧v≤900000000000000+(2001-0)*2147483648∧(v≤2147483647→v=f.am))∧Below W1.heap.size W1 w'):=ofF_all f.kids.sz f nr kr dr nc kc dc 0 W1 (Nat.le_refl _) (by omega) (hR.below a1) hS
 have HB1:Hid _:=a1
 obtain ⟨⟨z0,z1,z2,z3,z4,z5,z6,z7,z8⟩,_⟩:=cells9 q0
 clear hR hS a1 q0
 go_enter Tryz.func23,Tryz.ntmps23
 go_upto_region 1 with fail
 clear hW1
 go_wp2_with fail
 refine HC.out.mono ?_
 rintro e w2 ⟨⟨v,rfl,hv1,hv2⟩,hb2⟩
 have HB2:Hid (Below w.heap.size w w2):=HB1.out.trans (hb2.mono HB1.out.size)
 have HV:Hid (v≤2147483647→v=f.am):=hv2
 have hv3:v≤1000000000000000:=by omega
 clear hb2 hv2
 go_wp2
 go_ret
 exact ⟨⟨v,rfl,hv3,HV.out⟩,HB2.out⟩
end Go.Proofs.YtkgnigloboajcaaGreatDoor
