/- checkTerms.; How names are written.; What is written ahead of a form's forms. -/
import Derived.Test.YtkgnigloboajcaaGreatDoorK33
set_option maxRecDepth 100000
set_option maxHeartbeats 8000000
namespace Go.Proofs.YtkgnigloboajcaaGreatDoor
open Go.RowKit Go.Maps Go.ChangeMaps
def EachF (P:Frm→Prop):Fm→Prop
 | .nil=>True
 | .cons k t ns ks dk dn dt ds dd r=>P ⟨k,t,ns,ks,⟨dk,dn,dt,ds,dd⟩⟩∧EachF P r
theorem rdf_cons2 {w:World} {b o:Nat} {k:Int} {t:List UInt8} {ns:List (List UInt8)} {ks:Fm} {dk dn:Int} {dt:List UInt8} {ds:Fo} {dd:Bool} {r:Fm} (h:RdF w (.cons k t ns ks dk dn dt ds dd r) b o) :
  b<w.heap.size∧∃nr nc kr kc dr dc,(w.cell? ⟨b,o,none⟩=some (.int .u8 k)∧w.cell? ⟨b,o+1,none⟩=some (S t)∧w.cell? ⟨b,o+1+1,none⟩=some (.slice nr ns.length nc)∧w.cell? ⟨b,o+1+1+1,none⟩=some (.slice kr ks.len kc)∧w.cell? ⟨b,o+1+1+1+1,none⟩=some (.int .u8 dk)∧w.cell? ⟨b,o+1+1+1+1+1,none⟩=some (.int .i64 dn)∧w.cell? ⟨b,o+1+1+1+1+1+1,none⟩=some (S dt)∧w.cell? ⟨b,o+1+1+1+1+1+1+1,none⟩=some (.slice dr ds.len dc)∧w.cell? ⟨b,o+1+1+1+1+1+1+1+1,none⟩=some (.bool dd)) ∧
   RFo w ⟨k,t,ns,ks,⟨dk,dn,dt,ds,dd⟩⟩ nr kr dr∧RdF w r b (o+9)∧ks.len≤kc:=by
 obtain ⟨⟨h1,h2,h3,h4,h5,h6⟩,⟨nr,nc,kr,kc,dr,dc,⟨h7,h8,h9⟩,hn,⟨hkc,hk⟩,hd⟩,hr⟩:=h
 exact ⟨cell_lt h1,nr,nc,kr,kc,dr,dc,⟨h1,h2,h7,h8,h3,h4,h5,h9,h6⟩,⟨hn,hk,hd⟩,hr,hkc⟩
theorem rdf_cons {w:World} {b o:Nat} {k:Int} {t:List UInt8} {ns:List (List UInt8)} {ks:Fm} {dk dn:Int} {dt:List UInt8} {ds:Fo} {dd:Bool} {r:Fm} (h:RdF w (.cons k t ns ks dk dn dt ds dd r) b o) :
  b<w.heap.size∧∃nr nc kr kc dr dc,(w.cell? ⟨b,o,none⟩=some (.int .u8 k)∧w.cell? ⟨b,o+1,none⟩=some (S t)∧w.cell? ⟨b,o+1+1,none⟩=some (.slice nr ns.length nc)∧w.cell? ⟨b,o+1+1+1,none⟩=some (.slice kr ks.len kc)∧w.cell? ⟨b,o+1+1+1+1,none⟩=some (.int .u8 dk)∧w.cell? ⟨b,o+1+1+1+1+1,none⟩=some (.int .i64 dn)∧w.cell? ⟨b,o+1+1+1+1+1+1,none⟩=some (S dt)∧w.cell? ⟨b,o+1+1+1+1+1+1+1,none⟩=some (.slice dr ds.len dc)∧w.cell? ⟨b,o+1+1+1+1+1+1+1+1,none⟩=some (.bool dd)) ∧
   RFo w ⟨k,t,ns,ks,⟨dk,dn,dt,ds,dd⟩⟩ nr kr dr∧RdF w r b (o+9):=by
 obtain ⟨h1,nr,nc,kr,kc,dr,dc,h2,h3,h4,_⟩:=rdf_cons2 h
 exact ⟨h1,nr,nc,kr,kc,dr,dc,h2,h3,h4⟩
def TermsC (f:Frm):Prop:=∀(inn:Bool) (nr kr dr:Option Addr) (nc kc dc:Nat) (w:World),FOk f→f.kids.oks→RFo w f nr kr dr→Env w →
 Calls Tryz.prog 82 #[frmV f (.slice nr f.names.length nc) (.slice kr f.kids.len kc) (.slice dr f.dat.s.len dc), .bool inn] w fun e w' => e = .returned (.int .i64 (termsE inn (f.fm .nil)))∧Below w.heap.size w w'
theorem terms_rec (f:Frm) (hall:EachF TermsC f.kids):TermsC f:=by
 intro inn nr kr dr nc kc dc w hF hO hR hE
 obtain ⟨W1,hW1⟩:∃W1,w.alloc (Z9 f (.slice nr f.names.length nc) (.slice kr f.kids.len kc) (.slice dr f.dat.s.len dc))=W1:=⟨_,rfl⟩
 have a1:=(Below.refl _ w).alloc (Nat.le_refl w.heap.size) (Z9 f (.slice nr f.names.length nc) (.slice kr f.kids.len kc) (.slice dr f.dat.s.len dc))
 have q0:=World.alloc_heap_new w (Z9 f (.slice nr f.names.length nc) (.slice kr f.kids.len kc) (.slice dr f.dat.s.len dc))
 rw [hW1] at a1 q0
 have HB1:Hid (Below w.heap.size w W1):=a1
 have HR1:Hid (RFo W1 f nr kr dr):=hR.below a1
 have HE1:Hid (Env W1):=hE.below a1
 have HF:Hid (FOk f):=hF
 have HQ1:Hid _:=q0
 have hz:=cells9 q0
 obtain ⟨⟨z0,z1,z2,z3,z4,z5,z6,z7,z8⟩,_⟩:=hz
 clear a1 q0 hR hE
 have HN:Hid (termsE inn (f.fm .nil)=if termE f inn≠0 then termE f inn else if termsE true f.kids≠0 then termsE true f.kids else 0):=rfl
 have HT:Hid (Calls Tryz.prog 120 #[frmV f (.slice nr f.names.length nc) (.slice kr f.kids.len kc) (.slice dr f.dat.s.len dc), .bool inn] W1 fun e w' => e = .returned (.int .i64 (termE f inn))∧Below W1.heap.size W1 w'):=term_of f inn nr kr dr nc kc dc W1 HF.out HR1.out HE1.out hO
 have HO:Hid f.kids.oks:=hO
 have HA:Hid (EachF TermsC f.kids):=hall
 have hkl:=hF.kl
 clear hO hall hF
 go_enter Tryz.func82,Tryz.ntmps82
 go_upto_region 1 with fail
 clear hW1
 go_wp2_with fail
 refine HT.out.mono ?_
 rintro e w2 ⟨rfl,hb2⟩
 have HQ2:Hid _:=(hb2.block _ (Array.getElem?_eq_some_iff.1 HQ1.out).1).trans HQ1.out
 have HB2:Hid (Below w.heap.size w w2):=HB1.out.trans (hb2.mono HB1.out.size)
 have HR2:Hid (RFo w2 f nr kr dr):=HR1.out.below hb2
 have HE2:Hid (Env w2):=HE1.out.below hb2
 clear hb2 z0 z1 z2 z3 z4 z5 z6 z7 z8
 obtain ⟨⟨z0,z1,z2,z3,z4,z5,z6,z7,z8⟩,_⟩:=cells9 HQ2.out
 obtain ⟨y,hy⟩:∃y,termE f inn=y:=⟨_,rfl⟩
 rw [hy] at HN ⊢
 by_cases h0:y=0
 case neg =>
  have b0:(y != 0)=true:=by simpa using h0
  have H:Hid (termsE inn (f.fm .nil)=y):=by show _=_;rw [HN.out,if_pos h0]
  clear h0 hy HN
  go_wp2
  go_ret
  exact ⟨by rw [H.out];rfl,HB2.out⟩
 subst h0
 have H9:Hid (termsE inn (f.fm .nil)=termsE true f.kids):=by
  show _=_;rw [HN.out,if_neg (by simp)]
  by_cases hh:termsE true f.kids=0
  ·rw [hh];rfl
  ·rw [if_pos hh]
 obtain ⟨b,o,hab,hRd⟩:=HR2.out.k
 have Hra:Hid (f.kids.len≠0→kr=some ⟨b,o,none⟩):=fun h=>hab.resolve_left h
 have HRd:Hid (RdF w2 f.kids b o):=hRd
 clear hab hRd hy HN
 go_upto_region 5 with fail
 clear z0 z1 z2 z3 z4 z5 z6 z7 z8
 go_loopw [18] (fun i wr=>∃(j:Nat) (r:Fm),i = .int .i64 j∧r.len+j=f.kids.len∧Hid (RdF w2 r b (o+j*9))∧Hid (EachF TermsC r)∧Hid r.oks∧Hid (Below w2.heap.size w2 wr)∧Hid (termsE true f.kids=termsE true r)) (fun i _=>f.kids.len-(intOf i).toNat)
 case atStart=>exact ⟨0,f.kids,rfl,by simp,by simpa using HRd,HA,HO,Below.refl _ _,rfl⟩
 case round =>
  obtain ⟨j,r,rfl,hj,HRr,HAr,HOr,HB,HEq⟩:=hrel
  cases r with
  | nil =>
   have hj' : j=f.kids.len:=by simpa [Fm.len] using hj
   have i1:¬ ((j:Int)<(f.kids.len:Int)):=by omega
   have HB5:Hid (Below w.heap.size w wr):=HB2.out.trans (HB.out.mono HB2.out.size)
   clear hj hj'
   go_wp2
   go_ret
   exact ⟨by rw [H9.out,HEq.out];rfl,HB5.out⟩
  | cons k t ns ks dk dn dt ds dd r =>
   simp only [Fm.len] at hj
   have i1:(j:Int)<(f.kids.len:Int):=by omega
   have hra:=Hra.out (by omega)
   subst hra
   obtain ⟨hb0,nr2,nc2,kr2,kc2,dr2,dc2,⟨d0,d1,d2,d3,d4,d5,d6,d7,d8⟩,hrf,hr⟩:=rdf_cons HRr.out
   have HRF:Hid (RFo w2 ⟨k,t,ns,ks,⟨dk,dn,dt,ds,dd⟩⟩ nr2 kr2 dr2):=hrf
   have Hr:Hid (RdF w2 r b (o+j*9+9)):=hr
   have HC:Hid (TermsC ⟨k,t,ns,ks,⟨dk,dn,dt,ds,dd⟩⟩):=HAr.out.1
   have HAr2:Hid (EachF TermsC r):=HAr.out.2
   obtain ⟨hok1,hok2,hok3⟩:=HOr.out
   have HOk:Hid (FOk ⟨k,t,ns,ks,⟨dk,dn,dt,ds,dd⟩⟩):=hok1
   have HOk2:Hid ks.oks:=hok2
   have HOr2:Hid r.oks:=hok3
   have HEq2:Hid (termsE true f.kids=if termsE true (Frm.fm ⟨k,t,ns,ks,⟨dk,dn,dt,ds,dd⟩⟩ .nil)≠0 then termsE true (Frm.fm ⟨k,t,ns,ks,⟨dk,dn,dt,ds,dd⟩⟩ .nil) else termsE true r):=by
    show _=_
    rw [HEq.out]
    show (if termE ⟨k,t,ns,ks,⟨dk,dn,dt,ds,dd⟩⟩ true≠0 then termE ⟨k,t,ns,ks,⟨dk,dn,dt,ds,dd⟩⟩ true else if termsE true ks≠0 then termsE true ks else termsE true r)=if (if termE ⟨k,t,ns,ks,⟨dk,dn,dt,ds,dd⟩⟩ true≠0 then termE ⟨k,t,ns,ks,⟨dk,dn,dt,ds,dd⟩⟩ true else if termsE true ks≠0 then termsE true ks else 0)≠0 then (if termE ⟨k,t,ns,ks,⟨dk,dn,dt,ds,dd⟩⟩ true≠0 then termE ⟨k,t,ns,ks,⟨dk,dn,dt,ds,dd⟩⟩ true else if termsE true ks≠0 then termsE true ks else 0) else termsE true r
    by_cases h1:termE ⟨k,t,ns,ks,⟨dk,dn,dt,ds,dd⟩⟩ true=0
    ·rw [h1]
     by_cases h2:termsE true ks=0
     ·rw [h2];simp
     ·simp [h2]
    ·simp [h1]
   have bel:=HB.out
   have e0:=(bel.cell (p:=⟨b,_,none⟩) hb0).trans d0
   have e1:=(bel.cell (p:=⟨b,_,none⟩) hb0).trans d1
   have e2:=(bel.cell (p:=⟨b,_,none⟩) hb0).trans d2
   have e3:=(bel.cell (p:=⟨b,_,none⟩) hb0).trans d3
   have e4:=(bel.cell (p:=⟨b,_,none⟩) hb0).trans d4
   have e5:=(bel.cell (p:=⟨b,_,none⟩) hb0).trans d5
   have e6:=(bel.cell (p:=⟨b,_,none⟩) hb0).trans d6
   have e7:=(bel.cell (p:=⟨b,_,none⟩) hb0).trans d7
   have e8:=(bel.cell (p:=⟨b,_,none⟩) hb0).trans d8
   clear d0 d1 d2 d3 d4 d5 d6 d7 d8 hrf hr hok1 hok2 hok3 bel hb0
   obtain ⟨w3,hw3⟩:∃w3,wr.alloc (Z9 ⟨k,t,ns,ks,⟨dk,dn,dt,ds,dd⟩⟩ (.slice nr2 ns.length nc2) (.slice kr2 ks.len kc2) (.slice dr2 ds.len dc2))=w3:=⟨_,rfl⟩
   have a3:=(Below.refl _ wr).alloc (Nat.le_refl wr.heap.size) (Z9 ⟨k,t,ns,ks,⟨dk,dn,dt,ds,dd⟩⟩ (.slice nr2 ns.length nc2) (.slice kr2 ks.len kc2) (.slice dr2 ds.len dc2))
   have q3:=World.alloc_heap_new wr (Z9 ⟨k,t,ns,ks,⟨dk,dn,dt,ds,dd⟩⟩ (.slice nr2 ns.length nc2) (.slice kr2 ks.len kc2) (.slice dr2 ds.len dc2))
   rw [hw3] at a3 q3
   have HB3:Hid (Below w2.heap.size w2 w3):=HB.out.trans (a3.mono HB.out.size)
   obtain ⟨⟨u0,u1,u2,u3,u4,u5,u6,u7,u8⟩,_⟩:=cells9 q3
   have HCC:Hid (Calls Tryz.prog 82 #[frmV ⟨k,t,ns,ks,⟨dk,dn,dt,ds,dd⟩⟩ (.slice nr2 ns.length nc2) (.slice kr2 ks.len kc2) (.slice dr2 ds.len dc2), .bool true] w3 fun e w' => e = .returned (.int .i64 (termsE true (Frm.fm ⟨k,t,ns,ks,⟨dk,dn,dt,ds,dd⟩⟩ .nil)))∧Below w3.heap.size w3 w'):=HC.out true nr2 kr2 dr2 nc2 kc2 dc2 w3 HOk.out HOk2.out (HRF.out.below HB3.out) (HE2.out.below HB3.out)
   obtain ⟨y,hy⟩:∃y,termsE true (Frm.fm ⟨k,t,ns,ks,⟨dk,dn,dt,ds,dd⟩⟩ .nil)=y:=⟨_,rfl⟩
   rw [hy] at HCC HEq2
   clear a3 q3 hy
   go_wp2_with fail
   refine HCC.out.mono ?_
   rintro e w4 ⟨rfl,hb4⟩
   have HB4:Hid (Below w2.heap.size w2 w4):=HB3.out.trans (hb4.mono HB3.out.size)
   clear hb4 e0 e1 e2 e3 e4 e5 e6 e7 e8 u0 u1 u2 u3 u4 u5 u6 u7 u8
   by_cases h0:y=0
   case neg =>
    have b0:(y != 0)=true:=by simpa using h0
    have H:Hid (termsE true f.kids=y):=by show _=_;rw [HEq2.out,if_pos h0]
    have HB5:Hid (Below w.heap.size w w4):=HB2.out.trans (HB4.out.mono HB2.out.size)
    clear h0
    go_wp2_with fail
    go_ret
    exact ⟨by rw [H9.out,H.out];rfl,HB5.out⟩
   subst h0
   have H:Hid (termsE true f.kids=termsE true r):=by show _=_;rw [HEq2.out,if_neg (by simp)]
   go_wp2_with fail
   refine ⟨⟨j+1,r,by simp,by omega,by have:=Hr.out;show RdF w2 r b (o+(j+1)*9);rw [show o+(j+1)*9=o+j*9+9 by omega];exact this,HAr2,HOr2,HB4,H⟩,?_⟩
   simp only [intOf]
   omega
theorem terms_all:∀g:Fm,EachF TermsC g
 | .nil=>trivial
 | .cons _ _ _ ks _ _ _ _ _ r=>⟨terms_rec _ (terms_all ks),terms_all r⟩
theorem terms_any (f:Frm):TermsC f:=terms_rec f (terms_all f.kids)
def symsF:List (List UInt8)→Fo
 | [] => .nil
 | s::r => .cons 2 0 s .nil false (symsF r)
theorem symsF_len:∀l,(symsF l).len=l.length
 | []=>rfl
 | _::r=>by simp only [symsF,Fo.len,List.length_cons,symsF_len r]
theorem symsF_app (s:List UInt8):∀l,symsF (l++[s])=(symsF l).app (.cons 2 0 s .nil false .nil)
 | []=>rfl
 | a::r=>by simp only [symsF,List.cons_append,Fo.app,symsF_app s r]
def listD (f:Fo):Dt:=⟨5,0,[],f,false⟩
def itselfB (k:Int):Bool:=k == 1 || (k == 3 || k == 4)
theorem flist_any (ra:Option Addr) (n c:Nat) (w:World):Calls Tryz.prog 125 #[.slice ra n c] w fun e w' => e = .returned (.agg #[.int .u8 5, .int .i64 0,S [], .slice ra n c, .bool false])∧Below w.heap.size w w' := by
 go_enter Tryz.func125,Tryz.ntmps125
 go_wp2
 refine bodyPost_ret (v := .agg #[.int .u8 5, .int .i64 0,S [], .slice ra n c, .bool false]) (by simp [results,Tryz.results125,go_sem]) rfl ⟨rfl,?_⟩
 exact (Below.refl _ _).alloc (Nat.le_refl _) _
theorem wnames_any (l:List (List UInt8)) (ra:Option Addr) (c:Nat) (w:World) (hR:RN w ra l) (hl:l.length≤1000000) :
  Calls Tryz.prog 156 #[.slice ra l.length c] w fun e w' => ∃v,e = .returned (datV (listD (symsF l)) v)∧Tree w' w.heap.size v (symsF l)∧Below w.heap.size w w' := by
 obtain ⟨i0,hi0,hz0,hz1,hz2⟩:=info_parts infoDat
 obtain ⟨b,o,hz,hRd⟩:=hR
 have Hra:Hid (l≠[]→ra=some ⟨b,o,none⟩):=fun h=>hz.resolve_left h
 have HRd:Hid (∀(j:Nat) (s:List UInt8),l[j]?=some s→w.cell? ⟨b,o+j,none⟩=some (S s)):=hRd
 have HQ1:Hid ((w.alloc Z5).heap[w.heap.size]?=some (.cells #[.int .u8 0, .int .i64 0, .string ⟨#[]⟩, .slice none 0 0, .bool false] 32 (0,0))):=World.alloc_heap_new w Z5
 have HB2:Hid (Below w.heap.size w (w.alloc Z5)):=(Below.refl _ w).alloc (Nat.le_refl _) _
 have HZ:Hid ((w.alloc Z5).heap.size=w.heap.size+1):=by show _=_;simp
 clear hz hRd
 go_enter Tryz.func156,Tryz.ntmps156
 go_upto_region 1 with fail
 generalize w.alloc Z5=W2 at *
 go_upto_region 3 with fail
 go_loopw [3,8] (fun nv i wr=>∃(j:Nat) (q r:List (List UInt8)),i = .int .i64 j∧r.length+j=l.length∧Hid (l=q++r)∧Hid (q.length=j)∧Hid (Tree wr (w.heap.size+1) nv (symsF q))∧Hid (Below (w.heap.size+1) W2 wr)) (fun _ i _=>l.length-(intOf i).toNat)
 case atStart=>exact ⟨0,[],l,rfl,by simp,rfl,rfl,Tree.nil _ _,Below.refl _ _⟩
 case round =>
  obtain ⟨j,q,r,rfl,hj,HQ,HL,HT,HB⟩:=hrel
  obtain ⟨rv,cv,hv⟩:=HT.out.slice
  have HQL:Hid ((symsF q).len=j):=by show _=_;rw [symsF_len,HL.out]
  rw [HQL.out] at hv
  subst hv
  have hzz:=HZ.out
  have hbs:=HB.out.size
  have r1:=(HB.out.block w.heap.size (by omega)).trans HQ1.out
  cases r with
  | nil =>
   have hj' : j=l.length:=by simpa using hj
   have k1:¬ ((j:Int)<(l.length:Int)):=by omega
   have Hq:Hid (q=l):=by show _=_;rw [HQ.out,List.append_nil]
   have H1:Hid _:=r1
   clear hj hj' r1
   go_wp2_with fail
   refine (flist_any rv j cv wr).mono ?_
   rintro e w3 ⟨rfl,hb3⟩
   have H3:Hid _:=(hb3.block w.heap.size (by omega)).trans H1.out
   have HB3:Hid (Below (w.heap.size+1) W2 w3):=HB.out.trans (hb3.mono (by omega))
   have HT3:Hid (Tree w3 (w.heap.size+1) (.slice rv j cv) (symsF q)):=HT.out.kept (fun g _ hg=>hb3.block g hg)
   obtain ⟨z0,z1,z2,z3,z4,zf⟩:=cells5 H3.out
   have g0:=zf 0
   have g1:=zf 1
   have g2:=zf 2
   have g3:=zf 3
   have g4:=zf 4
   clear zf hb3
   go_wp2_with fail
   refine bodyPost_five (s:=2) rfl rfl rfl H3.out fun W5 o5 b5=>?_
   have hb5:=b5 (w.heap.size) (w.heap.size) (by omega)
   rw [←Hq.out]
   refine ⟨_,rfl,(HT3.out.kept (fun g h1 _=>o5 g (by omega))).mono (by omega),?_⟩
   exact HB2.out.trans ⟨hb5.os.trans HB3.out.os,hb5.tape.trans HB3.out.tape,hb5.output.trans HB3.out.output,by have:=hb5.size;have:=HB3.out.size;omega,fun g hg=>(o5 g (by omega)).trans (HB3.out.block g (by omega))⟩
  | cons s r =>
   simp only [List.length_cons] at hj
   have k1:(j:Int)<(l.length:Int):=by omega
   have hat:l[j]?=some s:=by rw [HQ.out,List.getElem?_append_right (Nat.le_of_eq HL.out),HL.out,Nat.sub_self];rfl
   have hra:=Hra.out (fun e=>by rw [e] at hat;cases hat)
   subst hra
   have hc:=HRd.out j s hat
   have hlt:=cell_lt hc
   have bel:Below w.heap.size w wr:=HB2.out.trans (HB.out.mono (by omega))
   have e0:=(bel.cell (p:=⟨b,o+j,none⟩) hlt).trans hc
   clear hat hc hlt bel r1
   go_wp2_with fail
   refine (fsymbol_any s wr).mono ?_
   rintro e w4 ⟨rfl,hb4⟩
   have HB4:Hid (Below (w.heap.size+1) W2 w4):=HB.out.trans (hb4.mono (by omega))
   have HT4:Hid (Tree w4 (w.heap.size+1) (.slice rv j cv) (symsF q)):=HT.out.kept (fun g _ hg=>hb4.block g hg)
   obtain ⟨cs,bs,ho4,hrr4,hnd⟩:=HT4.out.ex
   rw [HQL.out] at ho4
   have Ho:Hid (w4.ownsRow (w.heap.size+1) 32 5 (.slice rv j cv) j cs):=ho4
   have Hrr:Hid (Row w4 (w.heap.size+1) (symsF q) cs bs):=hrr4
   have Hnd:Hid (own1 (.slice rv j cv)++bs).Nodup:=hnd
   have hs4:=HB4.out.size
   clear ho4 hrr4 hnd e0 hb4
   simp only [symD]
   go_wp2_with (at_builtin;refine stop_of ?_)
   unfold Hid
   refine wpList_append_lies _ rfl _ _ 30 rfl (w.heap.size+1) 32 i0 (.agg #[.int .u8 0, .int .i64 0, .string ⟨#[]⟩, .slice none 0 0, .bool false]) 5 64 Tryz.underlying30 hi0 hz0 hz1 hz2 rfl (by decide) (.slice rv j cv) j cs rfl (World.ownsRow.alloc Ho.out _) ⟨_,0,none⟩ 1 1 [.int .u8 2, .int .i64 0,S s, .slice none 0 0, .bool false] rfl rfl (cell_five_at _ _ (by simp) _ _ _ _ _ _) (five_one _ _ _ _ _ _ _) (by omega) (by unfold maxLen;omega) (by omega) (by simp;omega) _ rfl ?_
   intro g cap6 w6 hown hgr hat hlt6
   have nho:w4.ownsRow (w.heap.size+1) 32 5 (.slice none 0 0) (Fo.len .nil) []:=World.ownsRow_nil _ _ _ _
   have nhr:Row w4 (w.heap.size+1) .nil [] []:=⟨rfl,rfl⟩
   have HTX:=tree_append (World.ownsRow.alloc Ho.out _) (Hrr.out.alloc _) Hnd.out ((Row.single (k:=2) (n:=0) (t:=s) (d:=false) nho nhr).alloc _) (by rw [own1_nil];exact List.nodup_nil) (fun y hy _=>by rw [own1_nil] at hy;cases hy) HQL.out rfl hown hgr (hat.imp (fun h=>h.symm) (fun h=>by rw [h];rfl))
   have HT6:Hid (Tree w6 (w.heap.size+1) (.slice (some ⟨g,0,none⟩) (j+1) cap6) (symsF (q++[s]))):=by
    rw [symsF_app];exact ⟨_,_,HTX⟩
   have hoa:=World.ownsRow.alloc Ho.out (.cells #[.int .u8 2, .int .i64 0,S s, .slice none 0 0, .bool false] 32)
   have HB6:Hid (Below (w.heap.size+1) W2 w6):=by
    have a6:=HB4.out.alloc (by have:=HB4.out.size;omega) (.cells #[.int .u8 2, .int .i64 0,S s, .slice none 0 0, .bool false] 32)
    exact a6.trans ((Below.refl _ _).grown hgr (by rw [World.size_alloc];omega) (fun k' hk=>(hoa.lt k' hk).1))
   clear hown hgr hat hlt6 HTX nho nhr hoa
   go_wp2_with fail
   go_roundw
   case rel=>exact ⟨j+1,q++[s],r,by go_num,by omega,by show _=_;rw [HQ.out];simp,by show _=_;rw [List.length_append,HL.out];rfl,HT6.out,HB6.out⟩
   case measure=>simp [intOf];omega
theorem tree_lit {w:World} {base c:Nat} {k n:Int} {t:List UInt8} {s:Fo} {d:Bool} {kv:Value} (hk:Tree w c kv s) (hc:base≤c) (hb:base≤w.heap.size) :
  Tree (w.alloc (.cells #[.int .u8 k, .int .i64 n,S t,kv, .bool d] 32)) base (.slice (some ⟨w.heap.size,0,none⟩) 1 1) (.cons k n t s d .nil):=by
 obtain ⟨cs,bs,ho,hr,hnd⟩:=(hk.mono hc).ex
 refine ⟨[.int .u8 k, .int .i64 n,S t,kv, .bool d],own1 kv++bs,⟨by simp [Fo.len], .inr ⟨w.heap.size,1,_,rfl,hb,World.alloc_heap_new _ _,by simp [Fo.len],by unfold maxLen;omega,rfl,rfl⟩⟩,(Row.single ho hr).alloc _,?_⟩
 have hlt:∀x∈own1 kv++bs,x<w.heap.size:=fun x hx=>by
  rcases List.mem_append.1 hx with h|h
  ·exact (ho.lt x (mem_own1.1 h)).2
  ·exact (hr.lt x h).2
 rw [List.nodup_append]
 refine ⟨own1_nodup _,hnd,fun x hx y hy e=>?_⟩
 subst e
 rw [mem_own1] at hx
 have:=hlt x hy
 have e2:w.heap.size=x:=Option.some.inj hx
 omega
def aheadF (f:Frm) (bnd:Fo):Fo :=
 if f.kind=1 then f.dat.fo .nil else if f.kind=5∨f.kind=6 then (symD f.text).fo .nil else if f.kind=4 then (listD (symsF f.names)).fo .nil else if f.kind=8 then (listD bnd).fo .nil else .nil
theorem itself_any (x:Dt) (v:Value) (w:World) (hv:∃rk ck,v = .slice rk x.s.len ck):Calls Tryz.prog 122 #[datV x v] w fun e w' => e = .returned (.bool (itselfB x.k))∧Below w.heap.size w w' := by
 obtain ⟨rk,ck,rfl⟩:=hv
 have HT:Hid (itselfB x.k=(x.k == 1 || (x.k == 3 || x.k == 4))):=rfl
 have HB1:Hid (Below w.heap.size w (w.alloc (boxD x (.slice rk x.s.len ck)))):=(Below.refl _ w).alloc (Nat.le_refl _) _
 cases h1:x.k == 1 with
 | true =>
  have H:Hid _:=h1
  go_enter Tryz.func122,Tryz.ntmps122
  go_wp2
  go_ret
  exact ⟨by rw [HT.out,H.out];rfl,HB1.out⟩
 | false =>
  cases h3:x.k == 3 with
  | true =>
   have H:Hid _:=h1
   have H3:Hid _:=h3
   go_enter Tryz.func122,Tryz.ntmps122
   go_wp2
   go_ret
   exact ⟨by rw [HT.out,H.out,H3.out];rfl,HB1.out⟩
  | false =>
   have H:Hid _:=h1
   have H3:Hid _:=h3
   go_enter Tryz.func122,Tryz.ntmps122
   go_wp2
   go_ret
   exact ⟨by rw [HT.out,H.out,H3.out];simp,HB1.out⟩
theorem ahead_of (f:Frm) (bnd:Fo) (nr kr dr:Option Addr) (nc kc dc:Nat) (w:World) (hF:FOk f) (hR:RFo w f nr kr dr)
  (hBd:f.kind=8→∀w', Below w.heap.size w w' → Calls Tryz.prog 157 #[frmV f (.slice nr f.names.length nc) (.slice kr f.kids.len kc) (.slice dr f.dat.s.len dc)] w' fun e w2=>∃v,e = .returned (datV (listD bnd) v)∧Tree w2 w'.heap.size v bnd∧Below w'.heap.size w' w2) :
  Calls Tryz.prog 123 #[frmV f (.slice nr f.names.length nc) (.slice kr f.kids.len kc) (.slice dr f.dat.s.len dc)] w fun e w' => ∃v,e = .returned v∧Tree w' w.heap.size v (aheadF f bnd)∧Below w.heap.size w w' := by
 obtain ⟨W1,hW1⟩:∃W1,w.alloc (Z9 f (.slice nr f.names.length nc) (.slice kr f.kids.len kc) (.slice dr f.dat.s.len dc))=W1:=⟨_,rfl⟩
 have a1:=(Below.refl _ w).alloc (Nat.le_refl w.heap.size) (Z9 f (.slice nr f.names.length nc) (.slice kr f.kids.len kc) (.slice dr f.dat.s.len dc))
 have q0:=World.alloc_heap_new w (Z9 f (.slice nr f.names.length nc) (.slice kr f.kids.len kc) (.slice dr f.dat.s.len dc))
 rw [hW1] at a1 q0
 have HB1:Hid (Below w.heap.size w W1):=a1
 have HR1:Hid (RFo W1 f nr kr dr):=hR.below a1
 have HF:Hid (FOk f):=hF
 obtain ⟨⟨z0,z1,z2,z3,z4,z5,z6,z7,z8⟩,_⟩:=cells9 q0
 clear a1 q0 hR
 have HN:Hid (aheadF f bnd=if f.kind=1 then f.dat.fo .nil else if f.kind=5∨f.kind=6 then (symD f.text).fo .nil else if f.kind=4 then (listD (symsF f.names)).fo .nil else if f.kind=8 then (listD bnd).fo .nil else .nil):=rfl
 have HD:Hid (f.kind=8→∀w', Below w.heap.size w w' → Calls Tryz.prog 157 #[frmV f (.slice nr f.names.length nc) (.slice kr f.kids.len kc) (.slice dr f.dat.s.len dc)] w' fun e w2=>∃v,e = .returned (datV (listD bnd) v)∧Tree w2 w'.heap.size v bnd∧Below w'.heap.size w' w2):=hBd
 clear hBd
 by_cases h1:f.kind=1
 ·have H:Hid (aheadF f bnd=f.dat.fo .nil):=by show _=_;rw [HN.out,if_pos h1]
  have b1:(f.kind == 1)=true:=by simp [h1]
  clear h1 HN
  go_enter Tryz.func123,Tryz.ntmps123
  go_upto_region 1 with fail
  clear hW1
  go_wp2_with fail
  refine (copy_any f.dat dr dc W1 HF.out.d.size HR1.out.d).mono ?_
  rintro e w2 ⟨v,rfl,hT,hb⟩
  obtain ⟨ra,cv,rfl⟩:=hT.slice
  have HT:Hid (Tree w2 W1.heap.size (.slice ra f.dat.s.len cv) f.dat.s):=hT
  have HB2:Hid (Below w.heap.size w w2):=HB1.out.trans (hb.mono HB1.out.size)
  clear hT hb
  go_wp2
  go_ret
  refine ⟨_,rfl,?_,HB2.out.alloc HB2.out.size _⟩
  rw [H.out]
  exact tree_lit HT.out HB1.out.size HB2.out.size
 have b1:(f.kind == 1)=false:=by simp [h1]
 by_cases h5:f.kind=5∨f.kind=6
 ·have H:Hid (aheadF f bnd=(symD f.text).fo .nil):=by show _=_;rw [HN.out,if_neg h1,if_pos h5]
  obtain ⟨z,hz,b5⟩:∃z,(f.kind == 5)=z∧(z=false→(f.kind == 6)=true):=⟨_,rfl,fun h=>by
   rcases h5 with h|h
   ·simp [h] at *
   ·simp [h]⟩
  clear h1 h5 HN
  cases z with
  | true =>
   go_enter Tryz.func123,Tryz.ntmps123
   go_upto_region 1 with fail
   clear hW1
   go_wp2_with fail
   refine (fsymbol_any f.text W1).mono ?_
   rintro e w2 ⟨rfl,hb⟩
   have HB2:Hid (Below w.heap.size w w2):=HB1.out.trans (hb.mono HB1.out.size)
   clear hb
   go_wp2
   go_ret
   refine ⟨_,rfl,?_,HB2.out.alloc HB2.out.size _⟩
   rw [H.out]
   exact tree_lit (Tree.nil _ w.heap.size) (Nat.le_refl _) HB2.out.size
  | false =>
   have b6:=b5 rfl
   clear b5
   go_enter Tryz.func123,Tryz.ntmps123
   go_upto_region 1 with fail
   clear hW1
   go_wp2_with fail
   refine (fsymbol_any f.text W1).mono ?_
   rintro e w2 ⟨rfl,hb⟩
   have HB2:Hid (Below w.heap.size w w2):=HB1.out.trans (hb.mono HB1.out.size)
   clear hb
   go_wp2
   go_ret
   refine ⟨_,rfl,?_,HB2.out.alloc HB2.out.size _⟩
   rw [H.out]
   exact tree_lit (Tree.nil _ w.heap.size) (Nat.le_refl _) HB2.out.size
 have b5:(f.kind == 5)=false:=by simpa using fun h=>h5 (.inl h)
 have b6:(f.kind == 6)=false:=by simpa using fun h=>h5 (.inr h)
 by_cases h4:f.kind=4
 ·have H:Hid (aheadF f bnd=(listD (symsF f.names)).fo .nil):=by show _=_;rw [HN.out,if_neg h1,if_neg h5,if_pos h4]
  have b4:(f.kind == 4)=true:=by simp [h4]
  clear h1 h5 h4 HN
  go_enter Tryz.func123,Tryz.ntmps123
  go_upto_region 1 with fail
  clear hW1
  go_wp2_with fail
  refine (wnames_any f.names nr nc W1 HR1.out.n HF.out.nl).mono ?_
  rintro e w2 ⟨v,rfl,hT,hb⟩
  obtain ⟨ra,cv,rfl⟩:=hT.slice
  have HT:Hid (Tree w2 W1.heap.size (.slice ra (symsF f.names).len cv) (symsF f.names)):=hT
  have HB2:Hid (Below w.heap.size w w2):=HB1.out.trans (hb.mono HB1.out.size)
  clear hT hb
  simp only [listD]
  go_wp2
  go_ret
  refine ⟨_,rfl,?_,HB2.out.alloc HB2.out.size _⟩
  rw [H.out]
  exact tree_lit HT.out HB1.out.size HB2.out.size
 have b4:(f.kind == 4)=false:=by simp [h4]
 by_cases h8:f.kind=8
 ·have H:Hid (aheadF f bnd=(listD bnd).fo .nil):=by show _=_;rw [HN.out,if_neg h1,if_neg h5,if_neg h4,if_pos h8]
  have HC:=HD.out h8 W1 HB1.out
  have HC2:Hid (Calls Tryz.prog 157 #[frmV f (.slice nr f.names.length nc) (.slice kr f.kids.len kc) (.slice dr f.dat.s.len dc)] W1 fun e w2=>∃v,e = .returned (datV (listD bnd) v)∧Tree w2 W1.heap.size v bnd∧Below W1.heap.size W1 w2):=HC
  have b8:(f.kind == 8)=true:=by simp [h8]
  clear h1 h5 h4 h8 HN HC
  go_enter Tryz.func123,Tryz.ntmps123
  go_upto_region 1 with fail
  clear hW1
  go_wp2_with fail
  refine (HC2.out).mono ?_
  rintro e w2 ⟨v,rfl,hT,hb⟩
  obtain ⟨ra,cv,rfl⟩:=hT.slice
  have HT:Hid (Tree w2 W1.heap.size (.slice ra bnd.len cv) bnd):=hT
  have HB2:Hid (Below w.heap.size w w2):=HB1.out.trans (hb.mono HB1.out.size)
  clear hT hb
  simp only [listD]
  go_wp2
  go_ret
  refine ⟨_,rfl,?_,HB2.out.alloc HB2.out.size _⟩
  rw [H.out]
  exact tree_lit HT.out HB1.out.size HB2.out.size
 have b8:(f.kind == 8)=false:=by simp [h8]
 have H:Hid (aheadF f bnd = .nil):=by show _=_;rw [HN.out,if_neg h1,if_neg h5,if_neg h4,if_neg h8]
 clear h1 h5 h4 h8 HN
 go_enter Tryz.func123,Tryz.ntmps123
 go_upto_region 1 with fail
 clear hW1
 go_wp2
 go_ret
 refine ⟨_,rfl,?_,HB1.out⟩
 rw [H.out]
 exact Tree.nil _ _
end Go.Proofs.YtkgnigloboajcaaGreatDoor
