/- copyOf.; What is done with a keyword's list: quote, forms alone, a name, a lambda.; What is done with a quote's list. -/
import Derived.Test.YtkgnigloboajcaaGreatDoorK21
set_option maxRecDepth 100000
set_option maxHeartbeats 8000000
namespace Go.Proofs.YtkgnigloboajcaaGreatDoor
open Go.RowKit Go.Maps Go.ChangeMaps
def CopyC (N:Nat):Prop:=∀(x:Dt) (rk:Option Addr) (ck:Nat) (w:World),x.s.size≤N→x.s.size≤1000000→RS w rk x.s →
 Calls Tryz.prog 110 #[datV x (.slice rk x.s.len ck)] w fun e w' => ∃v,e = .returned (datV x v)∧Tree w' w.heap.size v x.s∧Below w.heap.size w w'
theorem copy_of {N:Nat} (h:∀M,M<N→CopyC M):CopyC N:=by
 intro x rk ck w hN hbig hR
 obtain ⟨i0,hi0,hz0,hz1,hz2⟩:=info_parts infoDat
 have HS:Hid (∀M,M<N→CopyC M):=h
 have hlen:=Nat.le_trans (Fo.len_size x.s) hbig
 obtain ⟨b,o,hab,hRd⟩:=hR
 have Hra:Hid (x.s.len≠0→rk=some ⟨b,o,none⟩):=fun h=>hab.resolve_left h
 have HRd:Hid (Rd w b o x.s):=hRd
 have q0:((w.alloc (boxD x (.slice rk x.s.len ck))).alloc Z5).heap[w.heap.size]?=some (.cells #[.int .u8 x.k, .int .i64 x.n,S x.t, .slice rk x.s.len ck, .bool x.d] 32 (0,0)):=(Below.heap_alloc _ _ _ (by simp)).trans (World.alloc_heap_new w _)
 have q1:((w.alloc (boxD x (.slice rk x.s.len ck))).alloc Z5).heap[w.heap.size+1]?=some (.cells #[.int .u8 0, .int .i64 0, .string ⟨#[]⟩, .slice none 0 0, .bool false] 32 (0,0)):=by
  have:=World.alloc_heap_new (w.alloc (boxD x (.slice rk x.s.len ck))) Z5
  rwa [World.size_alloc] at this
 have hb2:Below w.heap.size w ((w.alloc (boxD x (.slice rk x.s.len ck))).alloc Z5):=((Below.refl _ w).alloc (Nat.le_refl _) _).alloc (by simp) _
 have HB2:Hid (Below w.heap.size w ((w.alloc (boxD x (.slice rk x.s.len ck))).alloc Z5)):=hb2
 have HZ:Hid (((w.alloc (boxD x (.slice rk x.s.len ck))).alloc Z5).heap.size=w.heap.size+2):=by show _=_;simp
 have HQ0:Hid _:=q0
 have HQ1:Hid _:=q1
 clear h hab hRd q0 q1 hb2
 go_enter Tryz.func110,Tryz.ntmps110
 go_upto_region 1 with fail
 generalize (w.alloc (boxD x (.slice rk x.s.len ck))).alloc Z5=W2 at *
 obtain ⟨c0,c1,c2,c3,c4,_⟩:=cells5 HQ0.out
 go_wp2
 clear c0 c1 c2 c3 c4
 go_loopw [3,9] (fun nv i wr=>∃(j:Nat) (q fi:Fo),i = .int .i64 j∧fi.len+j=x.s.len∧fi.size≤x.s.size∧Hid (q.len=j)∧Hid (q.app fi=x.s)∧Hid (Rd w b (o+j*5) fi)∧Hid (Tree wr (w.heap.size+2) nv q)∧Hid (Below (w.heap.size+2) W2 wr)) (fun _ i _=>x.s.len-(intOf i).toNat)
 case atStart=>exact ⟨0, .nil,x.s,rfl,by simp,Nat.le_refl _,rfl,rfl,by simpa using HRd,Tree.nil _ _,Below.refl _ _⟩
 case round =>
  obtain ⟨j,q,fi,rfl,hj,hsz,HL,HQ,HF,HT,HB⟩:=hrel
  obtain ⟨ra,cv,rfl⟩:=HT.out.slice
  have hz:=HZ.out
  have hbs:=HB.out.size
  have r0:=(HB.out.block w.heap.size (by omega)).trans HQ0.out
  have r1:=(HB.out.block (w.heap.size+1) (by omega)).trans HQ1.out
  obtain ⟨c0,c1,c2,c3,c4,cf⟩:=cells5 r0
  cases fi with
  | nil =>
   have hj' : j=x.s.len:=by simpa [Fo.len] using hj
   have k1:¬ ((j:Int)<(x.s.len:Int)):=by omega
   have hq:q=x.s:=by have:=HQ.out;rwa [Fo.app_nil] at this
   subst hj'
   have f3:=cf 3
   have H0:Hid _:=r0
   have H1:Hid _:=r1
   have Hq:Hid _:=hq
   obtain ⟨z0,z1,z2,z3,z4,zf⟩:=cells5 r1
   have g0:=zf 0
   have g1:=zf 1
   have g2:=zf 2
   have g3:=zf 3
   have g4:=zf 4
   clear hj hq r1 cf hsz zf
   go_wp2_with fail
   refine bodyPost_five (s:=2) rfl rfl rfl ((Below.heap_setCell _ _ _ _ (by show w.heap.size+1≠w.heap.size;omega)).trans H1.out) fun W5 o5 b5=>?_
   have k5:∀g,g≠w.heap.size→g≠w.heap.size+1→W5.heap[g]?=wr.heap[g]?:=fun g h1 h2=>(o5 g h2).trans (Below.heap_setCell _ _ _ _ h1)
   have hb5:=b5 w.heap.size (w.heap.size+1) (by omega)
   have hss:(wr.setCell ⟨w.heap.size,3,none⟩ (.slice ra q.len cv)).heap.size=wr.heap.size:=World.size_setCell ..
   refine ⟨_,rfl,?_,?_⟩
   ·rw [←Hq.out]
    exact (HT.out.kept (fun g h1 _=>k5 g (by omega) (by omega))).mono (by omega)
   ·refine HB2.out.trans ⟨hb5.os.trans HB.out.os,hb5.tape.trans HB.out.tape,hb5.output.trans HB.out.output,by have:=hb5.size;omega,fun g hg=>(k5 g (by omega) (by omega)).trans (HB.out.block g (by omega))⟩
  | cons k n t s d r =>
   simp only [Fo.len] at hj
   simp only [Fo.size] at hsz
   have k1:(j:Int)<(x.s.len:Int):=by omega
   have hra:=Hra.out (by omega)
   subst hra
   obtain ⟨hb0,hsl0,rk2,ck2,d0,d1,d2,d3,d4,hrs,hr⟩:=rd_cons HF.out
   have bel:Below w.heap.size w wr:=HB2.out.trans (HB.out.mono (by omega))
   have e0:=(bel.cell (p:=⟨b,_,none⟩) hb0).trans d0
   have e1:=(bel.cell (p:=⟨b,_,none⟩) hb0).trans d1
   have e2:=(bel.cell (p:=⟨b,_,none⟩) hb0).trans d2
   have e3:=(bel.cell (p:=⟨b,_,none⟩) hb0).trans d3
   have e4:=(bel.cell (p:=⟨b,_,none⟩) hb0).trans d4
   obtain ⟨w3,hw3⟩:∃w3,wr.alloc (boxD ⟨k,n,t,s,d⟩ (.slice rk2 s.len ck2))=w3:=⟨_,rfl⟩
   have a3:=(Below.refl _ wr).alloc (Nat.le_refl wr.heap.size) (boxD ⟨k,n,t,s,d⟩ (.slice rk2 s.len ck2))
   rw [hw3] at a3
   have HB3:Hid (Below (w.heap.size+2) W2 w3):=HB.out.trans (a3.mono (by omega))
   have HR3:Hid (RS w3 rk2 s):=hrs.below (bel.trans (a3.mono bel.size))
   have HT3:Hid (Tree w3 (w.heap.size+2) (.slice ra q.len cv) q):=HT.out.kept (fun g _ hg=>a3.block g hg)
   have q3:w3.heap[wr.heap.size]?=some (.cells #[.int .u8 k, .int .i64 n,S t, .slice rk2 s.len ck2, .bool d] 32 (0,0)):=by rw [←hw3];exact World.alloc_heap_new _ _
   obtain ⟨y0,y1,y2,y3,y4,_⟩:=cells5 q3
   have Hr:Hid (Rd w b (o+j*5+5) r):=hr
   have h3s:=a3.size
   clear d0 d1 d2 d3 d4 hrs hr bel a3 q3 r0 r1 cf
   go_wp2_with fail
   refine (HS.out s.size (by omega) ⟨k,n,t,s,d⟩ rk2 ck2 w3 (Nat.le_refl _) (by show s.size≤_;omega) HR3.out).mono ?_
   rintro e w4 ⟨kv,rfl,hT4,hb4⟩
   obtain ⟨ra4,ca4,rfl⟩:=hT4.slice
   obtain ⟨cs,bs,ho3,hrr3,hnd⟩:=HT3.out.ex
   have hs4:=hb4.size
   have HB4:Hid (Below (w.heap.size+2) W2 w4):=HB3.out.trans (hb4.mono (by omega))
   have Ho:Hid (w4.ownsRow (w.heap.size+2) 32 5 (.slice ra q.len cv) q.len cs):=own_same ho3 (fun g hg=>hb4.block g (ho3.lt g hg).2)
   have Hrr:Hid (Row w4 (w.heap.size+2) q cs bs):=hrr3.kept (fun g hg=>hb4.block g (hrr3.lt g hg).2)
   have Hnd:Hid (own1 (.slice ra q.len cv)++bs).Nodup:=hnd
   have Hold:Hid (∀y∈own1 (.slice ra q.len cv)++bs,y<w3.heap.size):=by
    show ∀y∈own1 (.slice ra q.len cv)++bs,y<w3.heap.size
    intro y hy
    rcases List.mem_append.1 hy with h|h
    ·exact (ho3.lt y (mem_own1.1 h)).2
    ·exact (hrr3.lt y h).2
   have HT4:Hid (Tree w4 w3.heap.size (.slice ra4 s.len ca4) s):=hT4
   clear hT4 ho3 hrr3 hnd c0 c1 c2 c3 c4 e0 e1 e2 e3 e4 y0 y1 y2 y3 y4 hw3 hb4
   go_wp2_with (at_builtin;refine stop_of ?_)
   unfold Hid
   refine wpList_append_lies _ rfl _ _ 30 rfl (w.heap.size+2) 32 i0 (.agg #[.int .u8 0, .int .i64 0, .string ⟨#[]⟩, .slice none 0 0, .bool false]) 5 64 Tryz.underlying30 hi0 hz0 hz1 hz2 rfl (by decide) (.slice ra q.len cv) q.len cs rfl (World.ownsRow.alloc Ho.out _) ⟨_,0,none⟩ 1 1 [.int .u8 k, .int .i64 n,S t, .slice ra4 s.len ca4, .bool d] rfl rfl (cell_five_at _ _ (by simp) _ _ _ _ _ _) (five_one _ _ _ _ _ _ _) (by have:=HL.out;omega) (by have:=HL.out;unfold maxLen;omega) (by have:=HL.out;omega) (by simp;omega) _ rfl ?_
   intro g cap6 w6 hown hgr hat hlt6
   obtain ⟨ncs,nbs,nho,nhr,nnd⟩:=HT4.out.ex
   have HTX:=tree_append (World.ownsRow.alloc Ho.out _) (Hrr.out.alloc _) Hnd.out (((Row.single nho nhr).alloc _).mono (by omega)) nnd (fun y hy hm=>by
     have h1:=((Row.single (k:=k) (n:=n) (t:=t) (d:=d) nho nhr).lt y hy).1
     have:=Hold.out y hm
     omega) rfl rfl hown hgr (hat.imp (fun h=>h.symm) (fun h=>by rw [h];rfl))
   have HT6:Hid (Tree w6 (w.heap.size+2) (.slice (some ⟨g,0,none⟩) (q.len+1) cap6) (q.app (.cons k n t s d .nil))):=⟨_,_,HTX⟩
   have hoa:=World.ownsRow.alloc Ho.out (.cells #[.int .u8 k, .int .i64 n,S t, .slice ra4 s.len ca4, .bool d] 32)
   have HB6:Hid (Below (w.heap.size+2) W2 w6):=by
    have a6:=HB4.out.alloc (by have:=HB4.out.size;omega) (.cells #[.int .u8 k, .int .i64 n,S t, .slice ra4 s.len ca4, .bool d] 32)
    exact a6.trans ((Below.refl _ _).grown hgr (by rw [World.size_alloc];omega) (fun k' hk=>(hoa.lt k' hk).1))
   have HLq:Hid ((q.app (.cons k n t s d .nil)).len=j+1):=by show _=_;rw [Fo.len_app,HL.out];rfl
   clear hown hgr hat hlt6 HTX nho nhr nnd hoa
   go_wp2_with fail
   go_roundw
   case rel=>exact ⟨j+1,q.app (.cons k n t s d .nil),r,by go_num,by omega,by omega,HLq.out,by show _=_;rw [app_cons];exact HQ.out,by rw [show o+(j+1)*5=o+j*5+5 by omega];exact Hr.out,HT6.out,HB6.out⟩
   case measure=>simp [intOf];omega
theorem copy_all:∀N,CopyC N:=fun N=>by
 induction N using Nat.strongRecOn with
 | _ N ih=>exact copy_of ih
theorem copy_any (x:Dt) (rk:Option Addr) (ck:Nat) (w:World) (hbig:x.s.size≤1000000) (hR:RS w rk x.s) :
  Calls Tryz.prog 110 #[datV x (.slice rk x.s.len ck)] w fun e w' => ∃v,e = .returned (datV x v)∧Tree w' w.heap.size v x.s∧Below w.heap.size w w' := copy_all _ x rk ck w (Nat.le_refl _) hbig hR
theorem plain_any {K:Nat} (hF:FormC K) (W:World) (B pb mb:Nat) (ps:List Int) (x:Dt) (rk:Option Addr) (ck:Nat) (w:World) (hC:Ctx W w B pb mb ps) (hl:ps.length+1+4*K≤900) (hX:DOk x) (hdp:x.s.dpt≤K) (hR:RS W rk x.s) (hx1:1≤x.s.len) :
  RowC W w B pb mb ps x rk ck 103 (rowPlain (formM K true) x):=by
 unfold RowC
 have HH:Hid (Hd W w ((w.alloc (boxD x (.slice rk x.s.len ck))).alloc F9) B pb mb ps x (.slice rk x.s.len ck)):=Hd.new hC x _
 have HF:Hid (FormC K):=hF
 have HX:Hid (DOk x):=hX
 have HR:Hid (RS W rk x.s):=hR
 obtain ⟨q1,hq1,hq2⟩:∃q1:Fo,x.s=q1.app x.s.tl∧q1.len=1:=by
  cases hs:x.s with
  | nil=>rw [hs] at hx1;simp [Fo.len] at hx1
  | cons k n t s d r=>exact ⟨.cons k n t s d .nil,rfl,rfl⟩
 have HQ:Hid (x.s=q1.app x.s.tl):=hq1
 have HQ2:Hid (q1.len=1):=hq2
 have HZW:Hid (((w.alloc (boxD x (.slice rk x.s.len ck))).alloc F9).heap.size=w.heap.size+2):=by show _=_;simp
 clear hC hF hX hR hq1 hq2
 go_enter Tryz.func103,Tryz.ntmps103
 go_upto_region 1 with fail
 generalize (w.alloc (boxD x (.slice rk x.s.len ck))).alloc F9=W2 at *
 obtain ⟨c0,c1,c2,c3,c4,_⟩:=cells5 HH.out.q0
 go_wp2_with fail
 refine (forms_any HF.out W B pb mb ps x rk ck W2 1 q1 x.s.tl HH.out.c hl HX.out hdp HR.out HQ.out HQ2.out).mono ?_
 cases hx:formsM (formM K true) (1:Nat) x.s.tl with
 | bad er p =>
  have HNW:Hid (rowPlain (formM K true) x = .bad er p):=by show _=_;unfold rowPlain;rw [show (1:Int)=((1:Nat):Int) from rfl,hx];rfl
  rintro e w5 ⟨v5,rfl,h1,h2⟩
  clear hx
  go_wp2_with fail
  refine ⟨rfl,?_⟩
  rw [HNW.out]
  exact GaveUp.elder ⟨v5,rfl,h1,h2⟩ HH.out.k
 | ok g =>
  have HNW:Hid (rowPlain (formM K true) x = .ok { frm0 with kids:=g }):=by show _=_;unfold rowPlain;rw [show (1:Int)=((1:Nat):Int) from rfl,hx];rfl
  rintro e w5 ⟨⟨v5,rfl,hT⟩,hp5,hk5⟩
  obtain ⟨ra,ca,rfl⟩:=hT.slice
  have HH5:Hid (Hd W w w5 B pb mb ps x (.slice rk x.s.len ck)):=HH.out.step hp5 hk5
  have HT:Hid (FTree w5 W2.heap.size (.slice ra g.len ca) g):=hT
  obtain ⟨⟨z0,z1,z2,z3,z4,z5,z6,z7,z8⟩,zf⟩:=cells9 HH5.out.q1
  have f0:=zf 0
  have f1:=zf 1
  have f2:=zf 2
  have f3:=zf 3
  have f4:=zf 4
  have f5:=zf 5
  have f6:=zf 6
  have f7:=zf 7
  have f8:=zf 8
  clear hx hT hp5 hk5 zf c0 c1 c2 c3 c4
  go_wp2_with fail
  refine bodyPost_nine (s:=4) rfl rfl rfl HH5.out.q1 fun W9 h9=>?_
  rw [HNW.out]
  have hz5:=HZW.out
  obtain ⟨bs,ho⟩:=one_nk (w:=w5) (base:=w.heap.size+2) (c:=w.heap.size+2) (f:={ frm0 with kids:=g }) rfl (World.ownsRow_nil _ _ _ _) (fun g hg=>by cases hg) (hz5 ▸ HT.out) (Nat.le_refl _)
  exact row_end (f:={ frm0 with kids:=g }) HH5.out ho h9
theorem named_any {K:Nat} (hF:FormC K) (W:World) (B pb mb:Nat) (ps:List Int) (x:Dt) (rk:Option Addr) (ck:Nat) (w:World) (hC:Ctx W w B pb mb ps) (hl:ps.length+1+4*K≤900) (hX:DOk x) (hdp:x.s.dpt≤K) (hR:RS W rk x.s) (hx2:∃k0 n0 t0 s0 d0 k1 n1 t1 s1 d1 r,x.s = .cons k0 n0 t0 s0 d0 (.cons k1 n1 t1 s1 d1 r)) :
  RowC W w B pb mb ps x rk ck 105 (rowNamed (formM K true) x):=by
 unfold RowC
 have HH:Hid (Hd W w ((w.alloc (boxD x (.slice rk x.s.len ck))).alloc F9) B pb mb ps x (.slice rk x.s.len ck)):=Hd.new hC x _
 have HF:Hid (FormC K):=hF
 have HX:Hid (DOk x):=hX
 have HR:Hid (RS W rk x.s):=hR
 obtain ⟨k0,n0,t0,s0,d0,k1,n1,t1,s1,d1,r,hs⟩:=hx2
 obtain ⟨q1,hq1,hq2⟩:∃q1:Fo,x.s=q1.app x.s.tl.tl∧q1.len=2:=by
  rw [hs]
  exact ⟨.cons k0 n0 t0 s0 d0 (.cons k1 n1 t1 s1 d1 .nil),rfl,rfl⟩
 have HQ:Hid (x.s=q1.app x.s.tl.tl):=hq1
 have HQ2:Hid (q1.len=2):=hq2
 have HOk:Hid (DOk ⟨k1,n1,t1,s1,d1⟩):=hX.kid (q := .cons k0 n0 t0 s0 d0 .nil) (r:=r) (by rw [hs];rfl)
 have HHD:Hid (x.s.tl.hd=⟨k1,n1,t1,s1,d1⟩):=by show _=_;rw [hs];rfl
 have HDP:Hid (s1.dpt+1≤K):=by
  have:=Fo.dpt_app (k:=k1) (n:=n1) (t:=t1) (s:=s1) (d:=d1) (r:=r) (.cons k0 n0 t0 s0 d0 .nil)
  rw [hs] at hdp
  show _≤_
  exact Nat.le_trans this hdp
 have HZW:Hid (w.heap.size+2≤w.heap.size+2):=Nat.le_refl _
 obtain ⟨b,o,hab,hRd⟩:=hR
 have hra:rk=some ⟨b,o,none⟩:=hab.resolve_left (by rw [hs];simp [Fo.len])
 have hsl:(1:Int)<(x.s.len:Int):=by rw [hs];simp only [Fo.len];omega
 subst hra
 rw [hs] at hRd
 obtain ⟨_,_,_,_,_,_,_,_,_,_,hRd1⟩:=rd_cons hRd
 obtain ⟨o1,ho1⟩:∃o1,o+5=o1:=⟨_,rfl⟩
 rw [ho1] at hRd1
 obtain ⟨hb0,hsl0,rk2,ck2,y0,y1,y2,y3,y4,hrs,_⟩:=rd_cons hRd1
 have HRk:Hid (RS W rk2 s1):=hrs
 have HD0:Hid (W.cell? ⟨b,o1,none⟩=some (.int .u8 k1)∧W.cell? ⟨b,o1+1,none⟩=some (.int .i64 n1)∧W.cell? ⟨b,o1+1+1,none⟩=some (S t1)∧W.cell? ⟨b,o1+1+1+1,none⟩=some (.slice rk2 s1.len ck2)∧W.cell? ⟨b,o1+1+1+1+1,none⟩=some (.bool d1)∧b<W.heap.size):=⟨y0,y1,y2,y3,y4,hb0⟩
 clear hs hab hRd hRd1 y0 y1 y2 y3 y4 hrs hb0
 clear hC hF hX hq1 hq2
 go_enter Tryz.func105,Tryz.ntmps105
 go_upto_region 1 with fail
 generalize (w.alloc (boxD x (.slice (some ⟨b,o,none⟩) x.s.len ck))).alloc F9=W2 at *
 obtain ⟨c0,c1,c2,c3,c4,_⟩:=cells5 HH.out.q0
 have hpb:=HH.out.lt
 go_wp2_with fail
 refine (enter_any B pb mb ps 1 W2 HH.out.c.px (by omega) (by have:=HH.out.c.px.hB;have:=HH.out.c.px.lt;omega)).mono ?_
 rintro e w3 ⟨⟨v3,rfl⟩,hp3,hk3⟩
 have HH3:Hid (Hd W w w3 B pb mb (ps++[1]) x (.slice (some ⟨b,o,none⟩) x.s.len ck)):=HH.out.step hp3 hk3
 have hs3:=hk3.size
 clear hp3 hk3 c0 c1 c2 c3 c4
 obtain ⟨c0,c1,c2,c3,c4,_⟩:=cells5 HH3.out.q0
 have bel:=HH3.out.c.hW
 obtain ⟨y0,y1,y2,y3,y4,hb0⟩:=HD0.out
 have e0:=(bel.cell (p:=⟨b,_,none⟩) hb0).trans y0
 have e1:=(bel.cell (p:=⟨b,_,none⟩) hb0).trans y1
 have e2:=(bel.cell (p:=⟨b,_,none⟩) hb0).trans y2
 have e3:=(bel.cell (p:=⟨b,_,none⟩) hb0).trans y3
 have e4:=(bel.cell (p:=⟨b,_,none⟩) hb0).trans y4
 clear bel y0 y1 y2 y3 y4
 go_wp2_with fail
 refine (variable_any B pb mb (ps++[1]) ⟨k1,n1,t1,s1,d1⟩ (.slice rk2 s1.len ck2) w3 HH3.out.c.px (by simp;omega) ⟨_,_,rfl⟩ HH3.out.c.envw HOk.out.t).mono ?_
 cases hv:variM k1 t1 with
 | bad er p =>
  have HNW:Hid (rowNamed (formM K true) x = .bad er (1::p)):=by show _=_;unfold rowNamed;rw [HHD.out];simp only [hv];rfl
  rintro e w4 ⟨v5,rfl,h1,h2⟩
  clear hv
  go_wp2_with fail
  refine ⟨rfl,?_⟩
  rw [HNW.out]
  exact (GaveUp.elder (GaveUp.cast ⟨v5,rfl,h1,h2⟩ (by simp)) HH3.out.k)
 | ok a =>
  have HV:Hid (variM k1 t1 = .ok a):=hv
  clear hv
  rintro e w4 ⟨rfl,hp4,hk4⟩
  have hs4:=hk4.size
  have HH4:Hid (Hd W w w4 B pb mb (ps++[1]) x (.slice (some ⟨b,o,none⟩) x.s.len ck)):=HH3.out.step hp4 hk4
  clear hp4 hk4 c0 c1 c2 c3 c4 e0 e1 e2 e3 e4
  go_wp2_with fail
  refine (leave_any B pb mb ps 1 w4 HH4.out.c.px (by omega)).mono ?_
  rintro e w6 ⟨⟨v6,rfl⟩,hp6,hk6⟩
  have hs6:=hk6.size
  have HH6:Hid (Hd W w w6 B pb mb ps x (.slice (some ⟨b,o,none⟩) x.s.len ck)):=HH4.out.step hp6 hk6
  have HZ6:Hid (w.heap.size+2≤w6.heap.size):=by show _≤_;have:=(Array.getElem?_eq_some_iff.1 HH6.out.q1).1;omega
  clear hp6 hk6
  obtain ⟨c0,c1,c2,c3,c4,_⟩:=cells5 HH6.out.q0
  go_wp2_with fail
  refine (forms_any HF.out W B pb mb ps x (some ⟨b,o,none⟩) ck w6 2 q1 x.s.tl.tl HH6.out.c hl HX.out hdp HR.out HQ.out HQ2.out).mono ?_
  cases hx:formsM (formM K true) (2:Nat) x.s.tl.tl with
  | bad er p =>
   have HNW:Hid (rowNamed (formM K true) x = .bad er p):=by show _=_;unfold rowNamed;rw [HHD.out];simp only [HV.out,PR.within,PR.then];rw [show (2:Int)=((2:Nat):Int) from rfl,hx]
   rintro e w5 ⟨v5,rfl,h1,h2⟩
   clear hx
   go_wp2_with fail
   refine ⟨rfl,?_⟩
   rw [HNW.out]
   exact GaveUp.elder ⟨v5,rfl,h1,h2⟩ HH6.out.k
  | ok g =>
   have HNW:Hid (rowNamed (formM K true) x = .ok { frm0 with text:=a,kids:=g }):=by show _=_;unfold rowNamed;rw [HHD.out];simp only [HV.out,PR.within,PR.then];rw [show (2:Int)=((2:Nat):Int) from rfl,hx]
   rintro e w5 ⟨⟨v5,rfl,hT⟩,hp5,hk5⟩
   obtain ⟨ra,ca,rfl⟩:=hT.slice
   have HH5:Hid (Hd W w w5 B pb mb ps x (.slice (some ⟨b,o,none⟩) x.s.len ck)):=HH6.out.step hp5 hk5
   have HT:Hid (FTree w5 w6.heap.size (.slice ra g.len ca) g):=hT
   obtain ⟨⟨z0,z1,z2,z3,z4,z5,z6,z7,z8⟩,zf⟩:=cells9 HH5.out.q1
   have f0:=zf 0
   have f1:=zf 1
   have f2:=zf 2
   have f3:=zf 3
   have f4:=zf 4
   have f5:=zf 5
   have f6:=zf 6
   have f7:=zf 7
   have f8:=zf 8
   clear hx hT hp5 hk5 zf c0 c1 c2 c3 c4
   go_wp2_with fail
   refine bodyPost_nine (s:=4) rfl rfl rfl HH5.out.q1 fun W9 h9=>?_
   rw [HNW.out]
   have hz5:=HZW.out
   obtain ⟨bs,ho⟩:=one_nk (w:=w5) (base:=w.heap.size+2) (c:=w6.heap.size) (f:={ frm0 with text:=a,kids:=g }) rfl (World.ownsRow_nil _ _ _ _) (fun g hg=>by cases hg) HT.out HZ6.out
   exact row_end (f:={ frm0 with text:=a,kids:=g }) HH5.out ho h9
theorem lambda_any {K:Nat} (hF:FormC K) (W:World) (B pb mb:Nat) (ps:List Int) (x:Dt) (rk:Option Addr) (ck:Nat) (w:World) (hC:Ctx W w B pb mb ps) (hl:ps.length+1+4*K≤900) (hX:DOk x) (hdp:x.s.dpt≤K) (hR:RS W rk x.s) (hx2:∃k0 n0 t0 s0 d0 k1 n1 t1 s1 d1 r,x.s = .cons k0 n0 t0 s0 d0 (.cons k1 n1 t1 s1 d1 r)) :
  RowC W w B pb mb ps x rk ck 104 (rowLambda (formM K true) x):=by
 unfold RowC
 have HH:Hid (Hd W w ((w.alloc (boxD x (.slice rk x.s.len ck))).alloc F9) B pb mb ps x (.slice rk x.s.len ck)):=Hd.new hC x _
 have HF:Hid (FormC K):=hF
 have HX:Hid (DOk x):=hX
 have HR:Hid (RS W rk x.s):=hR
 obtain ⟨k0,n0,t0,s0,d0,k1,n1,t1,s1,d1,r,hs⟩:=hx2
 obtain ⟨q1,hq1,hq2⟩:∃q1:Fo,x.s=q1.app x.s.tl.tl∧q1.len=2:=by
  rw [hs]
  exact ⟨.cons k0 n0 t0 s0 d0 (.cons k1 n1 t1 s1 d1 .nil),rfl,rfl⟩
 have HQ:Hid (x.s=q1.app x.s.tl.tl):=hq1
 have HQ2:Hid (q1.len=2):=hq2
 have HOk:Hid (DOk ⟨k1,n1,t1,s1,d1⟩):=hX.kid (q := .cons k0 n0 t0 s0 d0 .nil) (r:=r) (by rw [hs];rfl)
 have HHD:Hid (x.s.tl.hd=⟨k1,n1,t1,s1,d1⟩):=by show _=_;rw [hs];rfl
 have HDP:Hid (s1.dpt+1≤K):=by
  have:=Fo.dpt_app (k:=k1) (n:=n1) (t:=t1) (s:=s1) (d:=d1) (r:=r) (.cons k0 n0 t0 s0 d0 .nil)
  rw [hs] at hdp
  show _≤_
  exact Nat.le_trans this hdp
 have HZW:Hid (w.heap.size+2≤w.heap.size+2):=Nat.le_refl _
 obtain ⟨b,o,hab,hRd⟩:=hR
 have hra:rk=some ⟨b,o,none⟩:=hab.resolve_left (by rw [hs];simp [Fo.len])
 have hsl:(1:Int)<(x.s.len:Int):=by rw [hs];simp only [Fo.len];omega
 subst hra
 rw [hs] at hRd
 obtain ⟨_,_,_,_,_,_,_,_,_,_,hRd1⟩:=rd_cons hRd
 obtain ⟨o1,ho1⟩:∃o1,o+5=o1:=⟨_,rfl⟩
 rw [ho1] at hRd1
 obtain ⟨hb0,hsl0,rk2,ck2,y0,y1,y2,y3,y4,hrs,_⟩:=rd_cons hRd1
 have HRk:Hid (RS W rk2 s1):=hrs
 have HD0:Hid (W.cell? ⟨b,o1,none⟩=some (.int .u8 k1)∧W.cell? ⟨b,o1+1,none⟩=some (.int .i64 n1)∧W.cell? ⟨b,o1+1+1,none⟩=some (S t1)∧W.cell? ⟨b,o1+1+1+1,none⟩=some (.slice rk2 s1.len ck2)∧W.cell? ⟨b,o1+1+1+1+1,none⟩=some (.bool d1)∧b<W.heap.size):=⟨y0,y1,y2,y3,y4,hb0⟩
 clear hs hab hRd hRd1 y0 y1 y2 y3 y4 hrs hb0
 clear hC hF hX hq1 hq2
 go_enter Tryz.func104,Tryz.ntmps104
 go_upto_region 1 with fail
 generalize (w.alloc (boxD x (.slice (some ⟨b,o,none⟩) x.s.len ck))).alloc F9=W2 at *
 obtain ⟨c0,c1,c2,c3,c4,_⟩:=cells5 HH.out.q0
 have hpb:=HH.out.lt
 go_wp2_with fail
 refine (enter_any B pb mb ps 1 W2 HH.out.c.px (by omega) (by have:=HH.out.c.px.hB;have:=HH.out.c.px.lt;omega)).mono ?_
 rintro e w3 ⟨⟨v3,rfl⟩,hp3,hk3⟩
 have HH3:Hid (Hd W w w3 B pb mb (ps++[1]) x (.slice (some ⟨b,o,none⟩) x.s.len ck)):=HH.out.step hp3 hk3
 have hs3:=hk3.size
 clear hp3 hk3 c0 c1 c2 c3 c4
 obtain ⟨c0,c1,c2,c3,c4,_⟩:=cells5 HH3.out.q0
 have bel:=HH3.out.c.hW
 obtain ⟨y0,y1,y2,y3,y4,hb0⟩:=HD0.out
 have e0:=(bel.cell (p:=⟨b,_,none⟩) hb0).trans y0
 have e1:=(bel.cell (p:=⟨b,_,none⟩) hb0).trans y1
 have e2:=(bel.cell (p:=⟨b,_,none⟩) hb0).trans y2
 have e3:=(bel.cell (p:=⟨b,_,none⟩) hb0).trans y3
 have e4:=(bel.cell (p:=⟨b,_,none⟩) hb0).trans y4
 clear bel y0 y1 y2 y3 y4
 go_wp2_with fail
 refine (names_any W B pb mb (ps++[1]) ⟨k1,n1,t1,s1,d1⟩ rk2 ck2 w3 HH3.out.c (by simp;omega) HOk.out HRk.out).mono ?_
 cases hv:namesD ⟨k1,n1,t1,s1,d1⟩ with
 | bad er p =>
  have HNW:Hid (rowLambda (formM K true) x = .bad er (1::p)):=by show _=_;unfold rowLambda;rw [HHD.out];simp only [hv];rfl
  rintro e w4 ⟨v5,rfl,h1,h2⟩
  clear hv
  go_wp2_with fail
  refine ⟨rfl,?_⟩
  rw [HNW.out]
  exact (GaveUp.elder (GaveUp.cast ⟨v5,rfl,h1,h2⟩ (by simp)) HH3.out.k)
 | ok a =>
  have HV:Hid (namesD ⟨k1,n1,t1,s1,d1⟩ = .ok a):=hv
  clear hv
  rintro e w4 ⟨⟨v4,rfl,hown4⟩,hp4,hk4⟩
  obtain ⟨rn,cn,rfl⟩:=own_slice hown4
  have hs4:=hk4.size
  have HH4:Hid (Hd W w w4 B pb mb (ps++[1]) x (.slice (some ⟨b,o,none⟩) x.s.len ck)):=HH3.out.step hp4 hk4
  have HO4:Hid (w4.ownsRow w3.heap.size 9 1 (.slice rn a.length cn) a.length (a.map S)):=hown4
  have HL3:Hid (w.heap.size+2≤w3.heap.size):=by show _≤_;have:=(Array.getElem?_eq_some_iff.1 HH3.out.q1).1;omega
  clear hown4
  clear hp4 hk4 c0 c1 c2 c3 c4 e0 e1 e2 e3 e4
  go_wp2_with fail
  refine (leave_any B pb mb ps 1 w4 HH4.out.c.px (by omega)).mono ?_
  rintro e w6 ⟨⟨v6,rfl⟩,hp6,hk6⟩
  have hs6:=hk6.size
  have HH6:Hid (Hd W w w6 B pb mb ps x (.slice (some ⟨b,o,none⟩) x.s.len ck)):=HH4.out.step hp6 hk6
  have HO6:Hid (w6.ownsRow w3.heap.size 9 1 (.slice rn a.length cn) a.length (a.map S)):=hk6.own HO4.out (by decide) (fun g hg=>by have:=(HO4.out.lt g hg).1;have:=HL3.out;show ¬ _=pb;omega)
  have HZ6:Hid (w.heap.size+2≤w6.heap.size):=by show _≤_;have:=(Array.getElem?_eq_some_iff.1 HH6.out.q1).1;omega
  clear hp6 hk6
  obtain ⟨c0,c1,c2,c3,c4,_⟩:=cells5 HH6.out.q0
  go_wp2_with fail
  refine (forms_any HF.out W B pb mb ps x (some ⟨b,o,none⟩) ck w6 2 q1 x.s.tl.tl HH6.out.c hl HX.out hdp HR.out HQ.out HQ2.out).mono ?_
  cases hx:formsM (formM K true) (2:Nat) x.s.tl.tl with
  | bad er p =>
   have HNW:Hid (rowLambda (formM K true) x = .bad er p):=by show _=_;unfold rowLambda;rw [HHD.out];simp only [HV.out,PR.within,PR.then];rw [show (2:Int)=((2:Nat):Int) from rfl,hx]
   rintro e w5 ⟨v5,rfl,h1,h2⟩
   clear hx
   go_wp2_with fail
   refine ⟨rfl,?_⟩
   rw [HNW.out]
   exact GaveUp.elder ⟨v5,rfl,h1,h2⟩ HH6.out.k
  | ok g =>
   have HNW:Hid (rowLambda (formM K true) x = .ok { frm0 with names:=a,kids:=g }):=by show _=_;unfold rowLambda;rw [HHD.out];simp only [HV.out,PR.within,PR.then];rw [show (2:Int)=((2:Nat):Int) from rfl,hx]
   rintro e w5 ⟨⟨v5,rfl,hT⟩,hp5,hk5⟩
   obtain ⟨ra,ca,rfl⟩:=hT.slice
   have HH5:Hid (Hd W w w5 B pb mb ps x (.slice (some ⟨b,o,none⟩) x.s.len ck)):=HH6.out.step hp5 hk5
   have HT:Hid (FTree w5 w6.heap.size (.slice ra g.len ca) g):=hT
   have HO5:Hid (w5.ownsRow w3.heap.size 9 1 (.slice rn a.length cn) a.length (a.map S)):=hk5.own HO6.out (by decide) (fun g hg=>by have:=(HO6.out.lt g hg).1;have:=HL3.out;show ¬ _=pb;omega)
   obtain ⟨⟨z0,z1,z2,z3,z4,z5,z6,z7,z8⟩,zf⟩:=cells9 HH5.out.q1
   have f0:=zf 0
   have f1:=zf 1
   have f2:=zf 2
   have f3:=zf 3
   have f4:=zf 4
   have f5:=zf 5
   have f6:=zf 6
   have f7:=zf 7
   have f8:=zf 8
   clear hx hT hp5 hk5 zf c0 c1 c2 c3 c4
   go_wp2_with fail
   refine bodyPost_nine (s:=4) rfl rfl rfl HH5.out.q1 fun W9 h9=>?_
   rw [HNW.out]
   have hz5:=HZW.out
   obtain ⟨bs,ho⟩:=one_nk (w:=w5) (base:=w.heap.size+2) (c:=w6.heap.size) (f:={ frm0 with names:=a,kids:=g }) rfl (own_mono HO5.out HL3.out) (fun g hg=>(HO6.out.lt g hg).2) HT.out HZ6.out
   exact row_end (f:={ frm0 with names:=a,kids:=g }) HH5.out ho h9
theorem quoted_any (W:World) (B pb mb:Nat) (ps:List Int) (x:Dt) (rk:Option Addr) (ck:Nat) (w:World) (hC:Ctx W w B pb mb ps) (hX:DOk x) (hR:RS W rk x.s) (hx2:∃k0 n0 t0 s0 d0 k1 n1 t1 s1 d1 r,x.s = .cons k0 n0 t0 s0 d0 (.cons k1 n1 t1 s1 d1 r)) :
  RowC W w B pb mb ps x rk ck 102 (rowQuoted x):=by
 unfold RowC
 have HH:Hid (Hd W w ((w.alloc (boxD x (.slice rk x.s.len ck))).alloc F9) B pb mb ps x (.slice rk x.s.len ck)):=Hd.new hC x _
 obtain ⟨k0,n0,t0,s0,d0,k1,n1,t1,s1,d1,r,hs⟩:=hx2
 have HOk:Hid (DOk ⟨k1,n1,t1,s1,d1⟩):=hX.kid (q := .cons k0 n0 t0 s0 d0 .nil) (r:=r) (by rw [hs];rfl)
 have HNW:Hid (rowQuoted x = .ok { frm0 with dat:=⟨k1,n1,t1,s1,d1⟩ }):=by show _=_;unfold rowQuoted;rw [hs];rfl
 have HZ:Hid (((w.alloc (boxD x (.slice rk x.s.len ck))).alloc F9).heap.size=w.heap.size+2):=by show _=_;simp
 obtain ⟨b,o,hab,hRd⟩:=hR
 have hra:rk=some ⟨b,o,none⟩:=hab.resolve_left (by rw [hs];simp [Fo.len])
 have hsl:(1:Int)<(x.s.len:Int):=by rw [hs];simp only [Fo.len];omega
 subst hra
 rw [hs] at hRd
 obtain ⟨_,_,_,_,_,_,_,_,_,_,hRd1⟩:=rd_cons hRd
 obtain ⟨o1,ho1⟩:∃o1,o+5=o1:=⟨_,rfl⟩
 rw [ho1] at hRd1
 obtain ⟨hb0,hsl0,rk2,ck2,y0,y1,y2,y3,y4,hrs,_⟩:=rd_cons hRd1
 have HRk:Hid (RS W rk2 s1):=hrs
 clear hs hab hRd hRd1 hC hX hrs
 go_enter Tryz.func102,Tryz.ntmps102
 go_upto_region 1 with fail
 generalize (w.alloc (boxD x (.slice (some ⟨b,o,none⟩) x.s.len ck))).alloc F9=W2 at *
 obtain ⟨c0,c1,c2,c3,c4,_⟩:=cells5 HH.out.q0
 have bel:=HH.out.c.hW
 have e0:=(bel.cell (p:=⟨b,_,none⟩) hb0).trans y0
 have e1:=(bel.cell (p:=⟨b,_,none⟩) hb0).trans y1
 have e2:=(bel.cell (p:=⟨b,_,none⟩) hb0).trans y2
 have e3:=(bel.cell (p:=⟨b,_,none⟩) hb0).trans y3
 have e4:=(bel.cell (p:=⟨b,_,none⟩) hb0).trans y4
 have HR2:Hid (RS W2 rk2 s1):=HRk.out.below bel
 clear bel y0 y1 y2 y3 y4
 go_wp2_with fail
 refine (copy_any ⟨k1,n1,t1,s1,d1⟩ rk2 ck2 W2 HOk.out.size HR2.out).mono ?_
 rintro e w5 ⟨v,rfl,hT,hb5⟩
 obtain ⟨ra,ca,rfl⟩:=hT.slice
 have HH5:Hid (Hd W w w5 B pb mb ps x (.slice (some ⟨b,o,none⟩) x.s.len ck)):=HH.out.step (HH.out.c.px.same hb5) (KP.of hb5)
 have HT:Hid (Tree w5 W2.heap.size (.slice ra s1.len ca) s1):=hT
 obtain ⟨⟨z0,z1,z2,z3,z4,z5,z6,z7,z8⟩,zf⟩:=cells9 HH5.out.q1
 have f0:=zf 0
 have f1:=zf 1
 have f2:=zf 2
 have f3:=zf 3
 have f4:=zf 4
 have f5:=zf 5
 have f6:=zf 6
 have f7:=zf 7
 have f8:=zf 8
 clear hT hb5 zf c0 c1 c2 c3 c4
 go_wp2_with fail
 refine bodyPost_nine (s:=4) rfl rfl rfl HH5.out.q1 fun W9 h9=>?_
 rw [HNW.out]
 obtain ⟨bs,ho⟩:=one_d (w:=w5) (base:=w.heap.size+2) (f:={ frm0 with dat:=⟨k1,n1,t1,s1,d1⟩ }) rfl rfl (by have:=HT.out;rw [HZ.out] at this;exact this)
 exact row_end (f:={ frm0 with dat:=⟨k1,n1,t1,s1,d1⟩ }) HH5.out ho h9
end Go.Proofs.YtkgnigloboajcaaGreatDoor
