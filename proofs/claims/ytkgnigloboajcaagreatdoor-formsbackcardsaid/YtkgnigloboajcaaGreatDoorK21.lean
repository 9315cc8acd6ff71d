/- Trees of forms that grow; what is asked of form.; The forms that a list's data are, from one of them on.; A binding. -/
import Derived.Test.YtkgnigloboajcaaGreatDoorK20
set_option maxRecDepth 100000
set_option maxHeartbeats 8000000
namespace Go.Proofs.YtkgnigloboajcaaGreatDoor
open Go.RowKit Go.Maps Go.ChangeMaps
theorem infoFrm:(Tryz.prog.info? 36).map (fun i=>(i.zero,i.size,i.bytes))=some (some (.agg #[.int .u8 0, .string ⟨#[]⟩, .slice none 0 0, .slice none 0 0, .int .u8 0, .int .i64 0, .string ⟨#[]⟩, .slice none 0 0, .bool false]),9,136):=by kernel_rfl
def Fo.dpt:Fo→Nat
 | .nil=>0
 | .cons _ _ _ s _ r=>max (s.dpt+1) r.dpt
theorem Fo.dpt_app {k n:Int} {t:List UInt8} {s:Fo} {d:Bool} {r:Fo}:∀(q:Fo),s.dpt+1≤(q.app (.cons k n t s d r)).dpt
 | .nil=>by simp only [Fo.app,Fo.dpt];omega
 | .cons _ _ _ _ _ q=>by have:=Fo.dpt_app (k:=k) (n:=n) (t:=t) (s:=s) (d:=d) (r:=r) q;simp only [Fo.app,Fo.dpt];omega
theorem ftree_append {W w' : World} {base n m:Nat} {v v' : Value} {f g:Fm} {cs news:List Value} {bs nbs:List Nat} (hr:FRow W base f cs bs) (hd:(own1 v++bs).Nodup) (hn:FRow W base g news nbs) (hnd:nbs.Nodup)
  (hdis:∀x∈nbs,x ∉ own1 v++bs) (hf:f.len=n) (hg:g.len=m) (hown:w'.ownsRow base 36 9 v' (n+m) (cs++news)) (hgr:W.grownBy w' v.ownBlock) (hw:v'.ownBlock=v.ownBlock∨v'.ownBlock=some W.heap.size) :
  FTree w' base v' (f.app g):=by
 have hvb:∀x∈bs++nbs,some x≠v.ownBlock:=by
  intro x hx e
  have hm:x∈own1 v:=mem_own1.2 e.symm
  rcases List.mem_append.1 hx with h|h
  ·exact (List.nodup_append.1 hd).2.2 x hm x h rfl
  ·exact hdis x h (List.mem_append_left _ hm)
 have hlt:∀x∈bs++nbs,x<W.heap.size:=by
  intro x hx
  rcases List.mem_append.1 hx with h|h
  ·exact (hr.lt x h).2
  ·exact (hn.lt x h).2
 refine ⟨_,_,by rw [Fm.len_app,hf,hg];exact hown,(hr.app hn).kept (fun x hx=>hgr.block x (hlt x hx) (hvb x hx)),?_⟩
 rw [List.nodup_append]
 refine ⟨own1_nodup _,?_,?_⟩
 ·rw [List.nodup_append]
  refine ⟨(List.nodup_append.1 hd).2.1,hnd,fun x hx y hy e=>?_⟩
  subst e
  exact hdis x hy (List.mem_append_right _ hx)
 ·intro x hx y hy e
  subst e
  rw [mem_own1] at hx
  rcases hw with h|h
  ·rw [h] at hx;exact hvb x hy hx.symm
  ·rw [h] at hx
   have:=hlt x hy
   simp at hx;omega
def OutF (w:World) (f:Frm) (e:Ending) (w' : World):Prop:=∃nv kv dv bs,e = .returned (frmV f nv kv dv)∧FOne w' w.heap.size f nv kv dv bs
def FormC (K:Nat):Prop:=∀(W w:World) (B pb mb:Nat) (ps:List Int) (x:Dt) (rk:Option Addr) (ck:Nat),Ctx W w B pb mb ps→ps.length+4*K≤900→DOk x→x.s.dpt+1≤K→RS W rk x.s →
 Calls Tryz.prog 52 #[.pointer (some ⟨pb,0,none⟩),datV x (.slice rk x.s.len ck)] w (Gone B (isP pb) pb mb ps w (formM K (!ps.isEmpty) x) (OutF w))
def behindF (l:Fm) (x:PR Fm):PR Fm:=x.then fun r => .ok (l.app r)
theorem behindF_nil (x:PR Fm):behindF .nil x=x:=by cases x<;>rfl
theorem forms_step (R:Dt→PR Frm) (l:Fm) (i:Int) (k n:Int) (t:List UInt8) (s:Fo) (d:Bool) (r:Fo):behindF l (formsM R i (.cons k n t s d r))=match R ⟨k,n,t,s,d⟩ with | .bad e p => .bad e (i::p) | .ok a=>behindF (l.app (a.fm .nil)) (formsM R (i+1) r):=by
 rw [show formsM R i (.cons k n t s d r)=((R ⟨k,n,t,s,d⟩).within i).then fun x=>(formsM R (i+1) r).then fun g => .ok (x.fm g) from rfl]
 cases R ⟨k,n,t,s,d⟩ with
 | bad e p=>rfl
 | ok a =>
  simp only [PR.within,PR.then]
  cases formsM R (i+1) r with
  | bad e p=>rfl
  | ok q=>simp only [behindF,PR.then,Fm.app_assoc];rfl
abbrev Z9 (x:Frm) (nv kv dv:Value):Obj := .cells #[.int .u8 x.kind,S x.text,nv,kv, .int .u8 x.dat.k, .int .i64 x.dat.n,S x.dat.t,dv, .bool x.dat.d] 36
theorem forms_any {K:Nat} (hF:FormC K) (W:World) (B pb mb:Nat) (ps:List Int) (x:Dt) (rk:Option Addr) (ck:Nat) (w:World) (i0:Nat) (q0 f0:Fo) (hC:Ctx W w B pb mb ps) (hl:ps.length+1+4*K≤900) (hX:DOk x) (hdp:x.s.dpt≤K) (hR:RS W rk x.s) (hq0:x.s=q0.app f0) (hi0:q0.len=i0) :
  Calls Tryz.prog 141 #[.pointer (some ⟨pb,0,none⟩),datV x (.slice rk x.s.len ck), .int .i64 i0] w (Gone B (isP pb) pb mb ps w (formsM (formM K true) i0 f0) fun g e w' => ∃v,e = .returned v∧FTree w' w.heap.size v g):=by
 obtain ⟨i1,hi1,hz0,hz1,hz2⟩:=info_parts infoFrm
 obtain ⟨W1,hW1⟩:∃W1,w.alloc (boxD x (.slice rk x.s.len ck))=W1:=⟨_,rfl⟩
 have a1:=(Below.refl _ w).alloc (Nat.le_refl w.heap.size) (boxD x (.slice rk x.s.len ck))
 have HB1:Hid (Below w.heap.size w W1):=by rw [←hW1];exact a1
 have HC1:Hid (Ctx W W1 B pb mb ps):=by rw [←hW1];exact hC.same a1
 have HK1:Hid (KP B (isP pb) w W1):=KP.of HB1.out
 have HS1:Hid (W1.heap.size=w.heap.size+1):=by show _=_;rw [←hW1];simp
 have HQ1:Hid (W1.heap[w.heap.size]?=some (.cells #[.int .u8 x.k, .int .i64 x.n,S x.t, .slice rk x.s.len ck, .bool x.d] 32 (0,0))):=by show _=_;rw [←hW1];exact World.alloc_heap_new _ _
 have HX:Hid (DOk x):=hX
 have HF:Hid (FormC K):=hF
 have HPB:Hid (B≤pb∧pb<w.heap.size):=⟨hC.px.hB,hC.px.lt⟩
 have hlen:=hX.len
 obtain ⟨b,o,hab,hRd⟩:=hR
 have Hra:Hid (x.s.len≠0→rk=some ⟨b,o,none⟩):=fun h=>hab.resolve_left h
 have HRd:Hid (Rd W b (o+i0*5) f0):=by
  rw [hq0] at hRd
  show Rd _ _ _ _
  have key:∀(q:Fo) (o:Nat),Rd W b o (q.app f0)→Rd W b (o+q.len*5) f0:=by
   intro q
   induction q with
   | nil=>intro o h;simpa [Fo.len,Fo.app] using h
   | cons _ _ _ _ _ r _ ih=>intro o h;have:=ih (o+5) h.2.2;rwa [show o+5+r.len*5=o+(r.len+1)*5 by omega] at this
  have:=key q0 o hRd
  rwa [hi0] at this
 have HQ0:Hid (x.s=q0.app f0):=hq0
 have HSL:Hid (x.s.len=i0+f0.len):=by show _=_;rw [hq0,Fo.len_app,hi0]
 clear hC a1 hX hab hRd hF hq0 hi0
 go_enter Tryz.func141,Tryz.ntmps141
 go_upto_region 1 with fail
 clear hW1
 go_wp2
 go_loopw [7,8] (fun nv i wr=>∃(j:Nat) (q fi:Fo) (l:Fm),i = .int .i64 j∧fi.len+j=x.s.len∧Hid (l.len+i0=j)∧Hid (x.s=q.app fi)∧Hid (Rd W b (o+j*5) fi)∧Hid (FTree wr (w.heap.size+1) nv l)∧Hid (Ctx W wr B pb mb ps)∧Hid (KP B (isP pb) w wr)∧Hid (wr.heap[w.heap.size]?=some (.cells #[.int .u8 x.k, .int .i64 x.n,S x.t, .slice rk x.s.len ck, .bool x.d] 32 (0,0)))∧Hid (formsM (formM K true) i0 f0=behindF l (formsM (formM K true) j fi))) (fun _ i _=>x.s.len-(intOf i).toNat)
 case atStart=>exact ⟨i0,q0,f0, .nil,rfl,by have:=HSL.out;omega,by show 0+i0=i0;omega,HQ0.out,HRd.out,FTree.nil _ _,HC1.out,HK1.out,HQ1.out,by show _=_;rw [behindF_nil]⟩
 case round =>
  obtain ⟨j,q,fi,l,rfl,hj,HLL,HXq,HFr,HT,HC,HK,HQ,HE⟩:=hrel
  obtain ⟨c0,c1,c2,c3,c4,_⟩:=cells5 HQ.out
  obtain ⟨ra,cv,rfl⟩:=HT.out.slice
  cases fi with
  | nil =>
   have hj' : j=x.s.len:=by simpa [Fo.len] using hj
   have k1:¬ ((j:Int)<(x.s.len:Int)):=by omega
   clear hj hj'
   go_wp2
   go_ret
   rw [HE.out,show formsM (formM K true) j .nil = .ok .nil from rfl]
   exact Gone.ok ⟨_,rfl,by rw [Fm.app_nil];exact HT.out.mono (Nat.le_succ _)⟩ HC.out.px HK.out
  | cons k n t s d r =>
   simp only [Fo.len] at hj
   have k1:(j:Int)<(x.s.len:Int):=by omega
   have hra:=Hra.out (by omega)
   subst hra
   obtain ⟨hb0,hsl0,rk2,ck2,d0,d1,d2,d3,d4,hrs,hr⟩:=rd_cons HFr.out
   have HRk:Hid (RS W rk2 s):=hrs
   have Hr:Hid (Rd W b (o+j*5+5) r):=hr
   have HOk:Hid (DOk ⟨k,n,t,s,d⟩):=HX.out.kid HXq.out
   have HDp:Hid (s.dpt+1≤K):=by
    have:=Fo.dpt_app (k:=k) (n:=n) (t:=t) (s:=s) (d:=d) (r:=r) q
    have h2:=HXq.out
    show _≤_
    rw [←h2] at this;omega
   have HD0:Hid (W.cell? ⟨b,o+j*5,none⟩=some (.int .u8 k)∧W.cell? ⟨b,o+j*5+1,none⟩=some (.int .i64 n)∧W.cell? ⟨b,o+j*5+1+1,none⟩=some (S t)∧W.cell? ⟨b,o+j*5+1+1+1,none⟩=some (.slice rk2 s.len ck2)∧W.cell? ⟨b,o+j*5+1+1+1+1,none⟩=some (.bool d)∧b<W.heap.size):=⟨d0,d1,d2,d3,d4,hb0⟩
   have hst:=forms_step (formM K true) l j k n t s d r
   rw [←HE.out] at hst
   have HST:Hid _:=hst
   have hpb:=HPB.out
   have hws:w.heap.size<wr.heap.size:=(Array.getElem?_eq_some_iff.1 HQ.out).1
   clear d0 d1 d2 d3 d4 hrs hr hst hb0
   cases hx:formM K true ⟨k,n,t,s,d⟩ with
   | bad er p =>
    have HNW:Hid (formM K true ⟨k,n,t,s,d⟩ = .bad er p):=hx
    have HR:Hid (formsM (formM K true) i0 f0 = .bad er (j::p)):=by show _=_;rw [HST.out,hx]
    clear hx
    go_wp2_with fail
    refine (enter_any B pb mb ps j wr HC.out.px (by omega) (by have:=HC.out.px.hB;have:=HC.out.px.lt;omega)).mono ?_
    rintro e w4 ⟨⟨v4,rfl⟩,hp4,hk4⟩
    have q4:=hk4.at HQ.out (by decide) (by show ¬ _=pb;omega)
    have HC4:Hid (Ctx W w4 B pb mb (ps++[(j:Int)])):=HC.out.kpp hk4 hp4
    have HK4:Hid (KP B (isP pb) w w4):=HK.out.trans hk4
    clear hp4 hk4 c0 c1 c2 c3 c4
    obtain ⟨c0,c1,c2,c3,c4,_⟩:=cells5 q4
    have bel:=HC4.out.hW
    obtain ⟨d0,d1,d2,d3,d4,hb0⟩:=HD0.out
    have e0:=(bel.cell (p:=⟨b,_,none⟩) hb0).trans d0
    have e1:=(bel.cell (p:=⟨b,_,none⟩) hb0).trans d1
    have e2:=(bel.cell (p:=⟨b,_,none⟩) hb0).trans d2
    have e3:=(bel.cell (p:=⟨b,_,none⟩) hb0).trans d3
    have e4:=(bel.cell (p:=⟨b,_,none⟩) hb0).trans d4
    clear q4 bel d0 d1 d2 d3 d4
    go_wp2_with fail
    refine (HF.out W w4 B pb mb (ps++[(j:Int)]) ⟨k,n,t,s,d⟩ rk2 ck2 HC4.out (by simp;omega) HOk.out HDp.out HRk.out).mono ?_
    rw [show (!(ps++[(j:Int)]).isEmpty)=true by simp,HNW.out]
    rintro e w5 ⟨v5,rfl,h1,h2⟩
    go_wp2_with fail
    refine ⟨rfl,?_⟩
    rw [HR.out]
    exact GaveUp.elder (GaveUp.cast ⟨v5,rfl,h1,h2⟩ (by simp)) HK4.out
   | ok a =>
    have HNW:Hid (formM K true ⟨k,n,t,s,d⟩ = .ok a):=hx
    have HST2:Hid (formsM (formM K true) i0 f0=behindF (l.app (a.fm .nil)) (formsM (formM K true) ((j:Int)+1) r)):=by show _=_;rw [HST.out,hx]
    clear hx
    go_wp2_with fail
    refine (enter_any B pb mb ps j wr HC.out.px (by omega) (by have:=HC.out.px.hB;have:=HC.out.px.lt;omega)).mono ?_
    rintro e w4 ⟨⟨v4,rfl⟩,hp4,hk4⟩
    have q4:=hk4.at HQ.out (by decide) (by show ¬ _=pb;omega)
    have HQ4:Hid _:=q4
    have HC4:Hid (Ctx W w4 B pb mb (ps++[(j:Int)])):=HC.out.kpp hk4 hp4
    have HK4:Hid (KP B (isP pb) w w4):=HK.out.trans hk4
    have HT4:Hid (FTree w4 (w.heap.size+1) (.slice ra l.len cv) l):=HT.out.keep hk4 (fun g h1 _=>by show ¬ _=pb;omega)
    have hs4:=hk4.size
    clear hp4 hk4 c0 c1 c2 c3 c4
    obtain ⟨c0,c1,c2,c3,c4,_⟩:=cells5 q4
    have bel:=HC4.out.hW
    obtain ⟨d0,d1,d2,d3,d4,hb0⟩:=HD0.out
    have e0:=(bel.cell (p:=⟨b,_,none⟩) hb0).trans d0
    have e1:=(bel.cell (p:=⟨b,_,none⟩) hb0).trans d1
    have e2:=(bel.cell (p:=⟨b,_,none⟩) hb0).trans d2
    have e3:=(bel.cell (p:=⟨b,_,none⟩) hb0).trans d3
    have e4:=(bel.cell (p:=⟨b,_,none⟩) hb0).trans d4
    clear q4 bel d0 d1 d2 d3 d4
    go_wp2_with fail
    refine (HF.out W w4 B pb mb (ps++[(j:Int)]) ⟨k,n,t,s,d⟩ rk2 ck2 HC4.out (by simp;omega) HOk.out HDp.out HRk.out).mono ?_
    rw [show (!(ps++[(j:Int)]).isEmpty)=true by simp,HNW.out]
    rintro e w5 ⟨⟨nv,kv,dv,nbs,rfl,hone⟩,hp5,hk5⟩
    obtain ⟨b1,g1,b2,g2,b3,g3,rfl,rfl,rfl⟩:=hone.slices
    have hs5:=hk5.size
    have HQ5:Hid (w5.heap[w.heap.size]?=some (.cells #[.int .u8 x.k, .int .i64 x.n,S x.t, .slice (some ⟨b,o,none⟩) x.s.len ck, .bool x.d] 32 (0,0))):=hk5.at HQ4.out (by decide) (by show ¬ _=pb;omega)
    have HC5:Hid (Ctx W w5 B pb mb (ps++[(j:Int)])):=HC4.out.kpp hk5 hp5
    have HK5:Hid (KP B (isP pb) w w5):=HK4.out.trans hk5
    have HT5:Hid (FTree w5 (w.heap.size+1) (.slice ra l.len cv) l):=HT4.out.keep hk5 (fun g h1 _=>by show ¬ _=pb;omega)
    obtain ⟨cs,bs,ho4,hrr4,hnd⟩:=HT4.out.ex
    have Hlt:Hid (∀y∈own1 (.slice ra l.len cv)++bs,y<w4.heap.size∧w.heap.size+1≤y):=by
     show ∀y∈own1 (.slice ra l.len cv)++bs,_
     intro y hy
     rcases List.mem_append.1 hy with h|h
     ·exact (ho4.lt y (mem_own1.1 h)).symm
     ·exact (hrr4.lt y h).symm
    have Ho5:Hid (w5.ownsRow (w.heap.size+1) 36 9 (.slice ra l.len cv) l.len cs):=hk5.own ho4 (by decide) (fun g hg=>by have:=(ho4.lt g hg).1;show ¬ _=pb;omega)
    have Hr5:Hid (FRow w5 (w.heap.size+1) l cs bs):=hrr4.kept (fun g hg=>hk5.block g (hrr4.lt g hg).2 (by have:=(hrr4.lt g hg).1;show ¬ _=pb;omega) (.inr (hrr4.not g hg)))
    have Hnd:Hid (own1 (.slice ra l.len cv)++bs).Nodup:=hnd
    have Hone:Hid (FOne w5 w4.heap.size a (.slice b1 a.names.length g1) (.slice b2 a.kids.len g2) (.slice b3 a.dat.s.len g3) nbs):=hone
    clear hp5 hk5 c0 c1 c2 c3 c4 e0 e1 e2 e3 e4 hone ho4 hrr4 hnd
    go_wp2_with (at_builtin;refine stop_of ?_)
    unfold Hid
    refine wpList_append_lies _ rfl _ _ 34 rfl (w.heap.size+1) 36 i1 (.agg #[.int .u8 0, .string ⟨#[]⟩, .slice none 0 0, .slice none 0 0, .int .u8 0, .int .i64 0, .string ⟨#[]⟩, .slice none 0 0, .bool false]) 9 136 Tryz.underlying34 hi1 hz0 hz1 hz2 rfl (by decide) (.slice ra l.len cv) l.len cs rfl (World.ownsRow.alloc Ho5.out _) ⟨w5.heap.size,0,none⟩ 1 1 [.int .u8 a.kind,S a.text, .slice b1 a.names.length g1, .slice b2 a.kids.len g2, .int .u8 a.dat.k, .int .i64 a.dat.n,S a.dat.t, .slice b3 a.dat.s.len g3, .bool a.dat.d] rfl rfl (fun j' u hu=>?_) Hone.out.fm.one (by have:=HLL.out;omega) (by have:=HLL.out;unfold maxLen;omega) (by have:=HLL.out;omega) (by rw [World.size_alloc];omega) _ rfl ?_
    ·rw [ad_add,Nat.zero_add]
     exact new_cell w5 _ _ j' u (by simpa using hu)
    intro g cp w6 hown hgr hat hl6
    have a6:=(Below.refl _ w5).alloc (Nat.le_refl w5.heap.size) (Z9 a (.slice b1 a.names.length g1) (.slice b2 a.kids.len g2) (.slice b3 a.dat.s.len g3))
    have hoa:=World.ownsRow.alloc Ho5.out (Z9 a (.slice b1 a.names.length g1) (.slice b2 a.kids.len g2) (.slice b3 a.dat.s.len g3))
    have hsl6:=a6.size
    have HT6:Hid (FTree w6 (w.heap.size+1) (.slice (some ⟨g,0,none⟩) (l.len+1) cp) (l.app (a.fm .nil))) :=
     ftree_append (Hr5.out.kept fun g hg=>a6.block g (Hr5.out.lt g hg).2) Hnd.out ((Hone.out.fm.kept fun g hg=>a6.block g (Hone.out.lt g hg).2).mono (by omega)) Hone.out.nodup (fun y hy hm=>by have h1:=(Hone.out.lt y hy).1;have h2:=(Hlt.out y hm).1;omega) rfl rfl hown hgr (hat.imp (fun h=>h.symm) (fun h=>by rw [h];rfl))
    have HC6:Hid (Ctx W w6 B pb mb (ps++[(j:Int)])):=by
     have h1:=HC5.out.same a6
     refine ⟨h1.hW.trans ⟨hgr.os,hgr.tape,hgr.output,hgr.size,fun k hk=>hgr.block k (Nat.lt_of_lt_of_le hk h1.hW.size) (fun e=>?_)⟩,h1.hB,h1.env,h1.px.own hoa (by decide) (by decide) hgr⟩
     have:=(hoa.lt k e.symm).1
     have:=h1.hB
     omega
    have HK6:Hid (KP B (isP pb) w w6):=(HK5.out.trans (KP.of a6)).row hoa (by omega) hgr
    have HQ6:Hid (w6.heap[w.heap.size]?=some (.cells #[.int .u8 x.k, .int .i64 x.n,S x.t, .slice (some ⟨b,o,none⟩) x.s.len ck, .bool x.d] 32 (0,0))):=(hgr.block _ (by rw [World.size_alloc];omega) (fun e=>by have:=(hoa.lt _ e.symm).1;omega)).trans ((a6.block _ (by omega)).trans HQ5.out)
    clear hown hgr hat hl6 a6 hoa hsl6
    go_wp2_with fail
    refine (leave_any B pb mb ps j w6 HC6.out.px (by omega)).mono ?_
    rintro e w7 ⟨⟨v7,rfl⟩,hp7,hk7⟩
    have HC7:Hid (Ctx W w7 B pb mb ps):=HC6.out.kpp hk7 hp7
    have HK7:Hid (KP B (isP pb) w w7):=HK6.out.trans hk7
    have HT7:Hid (FTree w7 (w.heap.size+1) (.slice (some ⟨g,0,none⟩) (l.len+1) cp) (l.app (a.fm .nil))):=HT6.out.keep hk7 (fun g h1 _=>by show ¬ _=pb;omega)
    have HQ7:Hid (w7.heap[w.heap.size]?=some (.cells #[.int .u8 x.k, .int .i64 x.n,S x.t, .slice (some ⟨b,o,none⟩) x.s.len ck, .bool x.d] 32 (0,0))):=hk7.at HQ6.out (by decide) (by show ¬ _=pb;omega)
    clear hp7 hk7
    go_wp2_with fail
    go_roundw
    case rel=>exact ⟨j+1,q.app (.cons k n t s d .nil),r,l.app (a.fm .nil),by go_num,by omega,by show _=_;rw [Fm.len_app];have:=HLL.out;simp only [Frm.len1];omega,by show _=_;rw [app_cons];exact HXq.out,by rw [show o+(j+1)*5=o+j*5+5 by omega];exact Hr.out,HT7.out,HC7.out,HK7.out,HQ7.out,by show _=_;rw [HST2.out];rfl⟩
    case measure=>simp [intOf];omega
theorem cells9 {W:World} {b:Nat} {a0 a1 a2 a3 a4 a5 a6 a7 a8:Value} {t:TypeId} (h:W.heap[b]?=some (.cells #[a0,a1,a2,a3,a4,a5,a6,a7,a8] t (0,0))) :
  (W.cell? ⟨b,0,none⟩=some a0∧W.cell? ⟨b,1,none⟩=some a1∧W.cell? ⟨b,2,none⟩=some a2∧W.cell? ⟨b,3,none⟩=some a3∧W.cell? ⟨b,4,none⟩=some a4∧W.cell? ⟨b,5,none⟩=some a5∧W.cell? ⟨b,6,none⟩=some a6∧W.cell? ⟨b,7,none⟩=some a7∧W.cell? ⟨b,8,none⟩=some a8)∧∀j,W.frozen? ⟨b,j,none⟩=false:=by
 refine ⟨⟨?_,?_,?_,?_,?_,?_,?_,?_,?_⟩,fun j=>?_⟩<;>simp [World.cell?,World.frozen?,h]
abbrev F9:Obj := .cells #[.int .u8 0, .string ⟨#[]⟩, .slice none 0 0, .slice none 0 0, .int .u8 0, .int .i64 0, .string ⟨#[]⟩, .slice none 0 0, .bool false] 36
def nine (b:Nat) (W:World) (v0 v1 v2 v3 v4 v5 v6 v7 v8:Value):World:=(((((((((W.setCell ⟨b,0,none⟩ v0).setCell ⟨b,1,none⟩ v1).setCell ⟨b,2,none⟩ v2).setCell ⟨b,3,none⟩ v3).setCell ⟨b,4,none⟩ v4).setCell ⟨b,5,none⟩ v5).setCell ⟨b,6,none⟩ v6).setCell ⟨b,7,none⟩ v7).setCell ⟨b,8,none⟩ v8)
theorem nine_at {W:World} {b:Nat} {a0 a1 a2 a3 a4 a5 a6 a7 a8:Value} {t:TypeId} (h:W.heap[b]?=some (.cells #[a0,a1,a2,a3,a4,a5,a6,a7,a8] t (0,0))) (v0 v1 v2 v3 v4 v5 v6 v7 v8:Value):(nine b W v0 v1 v2 v3 v4 v5 v6 v7 v8).heap[b]?=some (.cells #[v0,v1,v2,v3,v4,v5,v6,v7,v8] t (0,0)):=by
 have k:=set_atC (j:=8) (set_atC (j:=7) (set_atC (j:=6) (set_atC (j:=5) (set_atC (j:=4) (set_atC (j:=3) (set_atC (j:=2) (set_atC (j:=1) (set_atC (j:=0) h v0) v1) v2) v3) v4) v5) v6) v7) v8
 unfold nine
 rw [k]
 simp
theorem nine_other {W:World} {b g:Nat} (hg:g≠b) (v0 v1 v2 v3 v4 v5 v6 v7 v8:Value):(nine b W v0 v1 v2 v3 v4 v5 v6 v7 v8).heap[g]?=W.heap[g]?:=by
 unfold nine
 rw [Below.heap_setCell _ _ _ _ hg,Below.heap_setCell _ _ _ _ hg,Below.heap_setCell _ _ _ _ hg,Below.heap_setCell _ _ _ _ hg,Below.heap_setCell _ _ _ _ hg,Below.heap_setCell _ _ _ _ hg,Below.heap_setCell _ _ _ _ hg,Below.heap_setCell _ _ _ _ hg,Below.heap_setCell _ _ _ _ hg]
theorem results9 {fn:Func} {tmps:Array Value} {s b:Nat} {v0 v1 v2 v3 v4 v5 v6 v7 v8:Value} {W:World} (hres:fn.results = #[.cell s 36]) (hs:tmps[s]?=some (.pointer (some ⟨b,0,none⟩)))
  (h:W.heap[b]?=some (.cells #[v0,v1,v2,v3,v4,v5,v6,v7,v8] 36 (0,0))):(results fn tmps).run Tryz.prog W = .ok (.agg #[v0,v1,v2,v3,v4,v5,v6,v7,v8]) W:=by
 obtain ⟨⟨y0,y1,y2,y3,y4,y5,y6,y7,y8⟩,_⟩:=cells9 h
 obtain ⟨hlt,he⟩:=Array.getElem?_eq_some_iff.1 hs
 simp [results,hres,go_sem,y0,y1,y2,y3,y4,y5,y6,y7,y8,hlt,he]
structure Nine (w6 W9:World) (b:Nat):Prop where
 other:∀g,g≠b→W9.heap[g]?=w6.heap[g]?
 size:W9.heap.size=w6.heap.size
 os:W9.os=w6.os
 tape:W9.tape=w6.tape
 output:W9.output=w6.output
theorem Nine.refl (w:World) (b:Nat):Nine w w b:=⟨fun _ _=>rfl,rfl,rfl,rfl,rfl⟩
theorem Nine.set {w W:World} {b:Nat} (h:Nine w W b) (i:Nat) (v:Value):Nine w (W.setCell ⟨b,i,none⟩ v) b :=
 ⟨fun g hg=>(Below.heap_setCell _ _ _ _ hg).trans (h.other g hg),(World.size_setCell ..).trans h.size,h.os,h.tape,h.output⟩
theorem nine_nine (b:Nat) (w6:World) (v0 v1 v2 v3 v4 v5 v6 v7 v8:Value):Nine w6 (nine b w6 v0 v1 v2 v3 v4 v5 v6 v7 v8) b:=(((((((((Nine.refl w6 b).set 0 v0).set 1 v1).set 2 v2).set 3 v3).set 4 v4).set 5 v5).set 6 v6).set 7 v7).set 8 v8
theorem bodyPost_nine {fn:Func} {R:Ending→World→Prop} {a:Act} {s b:Nat} {w6:World} {a0 a1 a2 a3 a4 a5 a6 a7 a8 v0 v1 v2 v3 v4 v5 v6 v7 v8:Value} (hres:fn.results = #[.cell s 36]) (hs:a.tmps[s]?=some (.pointer (some ⟨b,0,none⟩))) (hd:a.defers=[])
  (h:w6.heap[b]?=some (.cells #[a0,a1,a2,a3,a4,a5,a6,a7,a8] 36 (0,0))) (hR:∀W9:World,Nine w6 W9 b→R (.returned (.agg #[v0,v1,v2,v3,v4,v5,v6,v7,v8])) W9) :
  bodyPost Tryz.prog fn R .ret a (((((((((w6.setCell ⟨b,0,none⟩ v0).setCell ⟨b,1,none⟩ v1).setCell ⟨b,2,none⟩ v2).setCell ⟨b,3,none⟩ v3).setCell ⟨b,4,none⟩ v4).setCell ⟨b,5,none⟩ v5).setCell ⟨b,6,none⟩ v6).setCell ⟨b,7,none⟩ v7).setCell ⟨b,8,none⟩ v8):=by
 have h9:=nine_at h v0 v1 v2 v3 v4 v5 v6 v7 v8
 have o9:Nine w6 (nine b w6 v0 v1 v2 v3 v4 v5 v6 v7 v8) b:=(((((((((Nine.refl w6 b).set 0 v0).set 1 v1).set 2 v2).set 3 v3).set 4 v4).set 5 v5).set 6 v6).set 7 v7).set 8 v8
 unfold nine at h9 o9
 generalize ((((((((w6.setCell ⟨b,0,none⟩ v0).setCell ⟨b,1,none⟩ v1).setCell ⟨b,2,none⟩ v2).setCell ⟨b,3,none⟩ v3).setCell ⟨b,4,none⟩ v4).setCell ⟨b,5,none⟩ v5).setCell ⟨b,6,none⟩ v6).setCell ⟨b,7,none⟩ v7).setCell ⟨b,8,none⟩ v8=W9 at h9 o9 ⊢
 exact ⟨hd,_,results9 hres hs h9,hR W9 o9⟩
def RowC (_ w:World) (B pb mb:Nat) (ps:List Int) (x:Dt) (rk:Option Addr) (ck:Nat) (fn:Nat) (r:PR Frm):Prop :=
 Calls Tryz.prog fn #[.pointer (some ⟨pb,0,none⟩),datV x (.slice rk x.s.len ck)] w (Gone B (isP pb) pb mb ps w r (OutF w))
structure HdX (X:Nat→Prop) (W w wr:World) (B pb mb:Nat) (ps:List Int) (x:Dt) (v:Value):Prop where
 c:Ctx W wr B pb mb ps
 k:KP B X w wr
 q0:wr.heap[w.heap.size]?=some (.cells #[.int .u8 x.k, .int .i64 x.n,S x.t,v, .bool x.d] 32 (0,0))
 q1:wr.heap[w.heap.size+1]?=some (.cells #[.int .u8 0, .string ⟨#[]⟩, .slice none 0 0, .slice none 0 0, .int .u8 0, .int .i64 0, .string ⟨#[]⟩, .slice none 0 0, .bool false] 36 (0,0))
 ltx:∀g,X g→B≤g∧g<w.heap.size
 lt:pb<w.heap.size
abbrev Hd (W w wr:World) (B pb mb:Nat) (ps:List Int) (x:Dt) (v:Value):Prop:=HdX (isP pb) W w wr B pb mb ps x v
theorem HdX.new {X:Nat→Prop} {W w:World} {B pb mb:Nat} {ps:List Int} (hC:Ctx W w B pb mb ps) (hx:∀g,X g→B≤g∧g<w.heap.size) (x:Dt) (v:Value):HdX X W w ((w.alloc (boxD x v)).alloc F9) B pb mb ps x v:=by
 have hb:=((Below.refl _ w).alloc (Nat.le_refl w.heap.size) (boxD x v)).alloc (by simp) F9
 refine ⟨hC.same hb,KP.of hb,(Below.heap_alloc _ _ _ (by simp)).trans (World.alloc_heap_new _ _),?_,hx,hC.px.lt⟩
 have:=World.alloc_heap_new (w.alloc (boxD x v)) F9
 rwa [World.size_alloc] at this
theorem Hd.new {W w:World} {B pb mb:Nat} {ps:List Int} (hC:Ctx W w B pb mb ps) (x:Dt) (v:Value):Hd W w ((w.alloc (boxD x v)).alloc F9) B pb mb ps x v:=HdX.new hC (fun g hg=>by rw [show g=pb from hg];exact ⟨hC.px.hB,hC.px.lt⟩) x v
theorem HdX.step {X:Nat→Prop} {W w wr w' : World} {B pb mb:Nat} {ps ps' : List Int} {x:Dt} {v:Value} (h:HdX X W w wr B pb mb ps x v) (hp:PX w' B pb mb ps') (hk:KP B X wr w'):HdX X W w w' B pb mb ps' x v :=
 ⟨h.c.kp hk (fun g hg=>(h.ltx g hg).1) hp,h.k.trans hk,hk.at h.q0 (by decide) (fun hx=>by have:=h.ltx _ hx;omega),hk.at h.q1 (by decide) (fun hx=>by have:=h.ltx _ hx;omega),h.ltx,h.lt⟩
theorem kp_at {B b:Nat} {X:Nat→Prop} {w a c:World} (h:KP B X w a) (hs:c.heap.size=a.heap.size) (hb:∀g,g≠b→c.heap[g]?=a.heap[g]?) (hn:w.heap.size≤b) (o1:c.os=a.os) (o2:c.tape=a.tape) (o3:c.output=a.output):KP B X w c :=
 h.fresh (by omega) (fun g hg=>hb g (by omega)) o1 o2 o3
theorem row_end {W w w5 W9:World} {B pb mb:Nat} {ps:List Int} {x:Dt} {v:Value} {f:Frm} {nv kv dv:Value} {bs:List Nat} (h:Hd W w w5 B pb mb ps x v) (ho:FOne w5 (w.heap.size+2) f nv kv dv bs) (h9:Nine w5 W9 (w.heap.size+1)) :
  Gone B (isP pb) pb mb ps w (.ok f) (OutF w) (.returned (frmV f nv kv dv)) W9:=by
 have hlt:=h.lt
 refine Gone.ok ⟨nv,kv,dv,bs,rfl,(ho.kept fun g hg=>h9.other g (by have:=(ho.lt g hg).1;omega)).mono (by omega)⟩ ?_ (kp_at h.k h9.size h9.other (by omega) h9.os h9.tape h9.output)
 refine h.c.px.grown (m:=w.heap.size+1) (fun g _ hg=>h9.other g hg) (by omega) ?_ ?_
 ·rintro rfl
  obtain ⟨n,hn⟩:=h.c.px.mf
  obtain ⟨es,c,hm⟩:=hn.map
  have:=h.q1
  rw [hm] at this;cases this
 ·rintro ⟨c,f', q⟩
  have:=h.q1
  rw [this] at q;cases q
theorem one_nk {w:World} {base c:Nat} {f:Frm} (hd0:f.dat.s = .nil) {nv kv:Value} (h1:w.ownsRow base 9 1 nv f.names.length (f.names.map S)) (hlt:∀g,nv.ownBlock=some g→g<c) (h2:FTree w c kv f.kids) (hc:base≤c):∃bs,FOne w base f nv kv (.slice none 0 0) bs:=by
 obtain ⟨kcs,kbs,a1,a2,a3⟩:=h2.ex
 refine ⟨own1 nv++(own1 kv++kbs)++(own1 (.slice none 0 0)++[]),⟨kcs,kbs,[],[],rfl,h1,⟨own_mono a1 hc,a2.mono hc⟩,?_⟩,?_⟩
 ·rw [hd0];exact ⟨World.ownsRow_nil _ _ _ _,rfl,rfl⟩
 ·rw [own1_nil,List.append_nil,List.append_nil]
  refine nodup_cut (c:=c) (own1_nodup _) a3 (fun g hg=>hlt g (mem_own1.1 hg)) (fun g hg=>?_)
  rcases List.mem_append.1 hg with h|h
  ·exact (a1.lt g (mem_own1.1 h)).1
  ·exact (a2.lt g h).1
theorem one_d {w:World} {base:Nat} {f:Frm} (hn:f.names=[]) (hk:f.kids = .nil) {dv:Value} (h:Tree w base dv f.dat.s):∃bs,FOne w base f (.slice none 0 0) (.slice none 0 0) dv bs:=by
 obtain ⟨dcs,dbs,a1,a2,a3⟩:=h.ex
 refine ⟨own1 (.slice none 0 0)++(own1 (.slice none 0 0)++[])++(own1 dv++dbs),⟨[],[],dcs,dbs,rfl,?_,?_,a1,a2⟩,?_⟩
 ·rw [hn];exact World.ownsRow_nil _ _ _ _
 ·rw [hk];exact ⟨World.ownsRow_nil _ _ _ _,rfl,rfl⟩
 ·rw [own1_nil,List.nil_append,List.nil_append];exact a3
end Go.Proofs.YtkgnigloboajcaaGreatDoor
