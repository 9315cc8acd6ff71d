/- A name more.; Where the parser stands among what it reads.; The names of a lambda's list. -/
import Derived.Test.YtkgnigloboajcaaGreatDoorK19
set_option maxRecDepth 100000
set_option maxHeartbeats 8000000
namespace Go.Proofs.YtkgnigloboajcaaGreatDoor
open Go.RowKit Go.Maps Go.ChangeMaps
abbrev isPM (pb m:Nat):Nat→Prop:=fun g=>g=pb∨g=m
theorem newM_eq (l:List (List UInt8)) (k:Int) (t:List UInt8):newM l k t=(variM k t).then fun a=>if a∈l then .bad 72 [] else .ok a:=by
 unfold newM variM
 split
 ·rfl
 ·rfl
theorem newVar_any (B pb mb m n:Nat) (ps:List Int) (x:Dt) (v:Value) (l:List (List UInt8)) (w:World) (hP:PX w B pb mb ps) (hl:ps.length≤1000000) (hv:∃rk ck,v = .slice rk x.s.len ck) (hE:Env w) (ht:x.t.length≤281474976710656)
  (hM:NM w m n l) (hn:n≤1000000) (hmb:m≠mb) :
  Calls Tryz.prog 169 #[.pointer (some ⟨pb,0,none⟩),datV x v, .map (some m)] w (Gone B (isPM pb m) pb mb ps w (newM l x.k x.t) fun a e w' => e = .returned (S a)∧NM w' m (n+1) (l++[a])):=by
 obtain ⟨rk,ck,rfl⟩:=hv
 have hpm:pb≠m:=by
  obtain ⟨es,c,hm⟩:=hM.map
  obtain ⟨v,hv,_⟩:=hP.ex
  rintro rfl;rw [hm] at hv;cases hv
 obtain ⟨W,hW⟩:∃W,w.alloc (boxD x (.slice rk x.s.len ck))=W:=⟨_,rfl⟩
 have a1:=(Below.refl _ w).alloc (Nat.le_refl w.heap.size) (boxD x (.slice rk x.s.len ck))
 have HPW:Hid (PX W B pb mb ps):=by rw [←hW];exact hP.same a1
 have HMW:Hid (NM W m n l):=by rw [←hW];exact hM.kept (a1.block _ hM.lt)
 have HB:Hid (Below w.heap.size w W):=by rw [←hW];exact a1
 have HE:Hid (Env W):=by rw [←hW];exact hE.below a1
 have q0:W.heap[w.heap.size]?=some (.cells #[.int .u8 x.k, .int .i64 x.n,S x.t, .slice rk x.s.len ck, .bool x.d] 32 (0,0)):=by rw [←hW];exact World.alloc_heap_new _ _
 obtain ⟨c0,c1,c2,c3,c4,_⟩:=cells5 q0
 rw [newM_eq]
 clear hP hE hM a1 q0
 cases hx:variM x.k x.t with
 | bad er p =>
  have HX:Hid (variM x.k x.t = .bad er p):=hx
  rw [show ((PR.bad er p:PR (List UInt8)).then fun a=>if a∈l then .bad 72 [] else .ok a) = .bad er p from rfl]
  clear hx
  go_enter Tryz.func169,Tryz.ntmps169
  go_upto_region 1 with fail
  clear hW
  go_wp2_with fail
  refine (variable_any B pb mb ps x (.slice rk x.s.len ck) W HPW.out hl ⟨_,_,rfl⟩ HE.out ht).mono ?_
  rw [HX.out]
  rintro e w1 ⟨v', rfl,h1,h2⟩
  go_wp2_with fail
  exact ⟨rfl,GaveUp.elder ⟨v', rfl,h1,h2.mono fun g _ h => .inl h⟩ (KP.of HB.out)⟩
 | ok a =>
  have HX:Hid (variM x.k x.t = .ok a):=hx
  have Ha:Hid (a=x.t):=by
   show _=_
   unfold variM at hx
   split at hx
   ·cases hx
   ·cases hx;rfl
  rw [show ((PR.ok a:PR (List UInt8)).then fun a=>if a∈l then .bad 72 [] else .ok a)=if a∈l then .bad 72 [] else .ok a from rfl]
  clear hx
  by_cases hin:a∈l
  ·rw [if_pos hin]
   have HI:Hid (decide (a∈l)=true):=decide_eq_true hin
   clear hin
   go_enter Tryz.func169,Tryz.ntmps169
   go_upto_region 1 with fail
   clear hW
   go_wp2_with fail
   refine (variable_any B pb mb ps x (.slice rk x.s.len ck) W HPW.out hl ⟨_,_,rfl⟩ HE.out ht).mono ?_
   rw [HX.out]
   rintro e w1 ⟨rfl,hP1,hk1⟩
   have HP1:Hid (PX w1 B pb mb ps):=hP1
   have HK1:Hid (KP B (isP pb) w w1):=(KP.of HB.out).trans hk1
   have HM1:Hid (NM w1 m n l):=HMW.out.kept (hk1.block _ HMW.out.lt (fun h=>hpm h.symm) (.inr HMW.out.notInt))
   clear hP1 hk1
   go_wp2_with fail
   refine (add_set w1 m n l a HM1.out hn (by rw [Ha.out];exact ht)).mono ?_
   rintro e w2 ⟨rfl,hm2,hs2,hb2,o2⟩
   have HP2:Hid (PX w2 B pb mb ps):=HP1.out.grown hb2 hpm (fun h=>hmb h.symm) HM1.out.notInt
   have HK2:Hid (KP B (isPM pb m) w w2):=(HK1.out.mono fun g _ h => .inl h).trans ⟨o2.1,o2.2.1,o2.2.2,hs2,fun g h1 h2 _=>hb2 g h1 (fun e=>h2 (.inr e))⟩
   rw [HI.out]
   clear hm2 hs2 hb2 o2
   go_wp2_with fail
   refine (giveUp_any B pb mb ps 72 w2 HP2.out hl).mono ?_
   rintro e w3 ⟨v', rfl,h1,h2⟩
   go_wp2_with fail
   exact ⟨rfl,(GaveUp.elder ⟨v', rfl,h1,h2.mono fun g _ h => .inl h⟩ HK2.out).cast (by simp)⟩
  ·rw [if_neg hin]
   have HI:Hid (decide (a∈l)=false):=decide_eq_false hin
   clear hin
   go_enter Tryz.func169,Tryz.ntmps169
   go_upto_region 1 with fail
   clear hW
   go_wp2_with fail
   refine (variable_any B pb mb ps x (.slice rk x.s.len ck) W HPW.out hl ⟨_,_,rfl⟩ HE.out ht).mono ?_
   rw [HX.out]
   rintro e w1 ⟨rfl,hP1,hk1⟩
   have HP1:Hid (PX w1 B pb mb ps):=hP1
   have HK1:Hid (KP B (isP pb) w w1):=(KP.of HB.out).trans hk1
   have HM1:Hid (NM w1 m n l):=HMW.out.kept (hk1.block _ HMW.out.lt (fun h=>hpm h.symm) (.inr HMW.out.notInt))
   clear hP1 hk1
   go_wp2_with fail
   refine (add_set w1 m n l a HM1.out hn (by rw [Ha.out];exact ht)).mono ?_
   rintro e w2 ⟨rfl,hm2,hs2,hb2,o2⟩
   have HP2:Hid (PX w2 B pb mb ps):=HP1.out.grown hb2 hpm (fun h=>hmb h.symm) HM1.out.notInt
   have HK2:Hid (KP B (isPM pb m) w w2):=(HK1.out.mono fun g _ h => .inl h).trans ⟨o2.1,o2.2.1,o2.2.2,hs2,fun g h1 h2 _=>hb2 g h1 (fun e=>h2 (.inr e))⟩
   have HM2:Hid (NM w2 m (n+1) (l++[a])):=hm2
   rw [HI.out]
   clear hm2 hs2 hb2 o2
   go_wp2
   go_ret
   exact Gone.ok ⟨rfl,HM2.out⟩ HP2.out HK2.out
structure Ctx (W w:World) (B pb mb:Nat) (ps:List Int):Prop where
 hW:Below W.heap.size W w
 hB:W.heap.size≤B
 env:Env W
 px:PX w B pb mb ps
theorem Ctx.envw {W w:World} {B pb mb:Nat} {ps:List Int} (h:Ctx W w B pb mb ps):Env w:=h.env.below h.hW
theorem Ctx.same {W w w' : World} {B pb mb:Nat} {ps:List Int} (h:Ctx W w B pb mb ps) (hb:Below w.heap.size w w'):Ctx W w' B pb mb ps:=⟨h.hW.trans (hb.mono h.hW.size),h.hB,h.env,h.px.same hb⟩
theorem Ctx.kp {W w w' : World} {B pb mb:Nat} {ps ps' : List Int} {X:Nat→Prop} (h:Ctx W w B pb mb ps) (k:KP B X w w') (hx:∀g,X g→B≤g) (hp:PX w' B pb mb ps'):Ctx W w' B pb mb ps' :=
 ⟨h.hW.trans (k.below h.hB h.hW.size fun g hg=>Nat.le_trans h.hB (hx g hg)),h.hB,h.env,hp⟩
theorem Ctx.kpp {W w w' : World} {B pb mb:Nat} {ps ps' : List Int} (h:Ctx W w B pb mb ps) (k:KP B (isP pb) w w') (hp:PX w' B pb mb ps'):Ctx W w' B pb mb ps' := h.kp k (fun g hg=>by rw [show g=pb from hg];exact h.px.hB) hp
theorem KP.fresh {B:Nat} {X:Nat→Prop} {w a b:World} (h:KP B X w a) (hs:a.heap.size≤b.heap.size) (hb:∀g,g<w.heap.size→b.heap[g]?=a.heap[g]?) (o1:b.os=a.os) (o2:b.tape=a.tape) (o3:b.output=a.output):KP B X w b :=
 ⟨o1.trans h.os,o2.trans h.tape,o3.trans h.output,Nat.le_trans h.size hs,fun g h1 h2 h3=>(hb g h1).trans (h.block g h1 h2 h3)⟩
theorem KP.row {B base e sz n:Nat} {X:Nat→Prop} {w a b:World} {v:Value} {xs:List Value} (h:KP B X w a) (ho:a.ownsRow base e sz v n xs) (hb:w.heap.size≤base) (hg:a.grownBy b v.ownBlock):KP B X w b :=
 h.fresh hg.size (fun g hlt=>hg.block g (Nat.lt_of_lt_of_le hlt h.size) (fun e=>by have:=(ho.lt g e.symm).1;omega)) hg.os hg.tape hg.output
theorem PX.own {w w' : World} {B pb mb:Nat} {ps:List Int} (h:PX w B pb mb ps) {base e sz n:Nat} {v:Value} {xs:List Value} (ho:w.ownsRow base e sz v n xs) (he:e≠3) (he2:e≠106) (hg:w.grownBy w' v.ownBlock):PX w' B pb mb ps:=by
 rcases ho.2 with ⟨rfl,_⟩|⟨g,cap,cur,rfl,_,hh,_⟩
 ·exact h.same ⟨hg.os,hg.tape,hg.output,hg.size,fun k hk=>hg.block k hk (by simp [Value.ownBlock])⟩
 ·obtain ⟨u,hu,_⟩:=h.ex
  obtain ⟨n2,hn⟩:=h.mf
  obtain ⟨es,c,hm⟩:=hn.map
  refine h.grown (m:=g) (fun k hk hne=>hg.block k hk (fun e=>hne (Option.some.inj e))) ?_ ?_ ?_
  ·rintro rfl;rw [hu] at hh;cases hh;exact he2 rfl
  ·rintro rfl;rw [hm] at hh;cases hh
  ·rintro ⟨c2,f,q⟩;rw [hh] at q;cases q;exact he rfl
theorem NM.own {w w' : World} {m k:Nat} {l:List (List UInt8)} (h:NM w m k l) {base e sz n:Nat} {v:Value} {xs:List Value} (ho:w.ownsRow base e sz v n xs) (hg:w.grownBy w' v.ownBlock):NM w' m k l:=by
 refine h.kept (hg.block m h.lt (fun e=>?_))
 rcases ho.2 with ⟨rfl,_⟩|⟨g,cap,cur,rfl,_,hh,_⟩
 ·cases e
 ·cases e
  obtain ⟨es,c,hm⟩:=h.map
  rw [hm] at hh;cases hh
theorem infoStr:(Tryz.prog.info? 9).map (fun i=>(i.zero,i.size,i.bytes))=some (some (.string ⟨#[]⟩),1,16):=by kernel_rfl
theorem rd_cons {w:World} {b o:Nat} {k n:Int} {t:List UInt8} {s:Fo} {d:Bool} {r:Fo} (h:Rd w b o (.cons k n t s d r)) :
  b<w.heap.size∧s.len≤maxLen∧∃rk ck,w.cell? ⟨b,o,none⟩=some (.int .u8 k)∧w.cell? ⟨b,o+1,none⟩=some (.int .i64 n)∧w.cell? ⟨b,o+1+1,none⟩=some (S t)∧w.cell? ⟨b,o+1+1+1,none⟩=some (.slice rk s.len ck)∧w.cell? ⟨b,o+1+1+1+1,none⟩=some (.bool d)∧RS w rk s∧Rd w b (o+5) r:=by
 obtain ⟨⟨h0,h1,h2,h3,h4,h5⟩,⟨rk,ck,bk,ok,hk,hz,hs⟩,hr⟩:=h
 exact ⟨h0,h5,rk,ck,h1,h2,h3,hk,h4,⟨bk,ok,hz,hs⟩,hr⟩
theorem DOk.kid {x:Dt} (h:DOk x) {q:Fo} {k n:Int} {t:List UInt8} {s:Fo} {d:Bool} {r:Fo} (hq:x.s=q.app (.cons k n t s d r)):DOk ⟨k,n,t,s,d⟩:=by
 obtain ⟨h1,h2,h3⟩:=h
 rw [hq] at h1 h3
 clear h2 hq
 induction q with
 | nil=>exact ⟨by simp only [Fo.app,Fo.size] at h1;show s.size≤_;omega,h3.1,h3.2.1⟩
 | cons _ _ _ _ _ r2 _ ih=>exact ih (by simp only [Fo.app,Fo.size] at h1;omega) h3.2.2
theorem app_cons (q:Fo) (k n:Int) (t:List UInt8) (s:Fo) (d:Bool) (r:Fo):(q.app (.cons k n t s d .nil)).app r=q.app (.cons k n t s d r):=by rw [Fo.app_assoc];rfl
def behindN (l:List (List UInt8)) (x:PR (List (List UInt8))):PR (List (List UInt8)):=x.then fun r => .ok (l++r)
theorem behindN_nil (x:PR (List (List UInt8))):behindN [] x=x:=by cases x<;>rfl
theorem names_step (l:List (List UInt8)) (i:Int) (k n:Int) (t:List UInt8) (s:Fo) (d:Bool) (r:Fo):behindN l (namesM l i (.cons k n t s d r))=match newM l k t with | .bad e p => .bad e (i::p) | .ok a=>behindN (l++[a]) (namesM (l++[a]) (i+1) r):=by
 rw [show namesM l i (.cons k n t s d r)=((newM l k t).within i).then fun x=>(namesM (l++[x]) (i+1) r).then fun q => .ok (x::q) from rfl]
 cases newM l k t with
 | bad e p=>rfl
 | ok a =>
  simp only [PR.within,PR.then]
  cases namesM (l++[a]) (i+1) r with
  | bad e p=>rfl
  | ok q=>simp [behindN,PR.then]
theorem names_any (W:World) (B pb mb:Nat) (ps:List Int) (x:Dt) (rk:Option Addr) (ck:Nat) (w:World) (hC:Ctx W w B pb mb ps) (hl:ps.length≤1000) (hX:DOk x) (hR:RS W rk x.s) :
  Calls Tryz.prog 143 #[.pointer (some ⟨pb,0,none⟩),datV x (.slice rk x.s.len ck)] w (Gone B (isP pb) pb mb ps w (namesD x) fun l e w' => ∃v,e = .returned v∧w'.ownsRow w.heap.size 9 1 v l.length (l.map S)):=by
 obtain ⟨i0,hi0,hz0,hz1,hz2⟩:=info_parts infoStr
 obtain ⟨W1,hW1⟩:∃W1,w.alloc (boxD x (.slice rk x.s.len ck))=W1:=⟨_,rfl⟩
 have a1:=(Below.refl _ w).alloc (Nat.le_refl w.heap.size) (boxD x (.slice rk x.s.len ck))
 have HB1:Hid (Below w.heap.size w W1):=by rw [←hW1];exact a1
 have HC1:Hid (Ctx W W1 B pb mb ps):=by rw [←hW1];exact hC.same a1
 have hq0:W1.heap[w.heap.size]?=some (.cells #[.int .u8 x.k, .int .i64 x.n,S x.t, .slice rk x.s.len ck, .bool x.d] 32 (0,0)):=by rw [←hW1];exact World.alloc_heap_new _ _
 have HQ:Hid _:=hq0
 obtain ⟨c0,c1,c2,c3,c4,_⟩:=cells5 hq0
 have HX:Hid (DOk x):=hX
 have HPB:Hid (B≤pb∧pb<w.heap.size):=⟨hC.px.hB,hC.px.lt⟩
 have hlen:=hX.len
 clear hC a1 hX hq0
 cases hL:isListB x.k x.d with
 | false =>
  have HD:Hid (namesD x = .bad 70 []):=by show _=_;unfold namesD;rw [hL];rfl
  have HL:Hid _:=hL
  rw [HD.out]
  clear hL hR
  go_enter Tryz.func143,Tryz.ntmps143
  go_upto_region 1 with fail
  clear hW1
  go_wp2_with fail
  refine (mustBe_any B pb mb ps x (.slice rk x.s.len ck) W1 HC1.out.px (by omega) ⟨_,_,rfl⟩).mono ?_
  rw [HL.out]
  rintro e w1 ⟨v', rfl,h1,h2⟩
  go_wp2_with fail
  exact ⟨rfl,GaveUp.elder ⟨v', rfl,h1,h2⟩ (KP.of HB1.out)⟩
 | true =>
  have HD:Hid (namesD x=namesM [] 0 x.s):=by show _=_;unfold namesD;rw [hL];rfl
  have HL:Hid _:=hL
  obtain ⟨b,o,hab,hRd⟩:=hR
  have Hra:Hid (x.s.len≠0→rk=some ⟨b,o,none⟩):=fun h=>hab.resolve_left h
  have HRd:Hid (Rd W b o x.s):=hRd
  rw [HD.out]
  clear hL hab hRd
  go_enter Tryz.func143,Tryz.ntmps143
  go_upto_region 1 with fail
  clear hW1
  go_wp2_with fail
  refine (mustBe_any B pb mb ps x (.slice rk x.s.len ck) W1 HC1.out.px (by omega) ⟨_,_,rfl⟩).mono ?_
  rw [HL.out]
  rintro e w1 ⟨⟨v', rfl⟩,hp1,hk1⟩
  have HK1:Hid (KP B (isP pb) w w1):=(KP.of HB1.out).trans hk1
  have HC2:Hid (Ctx W w1 B pb mb ps):=HC1.out.kpp hk1 hp1
  have q1:=hk1.at HQ.out (by decide) (by have:=HPB.out;show ¬ _=pb;omega)
  have HQ1:Hid _:=q1
  clear c0 c1 c2 c3 c4 hp1 hk1
  obtain ⟨c0,c1,c2,c3,c4,_⟩:=cells5 q1
  clear q1
  have mm:(Instr.makeMap 137 none).run Tryz.prog w1 = .ok (.map (some w1.heap.size)) (w1.alloc (.map #[] 0)):=run_makeMap (P:=Tryz.prog) 137 w1
  have a2:=(Below.refl _ w1).alloc (Nat.le_refl w1.heap.size) (.map #[] 0)
  have HM2:Hid (NM (w1.alloc (.map #[] 0)) w1.heap.size 0 []):=NM.made w1
  have HC3:Hid (Ctx W (w1.alloc (.map #[] 0)) B pb mb ps):=HC2.out.same a2
  have HK3:Hid (KP B (isP pb) w (w1.alloc (.map #[] 0))):=HK1.out.trans (KP.of a2)
  have hws:w.heap.size<w1.heap.size:=(Array.getElem?_eq_some_iff.1 HQ1.out).1
  have HMm:Hid (w1.heap.size≠mb):=by
   obtain ⟨n,hn⟩:=HC2.out.px.mf
   obtain ⟨es,c,hm⟩:=hn.map
   have:=(Array.getElem?_eq_some_iff.1 hm).1
   show _≠_;omega
  have HQ2:Hid ((w1.alloc (.map #[] 0)).heap[w.heap.size]?=some (.cells #[.int .u8 x.k, .int .i64 x.n,S x.t, .slice rk x.s.len ck, .bool x.d] 32 (0,0))):=(a2.block _ hws).trans HQ1.out
  have HZ:Hid ((w1.alloc (.map #[] 0)).heap.size=w1.heap.size+1):=by show _=_;simp
  generalize hm0:w1.heap.size=m at *
  clear a2 HQ1 HC2 HK1 HC1
  go_upto_region 4 with fail
  generalize w1.alloc (.map #[] 0)=w2 at *
  clear mm
  obtain ⟨c0', c1', c2', c3', c4', _⟩:=cells5 HQ2.out
  go_wp2
  clear c0 c1 c2 c3 c4 c0' c1' c2' c3' c4'
  go_loopw [5,16] (fun nv i wr=>∃(j:Nat) (q fi:Fo) (l:List (List UInt8)),i = .int .i64 j∧fi.len+j=x.s.len∧Hid (l.length=j)∧Hid (x.s=q.app fi)∧Hid (Rd W b (o+j*5) fi)∧Hid (NM wr m j l)∧Hid (wr.ownsRow (m+1) 9 1 nv l.length (l.map S))∧Hid (Ctx W wr B pb mb ps)∧Hid (KP B (isP pb) w wr)∧Hid (m<wr.heap.size)∧Hid (namesM [] 0 x.s=behindN l (namesM l j fi))) (fun _ i _=>x.s.len-(intOf i).toNat)
  case atStart=>exact ⟨0, .nil,x.s,[],rfl,by simp,rfl,rfl,by simpa using HRd,HM2,World.ownsRow_nil _ _ _ _,HC3,HK3,by show m<_;have:=HZ.out;omega,by show _=_;rw [behindN_nil];rfl⟩
  case round =>
   obtain ⟨j,q,fi,l,rfl,hj,HLL,HXq,HF,HM,HO,HC,HK,HS,HE⟩:=hrel
   have hmw:w.heap.size<m:=hws
   have hxo:=HX.out
   cases fi with
   | nil =>
    have hj' : j=x.s.len:=by simpa [Fo.len] using hj
    have i1:¬ ((j:Int)<(x.s.len:Int)):=by omega
    obtain ⟨ra,cv,rfl⟩:=own_slice HO.out
    clear hj hj' hxo
    go_wp2
    go_ret
    rw [HE.out,show namesM l j .nil = .ok [] from rfl]
    exact Gone.ok ⟨_,rfl,by rw [List.append_nil];exact own_mono (b:=w.heap.size) (b' := m+1) HO.out (Nat.le_of_lt (Nat.lt_succ_of_lt hmw))⟩ HC.out.px HK.out
   | cons k n t s d r =>
    simp only [Fo.len] at hj
    have i1:(j:Int)<(x.s.len:Int):=by omega
    have hra:=Hra.out (by omega)
    subst hra
    obtain ⟨hb0,hsl,rk2,ck2,d0,d1,d2,d3,d4,hrs,hr⟩:=rd_cons HF.out
    have HRk:Hid (RS W rk2 s):=hrs
    have Hr:Hid (Rd W b (o+j*5+5) r):=hr
    have HOk:Hid (DOk ⟨k,n,t,s,d⟩):=hxo.kid HXq.out
    have bel:=HC.out.hW
    have e0:=(bel.cell (p:=⟨b,_,none⟩) hb0).trans d0
    have e1:=(bel.cell (p:=⟨b,_,none⟩) hb0).trans d1
    have e2:=(bel.cell (p:=⟨b,_,none⟩) hb0).trans d2
    have e3:=(bel.cell (p:=⟨b,_,none⟩) hb0).trans d3
    have e4:=(bel.cell (p:=⟨b,_,none⟩) hb0).trans d4
    have hst:=names_step l j k n t s d r
    rw [←HE.out] at hst
    have HST:Hid _:=hst
    obtain ⟨ra,cv,rfl⟩:=own_slice HO.out
    clear d0 d1 d2 d3 d4 hrs hr bel hst hxo
    obtain ⟨w3,hw3⟩:∃w3,wr.alloc (boxD ⟨k,n,t,s,d⟩ (.slice rk2 s.len ck2))=w3:=⟨_,rfl⟩
    have a3:=(Below.refl _ wr).alloc (Nat.le_refl wr.heap.size) (boxD ⟨k,n,t,s,d⟩ (.slice rk2 s.len ck2))
    have q3:w3.heap[wr.heap.size]?=some (.cells #[.int .u8 k, .int .i64 n,S t, .slice rk2 s.len ck2, .bool d] 32 (0,0)):=by rw [←hw3];exact World.alloc_heap_new _ _
    rw [hw3] at a3
    have HQ3:Hid _:=q3
    have HC3:Hid (Ctx W w3 B pb mb ps):=HC.out.same a3
    have HK3:Hid (KP B (isP pb) w w3):=HK.out.trans (KP.of a3)
    have HM3:Hid (NM w3 m j l):=HM.out.kept (a3.block _ HM.out.lt)
    have HO3:Hid (w3.ownsRow (m+1) 9 1 (.slice ra l.length cv) l.length (l.map S)):=own_same HO.out (fun g hg=>a3.block g (HO.out.lt g hg).2)
    have hs3:=a3.size
    have hsm:=HS.out
    have hpb:=HPB.out
    clear a3 q3
    cases hx:newM l k t with
    | bad er p =>
     have HNW:Hid (newM l k t = .bad er p):=hx
     have HR:Hid (namesM [] 0 x.s = .bad er (j::p)):=by show _=_;rw [HST.out,hx]
     clear hx
     go_wp2_with fail
     refine (enter_any B pb mb ps j w3 HC3.out.px (by omega) (by have:=HC3.out.px.hB;have:=HC3.out.px.lt;omega)).mono ?_
     rintro e w4 ⟨⟨v4,rfl⟩,hp4,hk4⟩
     have q4:=hk4.at HQ3.out (by decide) (by show ¬ _=pb;omega)
     obtain ⟨c0,c1,c2,c3,c4,_⟩:=cells5 q4
     have HC4:Hid (Ctx W w4 B pb mb (ps++[(j:Int)])):=HC3.out.kpp hk4 hp4
     have HK4:Hid (KP B (isP pb) w w4):=HK3.out.trans hk4
     have HM4:Hid (NM w4 m j l):=HM3.out.kept (hk4.block _ HM3.out.lt (by show ¬ _=pb;omega) (.inr HM3.out.notInt))
     clear q4 hp4 hk4 e0 e1 e2 e3 e4
     go_wp2_with fail
     refine (newVar_any B pb mb m j (ps++[(j:Int)]) ⟨k,n,t,s,d⟩ (.slice rk2 s.len ck2) l w4 HC4.out.px (by simp;omega) ⟨_,_,rfl⟩ HC4.out.envw HOk.out.t HM4.out (by omega) HMm.out).mono ?_
     rw [HNW.out]
     rintro e w5 ⟨v5,rfl,h1,h2⟩
     go_wp2_with fail
     refine ⟨rfl,?_⟩
     rw [HR.out]
     exact (GaveUp.elder (GaveUp.cast ⟨v5,rfl,h1,h2⟩ (by simp)) (HK4.out.mono fun g _ h => .inl h)).more fun g hg h=>h.resolve_right (by omega)
    | ok a =>
     have HNW:Hid (newM l k t = .ok a):=hx
     have HST2:Hid (namesM [] 0 x.s=behindN (l++[a]) (namesM (l++[a]) ((j:Int)+1) r)):=by show _=_;rw [HST.out,hx]
     clear hx
     go_wp2_with fail
     refine (enter_any B pb mb ps j w3 HC3.out.px (by omega) (by have:=HC3.out.px.hB;have:=HC3.out.px.lt;omega)).mono ?_
     rintro e w4 ⟨⟨v4,rfl⟩,hp4,hk4⟩
     have q4:=hk4.at HQ3.out (by decide) (by show ¬ _=pb;omega)
     obtain ⟨c0,c1,c2,c3,c4,_⟩:=cells5 q4
     have HC4:Hid (Ctx W w4 B pb mb (ps++[(j:Int)])):=HC3.out.kpp hk4 hp4
     have HK4:Hid (KP B (isP pb) w w4):=HK3.out.trans hk4
     have HM4:Hid (NM w4 m j l):=HM3.out.kept (hk4.block _ HM3.out.lt (by show ¬ _=pb;omega) (.inr HM3.out.notInt))
     have HO4:Hid (w4.ownsRow (m+1) 9 1 (.slice ra l.length cv) l.length (l.map S)):=hk4.own HO3.out (by decide) (fun g hg=>by have:=(HO3.out.lt g hg).1;show ¬ _=pb;omega)
     clear q4 hp4 hk4 e0 e1 e2 e3 e4
     go_wp2_with fail
     refine (newVar_any B pb mb m j (ps++[(j:Int)]) ⟨k,n,t,s,d⟩ (.slice rk2 s.len ck2) l w4 HC4.out.px (by simp;omega) ⟨_,_,rfl⟩ HC4.out.envw HOk.out.t HM4.out (by omega) HMm.out).mono ?_
     rw [HNW.out]
     rintro e w5 ⟨⟨rfl,hm5⟩,hp5,hk5⟩
     have hs5:=hk5.size
     have HC5:Hid (Ctx W w5 B pb mb (ps++[(j:Int)])):=HC4.out.kp hk5 (fun g hg=>hg.elim (fun e=>by omega) (fun e=>by have:=HC4.out.px.hB;have:=hpb;omega)) hp5
     have HK5:Hid (KP B (isP pb) w w5):=(HK4.out.mono fun g _ h => .inl h).trans hk5 |>.mono fun g hg h=>h.resolve_right (by omega)
     have HO5:Hid (w5.ownsRow (m+1) 9 1 (.slice ra l.length cv) l.length (l.map S)):=hk5.own HO4.out (by decide) (fun g hg=>by have:=(HO4.out.lt g hg).1;show ¬ (_=pb∨_=m);omega)
     have HM5:Hid (NM w5 m (j+1) (l++[a])):=hm5
     have hms:m<w4.heap.size:=HM4.out.lt
     clear hp5 hk5 hm5 c0 c1 c2 c3 c4
     go_wp2_with (at_builtin;refine stop_of ?_)
     unfold Hid
     refine wpList_append_lies _ rfl _ _ 25 rfl (m+1) 9 i0 (.string ⟨#[]⟩) 1 16 Tryz.underlying25 hi0 hz0 hz1 hz2 rfl (by decide) (.slice ra l.length cv) l.length (l.map S) rfl (World.ownsRow.alloc HO5.out _) ⟨w5.heap.size,0,none⟩ 1 1 [S a] rfl rfl (fun j' u hu=>?_) (fun u hu=>?_) (by have:=HLL.out;omega) (by have:=HLL.out;unfold maxLen;omega) (by have:=HLL.out;omega) (by rw [World.size_alloc];omega) _ rfl ?_
     ·rw [ad_add,Nat.zero_add]
      exact new_cell w5 _ _ j' u (by simpa using hu)
     ·simp at hu;subst hu;rfl
     intro g cp w6 hown hgr hat hl6
     have a6:=(Below.refl _ w5).alloc (Nat.le_refl w5.heap.size) (.cells #[S a] 9)
     have hoa:=World.ownsRow.alloc HO5.out (.cells #[S a] 9)
     have HC6:Hid (Ctx W w6 B pb mb (ps++[(j:Int)])):=by
      have h1:=HC5.out.same a6
      refine ⟨h1.hW.trans ⟨hgr.os,hgr.tape,hgr.output,hgr.size,fun k hk=>hgr.block k (Nat.lt_of_lt_of_le hk h1.hW.size) (fun e=>?_)⟩,h1.hB,h1.env,h1.px.own hoa (by decide) (by decide) hgr⟩
      have:=(hoa.lt k e.symm).1
      have:=HC.out.hW.size
      have:=HPB.out
      have:=h1.hB
      omega
     have HK6:Hid (KP B (isP pb) w w6):=(HK5.out.trans (KP.of a6)).row hoa (by omega) hgr
     have HM6:Hid (NM w6 m (j+1) (l++[a])):=(HM5.out.kept (a6.block _ HM5.out.lt)).own hoa hgr
     have HO6:Hid (w6.ownsRow (m+1) 9 1 (.slice (some ⟨g,0,none⟩) (l.length+1) cp) (l++[a]).length ((l++[a]).map S)):=by
      show w6.ownsRow _ _ _ _ _ _
      rw [List.length_append,List.map_append];exact hown
     have hLa:(l++[a]).length=j+1:=by have:=HLL.out;simp;omega
     have HLA:Hid ((l++[a]).length=j+1):=hLa
     have HS6:Hid (m<w6.heap.size):=HM6.out.lt
     clear hown hgr hat hl6 a6 hoa hLa
     go_wp2_with fail
     refine (leave_any B pb mb ps j w6 HC6.out.px (by omega)).mono ?_
     rintro e w7 ⟨⟨v7,rfl⟩,hp7,hk7⟩
     have HC7:Hid (Ctx W w7 B pb mb ps):=HC6.out.kpp hk7 hp7
     have HK7:Hid (KP B (isP pb) w w7):=HK6.out.trans hk7
     have HM7:Hid (NM w7 m (j+1) (l++[a])):=HM6.out.kept (hk7.block _ HM6.out.lt (by show ¬ _=pb;omega) (.inr HM6.out.notInt))
     have HO7:Hid (w7.ownsRow (m+1) 9 1 (.slice (some ⟨g,0,none⟩) (l.length+1) cp) (l++[a]).length ((l++[a]).map S)):=hk7.own HO6.out (by decide) (fun g hg=>by have:=(HO6.out.lt g hg).1;show ¬ _=pb;omega)
     have HS7:Hid (m<w7.heap.size):=HM7.out.lt
     clear hp7 hk7
     go_wp2_with fail
     go_roundw
     case rel=>exact ⟨j+1,q.app (.cons k n t s d .nil),r,l++[a],by go_num,by omega,HLA.out,by show _=_;rw [app_cons];exact HXq.out,by rw [show o+(j+1)*5=o+j*5+5 by omega];exact Hr.out,HM7.out,HO7.out,HC7.out,HK7.out,HS7.out,by show _=_;rw [HST2.out];rfl⟩
     case measure=>simp [intOf];omega
end Go.Proofs.YtkgnigloboajcaaGreatDoor
