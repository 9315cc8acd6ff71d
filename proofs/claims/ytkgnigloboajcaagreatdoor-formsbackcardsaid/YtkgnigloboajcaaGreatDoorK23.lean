/- A let's binding.; A row that has grown, among others of other types.; A let's bindings. -/
import Derived.Test.YtkgnigloboajcaaGreatDoorK22
set_option maxRecDepth 100000
set_option maxHeartbeats 16000000
namespace Go.Proofs.YtkgnigloboajcaaGreatDoor
open Go.RowKit Go.Maps Go.ChangeMaps
theorem bodyPost_tup {fn:Func} {R:Ending→World→Prop} {a:Act} {q s b:Nat} {W9:World} {u v0 v1 v2 v3 v4 v5 v6 v7 v8:Value} (hres:fn.results = #[.tmp q, .cell s 36]) (hq:a.tmps[q]?=some u) (hs:a.tmps[s]?=some (.pointer (some ⟨b,0,none⟩))) (hd:a.defers=[])
  (h:W9.heap[b]?=some (.cells #[v0,v1,v2,v3,v4,v5,v6,v7,v8] 36 (0,0))) (hR:R (.returned (.tuple #[u, .agg #[v0,v1,v2,v3,v4,v5,v6,v7,v8]])) W9) :
  bodyPost Tryz.prog fn R .ret a W9:=by
 obtain ⟨⟨y0,y1,y2,y3,y4,y5,y6,y7,y8⟩,_⟩:=cells9 h
 obtain ⟨hlt,he⟩:=Array.getElem?_eq_some_iff.1 hs
 obtain ⟨hlq,heq⟩:=Array.getElem?_eq_some_iff.1 hq
 refine ⟨hd,_,?_,hR⟩
 simp [results,hres,go_sem,y0,y1,y2,y3,y4,y5,y6,y7,y8,hlt,he,hlq,heq]
theorem bodyPost_tup9 {fn:Func} {R:Ending→World→Prop} {a:Act} {q s b:Nat} {w6:World} {u a0 a1 a2 a3 a4 a5 a6 a7 a8 v0 v1 v2 v3 v4 v5 v6 v7 v8:Value} (hres:fn.results = #[.tmp q, .cell s 36]) (hq:a.tmps[q]?=some u) (hs:a.tmps[s]?=some (.pointer (some ⟨b,0,none⟩))) (hd:a.defers=[])
  (h:w6.heap[b]?=some (.cells #[a0,a1,a2,a3,a4,a5,a6,a7,a8] 36 (0,0))) (hR:∀W9:World,Nine w6 W9 b→R (.returned (.tuple #[u, .agg #[v0,v1,v2,v3,v4,v5,v6,v7,v8]])) W9.drew) :
  bodyPost Tryz.prog fn R .ret a (((((((((w6.setCell ⟨b,0,none⟩ v0).setCell ⟨b,1,none⟩ v1).setCell ⟨b,2,none⟩ v2).setCell ⟨b,3,none⟩ v3).setCell ⟨b,4,none⟩ v4).setCell ⟨b,5,none⟩ v5).setCell ⟨b,6,none⟩ v6).setCell ⟨b,7,none⟩ v7).setCell ⟨b,8,none⟩ v8).drew:=by
 have h9:=nine_at h v0 v1 v2 v3 v4 v5 v6 v7 v8
 have o9:=nine_nine b w6 v0 v1 v2 v3 v4 v5 v6 v7 v8
 unfold nine at h9 o9
 generalize (((((((((w6.setCell ⟨b,0,none⟩ v0).setCell ⟨b,1,none⟩ v1).setCell ⟨b,2,none⟩ v2).setCell ⟨b,3,none⟩ v3).setCell ⟨b,4,none⟩ v4).setCell ⟨b,5,none⟩ v5).setCell ⟨b,6,none⟩ v6).setCell ⟨b,7,none⟩ v7).setCell ⟨b,8,none⟩ v8)=W9 at h9 o9 ⊢
 exact bodyPost_tup hres hq hs hd (W9:=W9.drew) h9 (hR W9 o9)
def OutB (w:World) (m n:Nat) (l:List (List UInt8)) (y:List UInt8 × Frm) (e:Ending) (w' : World):Prop:=∃nv kv dv bs,e = .returned (.tuple #[S y.1,frmV y.2 nv kv dv])∧FOne w' w.heap.size y.2 nv kv dv bs∧NM w' m (n+1) (l++[y.1])
theorem isPM_lt {W w:World} {B pb mb m n:Nat} {ps:List Int} {l:List (List UInt8)} (hC:Ctx W w B pb mb ps) (hM:NM w m n l) (hmB:B≤m):∀g,isPM pb m g→B≤g∧g<w.heap.size:=fun g hg=>hg.elim (fun e=>by rw [e];exact ⟨hC.px.hB,hC.px.lt⟩) (fun e=>by rw [e];exact ⟨hmB,hM.lt⟩)
theorem binding_bad (W:World) (B pb mb m n:Nat) (ps:List Int) (x:Dt) (rk:Option Addr) (ck:Nat) (l:List (List UInt8)) (w:World) (R:Dt→PR Frm) (hC:Ctx W w B pb mb ps) (hl:ps.length+1≤900) (hX:DOk x) (hM:NM w m n l) (hmB:B≤m) (hb:(!isListB x.k x.d || x.s.len != 2)=true) :
  Calls Tryz.prog 171 #[.pointer (some ⟨pb,0,none⟩),datV x (.slice rk x.s.len ck), .map (some m)] w (Gone B (isPM pb m) pb mb ps w (bindM R l x) (OutB w m n l)):=by
 have HB:Hid (bindM R l x = .bad 70 []):=by show _=_;unfold bindM;rw [if_pos hb]
 rw [HB.out]
 have HH:Hid (HdX (isPM pb m) W w ((w.alloc (boxD x (.slice rk x.s.len ck))).alloc F9) B pb mb ps x (.slice rk x.s.len ck)):=HdX.new hC (isPM_lt hC hM hmB) x _
 have hxl:=hX.len
 clear hC hX hM
 cases hL:isListB x.k x.d with
 | false =>
  have HL:Hid _:=hL
  clear hL hb
  go_enter Tryz.func171,Tryz.ntmps171
  go_upto_region 1 with fail
  generalize (w.alloc (boxD x (.slice rk x.s.len ck))).alloc F9=W2 at *
  obtain ⟨c0,c1,c2,c3,c4,_⟩:=cells5 HH.out.q0
  go_wp2_with fail
  refine (mustBe_any B pb mb ps x (.slice rk x.s.len ck) W2 HH.out.c.px (by omega) ⟨_,_,rfl⟩).mono ?_
  rw [HL.out]
  rintro e w1 ⟨v', rfl,h1,h2⟩
  go_wp2_with fail
  exact ⟨rfl,GaveUp.elder ⟨v', rfl,h1,h2.mono fun g _ h => .inl h⟩ HH.out.k⟩
 | true =>
  have HL:Hid _:=hL
  have hne:((x.s.len:Int) != 2)=true:=by rw [hL] at hb;simp at hb;simp;omega
  have hne2:((x.s.len:Int) == 2)=false:=by rw [hL] at hb;simp at hb;simp;omega
  clear hL hb
  go_enter Tryz.func171,Tryz.ntmps171
  go_upto_region 1 with fail
  generalize (w.alloc (boxD x (.slice rk x.s.len ck))).alloc F9=W2 at *
  obtain ⟨c0,c1,c2,c3,c4,_⟩:=cells5 HH.out.q0
  go_wp2_with fail
  refine (mustBe_any B pb mb ps x (.slice rk x.s.len ck) W2 HH.out.c.px (by omega) ⟨_,_,rfl⟩).mono ?_
  rw [HL.out]
  rintro e w1 ⟨⟨v', rfl⟩,hp1,hk1⟩
  have HH1:Hid (HdX (isPM pb m) W w w1 B pb mb ps x (.slice rk x.s.len ck)):=HH.out.step hp1 (hk1.mono fun g _ h => .inl h)
  clear hp1 hk1 c0 c1 c2 c3 c4
  obtain ⟨c0,c1,c2,c3,c4,_⟩:=cells5 HH1.out.q0
  go_wp2_with fail
  refine (giveUp_any B pb mb ps 70 w1 HH1.out.c.px (by omega)).mono ?_
  rintro e w2 ⟨v', rfl,h1,h2⟩
  go_wp2_with fail
  exact ⟨rfl,(GaveUp.elder ⟨v', rfl,h1,h2.mono fun g _ h => .inl h⟩ HH1.out.k).cast (by simp)⟩
theorem binding_any {K:Nat} (hF:FormC K) (W:World) (B pb mb m n:Nat) (ps:List Int) (x:Dt) (rk:Option Addr) (ck:Nat) (l:List (List UInt8)) (w:World) (hC:Ctx W w B pb mb ps) (hl:ps.length+1+4*K≤900) (hX:DOk x) (hdp:x.s.dpt≤K) (hR:RS W rk x.s) (hM:NM w m n l) (hn:n≤1000000) (hmb:m≠mb) (hmB:B≤m) :
  Calls Tryz.prog 171 #[.pointer (some ⟨pb,0,none⟩),datV x (.slice rk x.s.len ck), .map (some m)] w (Gone B (isPM pb m) pb mb ps w (bindM (formM K true) l x) (OutB w m n l)):=by
 cases hb:(!isListB x.k x.d || x.s.len != 2) with
 | true=>exact binding_bad W B pb mb m n ps x rk ck l w _ hC (by omega) hX hM hmB hb
 | false =>
 have hL:isListB x.k x.d=true:=by cases h:isListB x.k x.d<;>simp [h] at hb ⊢
 have hlen:x.s.len=2:=by rw [hL] at hb;simpa using hb
 obtain ⟨k0,n0,t0,s0,d0,k1,n1,t1,s1,d1,hs⟩:∃k0 n0 t0 s0 d0 k1 n1 t1 s1 d1,x.s = .cons k0 n0 t0 s0 d0 (.cons k1 n1 t1 s1 d1 .nil):=by
  match h:x.s,hlen with
  | .cons k0 n0 t0 s0 d0 (.cons k1 n1 t1 s1 d1 .nil),_=>exact ⟨_,_,_,_,_,_,_,_,_,_,rfl⟩
  | .nil,h2=>simp [Fo.len] at h2
  | .cons _ _ _ _ _ .nil,h2=>simp [Fo.len] at h2
  | .cons _ _ _ _ _ (.cons _ _ _ _ _ (.cons _ _ _ _ _ _)),h2=>simp [Fo.len] at h2
 have HB:Hid (bindM (formM K true) l x=((newM l k0 t0).within 0).then fun a=>((formM K true ⟨k1,n1,t1,s1,d1⟩).within 1).then fun f => .ok (a,f)):=by
  show _=_;unfold bindM;rw [hb,hs];rfl
 have HH:Hid (HdX (isPM pb m) W w ((w.alloc (boxD x (.slice rk x.s.len ck))).alloc F9) B pb mb ps x (.slice rk x.s.len ck)):=HdX.new hC (isPM_lt hC hM hmB) x _
 have HM:Hid (NM ((w.alloc (boxD x (.slice rk x.s.len ck))).alloc F9) m n l):=hM.kept ((((Below.refl _ w).alloc (Nat.le_refl _) _).alloc (by simp) _).block _ hM.lt)
 have HF:Hid (FormC K):=hF
 have HL:Hid _:=hL
 have HOk0:Hid (DOk ⟨k0,n0,t0,s0,d0⟩):=hX.kid (q := .nil) (r := .cons k1 n1 t1 s1 d1 .nil) (by rw [hs];rfl)
 have HOk1:Hid (DOk ⟨k1,n1,t1,s1,d1⟩):=hX.kid (q := .cons k0 n0 t0 s0 d0 .nil) (r := .nil) (by rw [hs];rfl)
 have HDP:Hid (s1.dpt+1≤K):=by
  have:=Fo.dpt_app (k:=k1) (n:=n1) (t:=t1) (s:=s1) (d:=d1) (r := .nil) (.cons k0 n0 t0 s0 d0 .nil)
  rw [hs] at hdp
  show _≤_
  exact Nat.le_trans this hdp
 obtain ⟨b,o,hab,hRd⟩:=hR
 have hra:rk=some ⟨b,o,none⟩:=hab.resolve_left (by rw [hs];simp [Fo.len])
 have hsl:(x.s.len:Int)=2:=by omega
 subst hra
 rw [hs] at hRd
 obtain ⟨hb0,hsl1,rk1,ck1,z0,z1,z2,z3,z4,hrs1,hRd1⟩:=rd_cons hRd
 obtain ⟨o1,ho1⟩:∃o1,o+5=o1:=⟨_,rfl⟩
 rw [ho1] at hRd1
 obtain ⟨_,hsl0,rk2,ck2,y0,y1,y2,y3,y4,hrs,_⟩:=rd_cons hRd1
 have HRk:Hid (RS W rk2 s1):=hrs
 have HD0:Hid (W.cell? ⟨b,o,none⟩=some (.int .u8 k0)∧W.cell? ⟨b,o+1,none⟩=some (.int .i64 n0)∧W.cell? ⟨b,o+1+1,none⟩=some (S t0)∧W.cell? ⟨b,o+1+1+1,none⟩=some (.slice rk1 s0.len ck1)∧W.cell? ⟨b,o+1+1+1+1,none⟩=some (.bool d0)∧b<W.heap.size):=⟨z0,z1,z2,z3,z4,hb0⟩
 have HD1:Hid (W.cell? ⟨b,o1,none⟩=some (.int .u8 k1)∧W.cell? ⟨b,o1+1,none⟩=some (.int .i64 n1)∧W.cell? ⟨b,o1+1+1,none⟩=some (S t1)∧W.cell? ⟨b,o1+1+1+1,none⟩=some (.slice rk2 s1.len ck2)∧W.cell? ⟨b,o1+1+1+1+1,none⟩=some (.bool d1)∧b<W.heap.size):=⟨y0,y1,y2,y3,y4,hb0⟩
 have Hmlt:Hid (m<w.heap.size):=hM.lt
 clear hs hab hRd hRd1 y0 y1 y2 y3 y4 z0 z1 z2 z3 z4 hrs hrs1 hb0 hC hX hM hb hL hdp hlen
 rw [HB.out]
 go_enter Tryz.func171,Tryz.ntmps171
 go_upto_region 1 with fail
 generalize (w.alloc (boxD x (.slice (some ⟨b,o,none⟩) x.s.len ck))).alloc F9=W2 at *
 obtain ⟨c0,c1,c2,c3,c4,_⟩:=cells5 HH.out.q0
 go_wp2_with fail
 refine (mustBe_any B pb mb ps x (.slice (some ⟨b,o,none⟩) x.s.len ck) W2 HH.out.c.px (by omega) ⟨_,_,rfl⟩).mono ?_
 rw [HL.out]
 rintro e w1 ⟨⟨v', rfl⟩,hp1,hk1⟩
 have hpb:=HH.out.lt
 have hmm:=Hmlt.out
 have hmp:m≠pb:=by
  obtain ⟨es,c,hm⟩:=HM.out.map
  obtain ⟨v,hv,_⟩:=HH.out.c.px.ex
  rintro rfl;rw [hm] at hv;cases hv
 have HH1:Hid (HdX (isPM pb m) W w w1 B pb mb ps x (.slice (some ⟨b,o,none⟩) x.s.len ck)):=HH.out.step hp1 (hk1.mono fun g _ h => .inl h)
 have HM1:Hid (NM w1 m n l):=HM.out.kept (hk1.block _ HM.out.lt hmp (.inr HM.out.notInt))
 clear hp1 hk1 c0 c1 c2 c3 c4
 obtain ⟨c0,c1,c2,c3,c4,_⟩:=cells5 HH1.out.q0
 go_wp2_with fail
 refine (enter_any B pb mb ps 0 w1 HH1.out.c.px (by omega) (by have:=HH1.out.c.px.hB;have:=HH1.out.c.px.lt;omega)).mono ?_
 rintro e w3 ⟨⟨v3,rfl⟩,hp3,hk3⟩
 have HH3:Hid (HdX (isPM pb m) W w w3 B pb mb (ps++[0]) x (.slice (some ⟨b,o,none⟩) x.s.len ck)):=HH1.out.step hp3 (hk3.mono fun g _ h => .inl h)
 have HM3:Hid (NM w3 m n l):=HM1.out.kept (hk3.block _ HM1.out.lt hmp (.inr HM1.out.notInt))
 clear hp3 hk3 c0 c1 c2 c3 c4
 obtain ⟨c0,c1,c2,c3,c4,_⟩:=cells5 HH3.out.q0
 have bel:=HH3.out.c.hW
 obtain ⟨y0,y1,y2,y3,y4,hb0⟩:=HD0.out
 have e0:=(bel.cell (p:=⟨b,_,none⟩) hb0).trans y0
 have e1:=(bel.cell (p:=⟨b,_,none⟩) hb0).trans y1
 have e2:=(bel.cell (p:=⟨b,_,none⟩) hb0).trans y2
 have e3:=(bel.cell (p:=⟨b,_,none⟩) hb0).trans y3
 have e4:=(bel.cell (p:=⟨b,_,none⟩) hb0).trans y4
 clear bel y0 y1 y2 y3 y4
 go_wp2_with fail
 refine (newVar_any B pb mb m n (ps++[0]) ⟨k0,n0,t0,s0,d0⟩ (.slice rk1 s0.len ck1) l w3 HH3.out.c.px (by simp;omega) ⟨_,_,rfl⟩ HH3.out.c.envw HOk0.out.t HM3.out hn hmb).mono ?_
 cases hv:newM l k0 t0 with
 | bad er p =>
  have HV:Hid (newM l k0 t0 = .bad er p):=hv
  rintro e w4 ⟨v5,rfl,h1,h2⟩
  clear hv
  go_wp2_with fail
  refine ⟨rfl,?_⟩
  rw [HV.out]
  exact GaveUp.elder (GaveUp.cast ⟨v5,rfl,h1,h2⟩ (by simp)) HH3.out.k
 | ok a =>
  rintro e w4 ⟨⟨rfl,hm4⟩,hp4,hk4⟩
  have HH4:Hid (HdX (isPM pb m) W w w4 B pb mb (ps++[0]) x (.slice (some ⟨b,o,none⟩) x.s.len ck)):=HH3.out.step hp4 hk4
  have HM4:Hid (NM w4 m (n+1) (l++[a])):=hm4
  have HV:Hid (newM l k0 t0 = .ok a):=hv
  clear hp4 hk4 hm4 hv c0 c1 c2 c3 c4 e0 e1 e2 e3 e4
  go_wp2_with fail
  refine (leave_any B pb mb ps 0 w4 HH4.out.c.px (by omega)).mono ?_
  rintro e w5 ⟨⟨v6,rfl⟩,hp5,hk5⟩
  have HH5:Hid (HdX (isPM pb m) W w w5 B pb mb ps x (.slice (some ⟨b,o,none⟩) x.s.len ck)):=HH4.out.step hp5 (hk5.mono fun g _ h => .inl h)
  have HM5:Hid (NM w5 m (n+1) (l++[a])):=HM4.out.kept (hk5.block _ HM4.out.lt hmp (.inr HM4.out.notInt))
  clear hp5 hk5
  go_wp2_with fail
  refine (enter_any B pb mb ps 1 w5 HH5.out.c.px (by omega) (by have:=HH5.out.c.px.hB;have:=HH5.out.c.px.lt;omega)).mono ?_
  rintro e w6 ⟨⟨v7,rfl⟩,hp6,hk6⟩
  have HH6:Hid (HdX (isPM pb m) W w w6 B pb mb (ps++[1]) x (.slice (some ⟨b,o,none⟩) x.s.len ck)):=HH5.out.step hp6 (hk6.mono fun g _ h => .inl h)
  have HM6:Hid (NM w6 m (n+1) (l++[a])):=HM5.out.kept (hk6.block _ HM5.out.lt hmp (.inr HM5.out.notInt))
  clear hp6 hk6
  obtain ⟨c0,c1,c2,c3,c4,_⟩:=cells5 HH6.out.q0
  have bel:=HH6.out.c.hW
  obtain ⟨y0,y1,y2,y3,y4,_⟩:=HD1.out
  have e0:=(bel.cell (p:=⟨b,_,none⟩) hb0).trans y0
  have e1:=(bel.cell (p:=⟨b,_,none⟩) hb0).trans y1
  have e2:=(bel.cell (p:=⟨b,_,none⟩) hb0).trans y2
  have e3:=(bel.cell (p:=⟨b,_,none⟩) hb0).trans y3
  have e4:=(bel.cell (p:=⟨b,_,none⟩) hb0).trans y4
  clear bel y0 y1 y2 y3 y4
  go_wp2_with fail
  refine (HF.out W w6 B pb mb (ps++[1]) ⟨k1,n1,t1,s1,d1⟩ rk2 ck2 HH6.out.c (by simp;omega) HOk1.out HDP.out HRk.out).mono ?_
  rw [show (!(ps++[(1:Int)]).isEmpty)=true by simp]
  cases hv:formM K true ⟨k1,n1,t1,s1,d1⟩ with
  | bad er p =>
   have HV2:Hid (formM K true ⟨k1,n1,t1,s1,d1⟩ = .bad er p):=hv
   rintro e w7 ⟨v8,rfl,h1,h2⟩
   clear hv
   go_wp2_with fail
   refine ⟨rfl,?_⟩
   rw [HV.out,HV2.out]
   exact GaveUp.elder (GaveUp.cast ⟨v8,rfl,h1,h2.mono fun g _ h => .inl h⟩ (by simp)) HH6.out.k
  | ok f =>
   rintro e w7 ⟨⟨nv,kv,dv,nbs,rfl,hone⟩,hp7,hk7⟩
   obtain ⟨b1,g1,b2,g2,b3,g3,rfl,rfl,rfl⟩:=hone.slices
   have HH7:Hid (HdX (isPM pb m) W w w7 B pb mb (ps++[1]) x (.slice (some ⟨b,o,none⟩) x.s.len ck)):=HH6.out.step hp7 (hk7.mono fun g _ h => .inl h)
   have HM7:Hid (NM w7 m (n+1) (l++[a])):=HM6.out.kept (hk7.block _ HM6.out.lt hmp (.inr HM6.out.notInt))
   have Hone:Hid (FOne w7 w6.heap.size f (.slice b1 f.names.length g1) (.slice b2 f.kids.len g2) (.slice b3 f.dat.s.len g3) nbs):=hone
   have HS6:Hid (w.heap.size+2≤w6.heap.size):=by show _≤_;have:=(Array.getElem?_eq_some_iff.1 HH6.out.q1).1;omega
   obtain ⟨w8,hw8⟩:∃w8,w7.alloc (Z9 f (.slice b1 f.names.length g1) (.slice b2 f.kids.len g2) (.slice b3 f.dat.s.len g3))=w8:=⟨_,rfl⟩
   have a8:=(Below.refl _ w7).alloc (Nat.le_refl w7.heap.size) (Z9 f (.slice b1 f.names.length g1) (.slice b2 f.kids.len g2) (.slice b3 f.dat.s.len g3))
   rw [hw8] at a8
   have q8:w8.heap[w7.heap.size]?=some (.cells #[.int .u8 f.kind,S f.text, .slice b1 f.names.length g1, .slice b2 f.kids.len g2, .int .u8 f.dat.k, .int .i64 f.dat.n,S f.dat.t, .slice b3 f.dat.s.len g3, .bool f.dat.d] 36 (0,0)):=by rw [←hw8];exact World.alloc_heap_new _ _
   have HQ8:Hid _:=q8
   have HH8:Hid (HdX (isPM pb m) W w w8 B pb mb (ps++[1]) x (.slice (some ⟨b,o,none⟩) x.s.len ck)):=HH7.out.step (HH7.out.c.px.same a8) (KP.of a8)
   have HM8:Hid (NM w8 m (n+1) (l++[a])):=HM7.out.kept (a8.block _ HM7.out.lt)
   have Hone8:Hid (FOne w8 w6.heap.size f (.slice b1 f.names.length g1) (.slice b2 f.kids.len g2) (.slice b3 f.dat.s.len g3) nbs):=Hone.out.kept (fun g hg=>a8.block g (Hone.out.lt g hg).2)
   have HS7:Hid (w6.heap.size≤w7.heap.size∧w7.heap.size<w8.heap.size):=⟨hk7.size,(Array.getElem?_eq_some_iff.1 q8).1⟩
   have HV2:Hid (formM K true ⟨k1,n1,t1,s1,d1⟩ = .ok f):=hv
   clear hp7 hk7 hone hv c0 c1 c2 c3 c4 e0 e1 e2 e3 e4 a8 q8
   go_wp2_with fail
   refine (leave_any B pb mb ps 1 w8 HH8.out.c.px (by omega)).mono ?_
   rintro e w9 ⟨⟨v9,rfl⟩,hp9,hk9⟩
   have HH9:Hid (HdX (isPM pb m) W w w9 B pb mb ps x (.slice (some ⟨b,o,none⟩) x.s.len ck)):=HH8.out.step hp9 (hk9.mono fun g _ h => .inl h)
   have HM9:Hid (NM w9 m (n+1) (l++[a])):=HM8.out.kept (hk9.block _ HM8.out.lt hmp (.inr HM8.out.notInt))
   have Hone9:Hid (FOne w9 w6.heap.size f (.slice b1 f.names.length g1) (.slice b2 f.kids.len g2) (.slice b3 f.dat.s.len g3) nbs):=Hone8.out.keep hk9 (fun g h1 _=>by have:=HS6.out;show ¬ _=pb;omega)
   have q9:=hk9.at HQ8.out (by decide) (by have:=HS6.out;have:=HS7.out;show ¬ _=pb;omega)
   obtain ⟨⟨z0,z1,z2,z3,z4,z5,z6,z7,z8⟩,zf⟩:=cells9 HH9.out.q1
   have f0:=zf 0
   have f1:=zf 1
   have f2:=zf 2
   have f3:=zf 3
   have f4:=zf 4
   have f5:=zf 5
   have f6:=zf 6
   have f7:=zf 7
   have f8:=zf 8
   obtain ⟨⟨u0,u1,u2,u3,u4,u5,u6,u7,u8⟩,_⟩:=cells9 q9
   have hne:w7.heap.size≠w.heap.size+1:=by have:=HS6.out;have:=HS7.out;omega
   clear hp9 hk9 zf q9
   go_wp2_with fail
   go_region
   go_wp2_with fail
   refine bodyPost_tup9 (q:=6) (s:=7) rfl rfl rfl rfl HH9.out.q1 fun W9 o9=>?_
   rw [HV.out,HV2.out]
   have hlt:=HH9.out.lt
   have hs6:=HS6.out
   have ho:=Hone9.out.kept fun g hg=>o9.other g (by have:=(Hone9.out.lt g hg).1;omega)
   refine Gone.ok ⟨_,_,_,nbs,rfl,(ho.mono (by omega)).kept (fun _ _=>rfl),HM9.out.kept (o9.other m (by omega))⟩ ?_ ((kp_at HH9.out.k o9.size o9.other (by omega) o9.os o9.tape o9.output).trans (KP.of (Below.refl _ _).drew))
   refine (HH9.out.c.px.grown (m:=w.heap.size+1) (fun g _ hg=>o9.other g hg) (by omega) ?_ ?_).same (Below.refl _ _).drew
   ·rintro rfl
    obtain ⟨n', hn'⟩:=HH9.out.c.px.mf
    obtain ⟨es,c,hm⟩:=hn'.map
    have:=HH9.out.q1
    rw [hm] at this;cases this
   ·rintro ⟨c,f', q⟩
    have:=HH9.out.q1
    rw [this] at q;cases q
structure Grew (w w' : World) (base e size:Nat) (v:Value) (n m:Nat) (xs news:List Value) (g cap:Nat):Prop where
 pre:w.ownsRow base e size v n xs
 own:w'.ownsRow base e size (.slice (some ⟨g,0,none⟩) (n+m) cap) (n+m) (xs++news)
 grown:w.grownBy w' v.ownBlock
 place:v.ownBlock=some g∨g=w.heap.size
 lt:g<w'.heap.size
theorem Grew.keepH {w w' : World} {base e size n m g cap:Nat} {v:Value} {xs news:List Value} (h:Grew w w' base e size v n m xs news g cap) {b e2:Nat} {cs:Array Value} (hb:w.heap[b]?=some (.cells cs e2 (0,0))) (he:e2≠e):w'.heap[b]?=some (.cells cs e2 (0,0)):=by
 refine (h.grown.block b (Array.getElem?_eq_some_iff.1 hb).1 (fun hv=>?_)).trans hb
 rcases h.pre.2 with ⟨h0,_⟩|⟨g', cap', cur,hv', _,hh,_⟩
 ·rw [h0] at hv;cases hv
 ·rw [hv'] at hv;cases hv;rw [hb] at hh;cases hh;exact he rfl
theorem Grew.keepO {w w' : World} {base e size n m g cap:Nat} {v:Value} {xs news:List Value} (h:Grew w w' base e size v n m xs news g cap) {base2 e2 sz2 n2:Nat} {v2:Value} {ys:List Value} (ho:w.ownsRow base2 e2 sz2 v2 n2 ys) (he:e2≠e):w'.ownsRow base2 e2 sz2 v2 n2 ys:=by
 refine ⟨ho.1,?_⟩
 rcases ho.2 with h' | ⟨g', cap', cur,hv,hg,hh,r⟩
 ·exact .inl h'
 ·exact .inr ⟨g', cap', cur,hv,hg,h.keepH hh he,r⟩
theorem Grew.size {w w' : World} {base e size n m g cap:Nat} {v:Value} {xs news:List Value} (h:Grew w w' base e size v n m xs news g cap):w.heap.size≤w'.heap.size:=h.grown.size
theorem alloc_new_at {Y:World} {b:Nat} {o:Obj} (hb:Y.heap.size=b):(Y.alloc o).heap[b]?=some o:=by subst hb;exact World.alloc_heap_new _ _
theorem heap_keep_alloc {Y:World} {b:Nat} {o o' : Obj} (h:Y.heap[b]?=some o):(Y.alloc o').heap[b]?=some o:=(Below.heap_alloc _ _ _ (Array.getElem?_eq_some_iff.1 h).1).trans h
theorem cells_at {X:World} {b:Nat} {cs:Array Value} {e:Nat} (h:X.heap[b]?=some (.cells cs e (0,0))):∀(j:Nat) (u:Value),cs.toList[j]?=some u→X.cell? ((⟨b,0,none⟩:Addr).add j)=some u:=by
 intro j u hu
 rw [ad_add,Nat.zero_add]
 simp only [World.cell?,h]
 simpa using hu
structure Evo (W w:World) (a b:Option Nat):Prop where
 os:w.os=W.os
 tape:w.tape=W.tape
 output:w.output=W.output
 size:W.heap.size≤w.heap.size
 block:∀g,g<W.heap.size→some g≠a→some g≠b→w.heap[g]?=W.heap[g]?
theorem Evo.refl (W:World) (a b:Option Nat):Evo W W a b:=⟨rfl,rfl,rfl,Nat.le_refl _,fun _ _ _ _=>rfl⟩
theorem Evo.drew {W w:World} {a b:Option Nat} (h:Evo W w a b):Evo W w.drew a b:=⟨h.os,h.tape,h.output,h.size,h.block⟩
theorem Evo.alloc {W w:World} {a b:Option Nat} (h:Evo W w a b) (o:Obj):Evo W (w.alloc o) a b:=⟨h.os,h.tape,h.output,by rw [World.size_alloc];have:=h.size;omega,fun g hg h1 h2=>(Below.heap_alloc _ _ _ (Nat.lt_of_lt_of_le hg h.size)).trans (h.block g hg h1 h2)⟩
theorem Evo.one {W w w' : World} {a b:Option Nat} (h:Evo W w a b) {base e size n m g cap:Nat} {v:Value} {xs news:List Value} (hg:Grew w w' base e size v n m xs news g cap) (hv:v.ownBlock=a):Evo W w' a b :=
 ⟨hg.grown.os.trans h.os,hg.grown.tape.trans h.tape,hg.grown.output.trans h.output,Nat.le_trans h.size hg.size,fun k hk h1 h2=>(hg.grown.block k (Nat.lt_of_lt_of_le hk h.size) (by rw [hv];exact h1)).trans (h.block k hk h1 h2)⟩
theorem Evo.two {W w w' : World} {a b:Option Nat} (h:Evo W w a b) {base e size n m g cap:Nat} {v:Value} {xs news:List Value} (hg:Grew w w' base e size v n m xs news g cap) (hv:v.ownBlock=b):Evo W w' a b :=
 ⟨hg.grown.os.trans h.os,hg.grown.tape.trans h.tape,hg.grown.output.trans h.output,Nat.le_trans h.size hg.size,fun k hk h1 h2=>(hg.grown.block k (Nat.lt_of_lt_of_le hk h.size) (by rw [hv];exact h2)).trans (h.block k hk h1 h2)⟩
theorem Evo.at {W w:World} {a b:Option Nat} (h:Evo W w a b) {g:Nat} {ob:Obj} (hg:W.heap[g]?=some ob) (h1:some g≠a) (h2:some g≠b):w.heap[g]?=some ob:=(h.block g (Array.getElem?_eq_some_iff.1 hg).1 h1 h2).trans hg
theorem own_ne {W:World} {base e sz n:Nat} {v:Value} {xs:List Value} (ho:W.ownsRow base e sz v n xs) {g:Nat} {ob:Obj} (hg:W.heap[g]?=some ob) (hne:∀cur,ob ≠ .cells cur e (0,0)):some g≠v.ownBlock:=by
 intro e0
 rcases ho.2 with ⟨h0,_⟩|⟨g', cap,cur,hv,_,hh,_⟩
 ·rw [h0] at e0;cases e0
 ·rw [hv] at e0;cases e0
  rw [hg] at hh;cases hh
  exact hne cur rfl
theorem PX.evo {W w:World} {B pb mb:Nat} {ps:List Int} {b1 b2 e1 e2 s1 s2 n1 n2:Nat} {v1 v2:Value} {x1 x2:List Value} (h:PX W B pb mb ps) (o1:W.ownsRow b1 e1 s1 v1 n1 x1) (o2:W.ownsRow b2 e2 s2 v2 n2 x2) (hev:Evo W w v1.ownBlock v2.ownBlock)
  (i1:e1≠3) (i2:e2≠3) (p1:e1≠106) (p2:e2≠106):PX w B pb mb ps:=by
 obtain ⟨v,hv,ho⟩:=h.ex
 obtain ⟨n,hn⟩:=h.mf
 obtain ⟨es,c,hm⟩:=hn.map
 refine ⟨⟨v,hev.at hv (own_ne o1 hv (fun cur e=>by cases e;exact p1 rfl)) (own_ne o2 hv (fun cur e=>by cases e;exact p2 rfl)),?_⟩,h.hB,⟨n,hn.kept ((hev.at hm (own_ne o1 hm (fun cur e=>by cases e)) (own_ne o2 hm (fun cur e=>by cases e))).trans hm.symm)⟩,h.hm⟩
 refine ⟨ho.1,?_⟩
 rcases ho.2 with h' | ⟨g', cap', cur,hv', hg,hh,r⟩
 ·exact .inl h'
 ·exact .inr ⟨g', cap', cur,hv', hg,hev.at hh (own_ne o1 hh (fun cur e=>by cases e;exact i1 rfl)) (own_ne o2 hh (fun cur e=>by cases e;exact i2 rfl)),r⟩
theorem NM.evo {W w:World} {m k:Nat} {l:List (List UInt8)} {b1 b2 e1 e2 s1 s2 n1 n2:Nat} {v1 v2:Value} {x1 x2:List Value} (h:NM W m k l) (o1:W.ownsRow b1 e1 s1 v1 n1 x1) (o2:W.ownsRow b2 e2 s2 v2 n2 x2) (hev:Evo W w v1.ownBlock v2.ownBlock):NM w m k l:=by
 obtain ⟨es,c,hm⟩:=h.map
 exact h.kept ((hev.at hm (own_ne o1 hm (fun cur e=>by cases e)) (own_ne o2 hm (fun cur e=>by cases e))).trans hm.symm)
theorem KP.evo {B:Nat} {X:Nat→Prop} {w0 W w:World} (h:KP B X w0 W) {b1 b2 e1 e2 s1 s2 n1 n2:Nat} {v1 v2:Value} {x1 x2:List Value} (o1:W.ownsRow b1 e1 s1 v1 n1 x1) (o2:W.ownsRow b2 e2 s2 v2 n2 x2) (hev:Evo W w v1.ownBlock v2.ownBlock) (h1:w0.heap.size≤b1) (h2:w0.heap.size≤b2):KP B X w0 w :=
 h.fresh hev.size (fun g hg=>hev.block g (Nat.lt_of_lt_of_le hg h.size) (fun e=>by have:=(o1.lt g e.symm).1;omega) (fun e=>by have:=(o2.lt g e.symm).1;omega)) hev.os hev.tape hev.output
theorem Ctx.evo {W0 W w:World} {B pb mb:Nat} {ps:List Int} {b1 b2 e1 e2 s1 s2 n1 n2:Nat} {v1 v2:Value} {x1 x2:List Value} (h:Ctx W0 W B pb mb ps) (o1:W.ownsRow b1 e1 s1 v1 n1 x1) (o2:W.ownsRow b2 e2 s2 v2 n2 x2) (hev:Evo W w v1.ownBlock v2.ownBlock)
  (i1:e1≠3) (i2:e2≠3) (p1:e1≠106) (p2:e2≠106) (h1:W0.heap.size≤b1) (h2:W0.heap.size≤b2):Ctx W0 w B pb mb ps :=
 ⟨⟨hev.os.trans h.hW.os,hev.tape.trans h.hW.tape,hev.output.trans h.hW.output,Nat.le_trans h.hW.size hev.size,fun g hg=>(hev.block g (Nat.lt_of_lt_of_le hg h.hW.size) (fun e=>by have:=(o1.lt g e.symm).1;omega) (fun e=>by have:=(o2.lt g e.symm).1;omega)).trans (h.hW.block g hg)⟩,h.hB,h.env,h.px.evo o1 o2 hev i1 i2 p1 p2⟩
theorem step_append_grew {w:World} {ops:Array Oper} {o:Oper} {a:Act} {K:Act→World→Prop} {Q:Exit→Act→World→Prop} {E:Prop} (hgd:o.guard=none) (s x:Operand) (t:TypeId)
  (ho:o.op = .call { callee := .builtin .append,args := #[s,x],argTypes := #[t,t] })
  (base:Nat) (e:TypeId) (i:TypeInfo) (z:Value) (size bytes:Nat) (ht:Tryz.prog.underlying t=some (.slice e)) (hi:Tryz.prog.info? e=some i) (hz:i.zero=some z)
  (hsize:i.size=size) (hby:i.bytes=bytes) (hzs:z.cells.size=size) (hsz:0<size)
  (v:Value) (n:Nat) (xs:List Value) (hs:a.eval s=v) (hown:w.ownsRow base e size v n xs)
  (ad:Addr) (m c:Nat) (news:List Value) (hx:a.eval x = .slice (some ad) m c) (hl:news.length=m*size) (hnews:∀j u,news[j]?=some u→w.cell? (ad.add j)=some u) (h1:∀u∈news,u.oneCell' = true)
  (hm:0<m) (h63:n+m≤maxLen) (hbytes:(n+m)*bytes≤140737488355328) (hbase:base≤w.heap.size)
  (h:∀g cap w', Grew w w' base e size v n m xs news g cap→K (a.put o.dst (.slice (some ⟨g,0,none⟩) (n+m) cap)) w') :
  if Region.wanted o (yielded ops a.tmps)=true then Oper.wp Tryz.prog o a w K Q else E :=
 step_append_lies w hgd s x t ho base e i z size bytes ht hi hz hsize hby hzs hsz v n xs hs hown ad m c news hx hl hnews h1 hm h63 hbytes hbase _ rfl fun g cap w' k1 k2 k3 k4=>h g cap w' ⟨hown,k1,k2,k3,k4⟩
def behindB (l:List (List UInt8)) (g:Fm) (x:PR (List (List UInt8) × Fm)):PR (List (List UInt8) × Fm):=x.then fun r => .ok (l++r.1,g.app r.2)
theorem behindB_nil (x:PR (List (List UInt8) × Fm)):behindB [] .nil x=x:=by cases x<;>rfl
theorem binds_step (R:Dt→PR Frm) (l:List (List UInt8)) (g:Fm) (i:Int) (k n:Int) (t:List UInt8) (s:Fo) (d:Bool) (r:Fo):behindB l g (bindsM R l i (.cons k n t s d r))=match bindM R l ⟨k,n,t,s,d⟩ with | .bad e p => .bad e (i::p) | .ok y=>behindB (l++[y.1]) (g.app (y.2.fm .nil)) (bindsM R (l++[y.1]) (i+1) r):=by
 rw [show bindsM R l i (.cons k n t s d r)=((bindM R l ⟨k,n,t,s,d⟩).within i).then fun x=>(bindsM R (l++[x.1]) (i+1) r).then fun y => .ok (x.1::y.1,x.2.fm y.2) from rfl]
 cases bindM R l ⟨k,n,t,s,d⟩ with
 | bad e p=>rfl
 | ok a =>
  simp only [PR.within,PR.then]
  cases bindsM R (l++[a.1]) (i+1) r with
  | bad e p=>rfl
  | ok q=>simp only [behindB,PR.then,Fm.app_assoc,List.append_assoc];rfl
abbrev soFar (l:List (List UInt8)) (g:Fm):Frm:={ frm0 with names:=l,kids:=g }
theorem grow_both {w7 wf:World} {base c gs gf:Nat} {l:List (List UInt8)} {g:Fm} {a:List UInt8} {f:Frm} {nv uv nv' uv' fn fk fd:Value} {bs nbs kbs dbs:List Nat} {kcs:List Value} (hnd:bs.Nodup) (hbs:bs=own1 nv++(own1 uv++kbs)++(own1 (.slice none 0 0)++dbs)) (hr:FRow w7 base g kcs kbs)
  (h1:FOne w7 c f fn fk fd nbs) (hc:∀y∈bs,y<c) (hbc:base≤c) (hn:wf.ownsRow base 9 1 nv' (l.length+1) (l.map S++[S a]))
  (hu:wf.ownsRow base 36 9 uv' (g.len+1) (kcs++[.int .u8 f.kind,S f.text,fn,fk, .int .u8 f.dat.k, .int .i64 f.dat.n,S f.dat.t,fd, .bool f.dat.d]))
  (eN:nv'.ownBlock=some gs) (eU:uv'.ownBlock=some gf) (pN:nv.ownBlock=some gs∨w7.heap.size≤gs) (pU:uv.ownBlock=some gf∨w7.heap.size≤gf) (EV:Evo w7 wf nv.ownBlock uv.ownBlock) :
  ∃bs', FOne wf base (soFar (l++[a]) (g.app (f.fm .nil))) nv' uv' (.slice none 0 0) bs' := by
 have hk:∀y∈kbs,some y≠nv.ownBlock∧some y≠uv.ownBlock∧y<c:=by
  intro y hy
  rw [hbs,List.nodup_append] at hnd
  obtain ⟨h2,_,_⟩:=hnd
  rw [List.nodup_append] at h2
  obtain ⟨_,h4,h5⟩:=h2
  rw [List.nodup_append] at h4
  exact ⟨fun e=>h5 y (mem_own1.2 e.symm) y (List.mem_append_right _ hy) rfl,fun e=>h4.2.2 y (mem_own1.2 e.symm) y hy rfl,hc y (by rw [hbs];simp [hy])⟩
 have ho:∀y,(nv.ownBlock=some y∨uv.ownBlock=some y)→y<c:=fun y hy=>hc y (by rw [hbs];rcases hy with h|h<;>simp [mem_own1,h])
 have hn2:∀y∈nbs,some y≠nv.ownBlock∧some y≠uv.ownBlock∧c≤y∧y<w7.heap.size:=by
  intro y hy
  have:=h1.lt y hy
  exact ⟨fun e=>by have:=ho y (.inl e.symm);omega,fun e=>by have:=ho y (.inr e.symm);omega,this.1,this.2⟩
 have hk2:∀y∈kbs,y<w7.heap.size:=fun y hy=>(hr.lt y hy).2
 have hx:∀y,y∈kbs++nbs→y≠gs∧y≠gf:=by
  intro y hy
  rcases List.mem_append.1 hy with h|h
  ·have h3:=hk y h
   have h4:=hk2 y h
   refine ⟨fun e=>?_,fun e=>?_⟩
   ·subst e;rcases pN with p|p
    ·exact h3.1 p.symm
    ·omega
   ·subst e;rcases pU with p|p
    ·exact h3.2.1 p.symm
    ·omega
  ·have h3:=hn2 y h
   refine ⟨fun e=>?_,fun e=>?_⟩
   ·subst e;rcases pN with p|p
    ·exact h3.1 p.symm
    ·omega
   ·subst e;rcases pU with p|p
    ·exact h3.2.1 p.symm
    ·omega
 have hne:gs≠gf:=by
  intro e
  subst e
  rcases hn.2 with ⟨h0,_⟩|⟨g', cap,cur,hv,_,hh,_⟩
  ·rw [h0] at eN;cases eN
  ·rw [hv] at eN;cases eN
   rcases hu.2 with ⟨h0,_⟩|⟨g2,cap2,cur2,hv2,_,hh2,_⟩
   ·rw [h0] at eU;cases eU
   ·rw [hv2] at eU;cases eU
    rw [hh] at hh2;cases hh2
 have hrow:FRow wf base (g.app (f.fm .nil)) (kcs++[.int .u8 f.kind,S f.text,fn,fk, .int .u8 f.dat.k, .int .i64 f.dat.n,S f.dat.t,fd, .bool f.dat.d]) (kbs++nbs) :=
  (hr.kept fun y hy=>EV.block y (hk2 y hy) (hk y hy).1 (hk y hy).2.1).app ((h1.fm.kept fun y hy=>EV.block y (hn2 y hy).2.2.2 (hn2 y hy).1 (hn2 y hy).2.1).mono hbc)
 refine ⟨_,⟨_,_,[],[],rfl,?_,⟨?_,hrow⟩,World.ownsRow_nil _ _ _ _,rfl,rfl⟩,?_⟩
 ·show wf.ownsRow _ _ _ _ (l++[a]).length ((l++[a]).map S)
  rw [List.length_append,List.map_append];exact hn
 ·show wf.ownsRow _ _ _ _ (g.app (f.fm .nil)).len _
  rw [Fm.len_app];exact hu
 ·have e1:own1 nv' = [gs]:=by unfold own1;rw [eN];rfl
  have e2:own1 uv' = [gf]:=by unfold own1;rw [eU];rfl
  rw [own1_nil,List.append_nil,List.append_nil,e1,e2]
  show (gs::gf::(kbs++nbs)).Nodup
  refine List.nodup_cons.2 ⟨fun h=>?_,List.nodup_cons.2 ⟨fun h=>(hx _ h).2 rfl,?_⟩⟩
  ·rcases List.mem_cons.1 h with h|h
   ·exact hne h
   ·exact (hx _ h).1 rfl
  ·rw [List.nodup_append]
   refine ⟨?_,h1.nodup,fun y hy z hz e=>?_⟩
   ·rw [hbs,List.nodup_append] at hnd
    obtain ⟨h2,_,_⟩:=hnd
    rw [List.nodup_append] at h2
    exact (List.nodup_append.1 h2.2.1).2.1
   ·subst e
    have:=(hk y hy).2.2
    have:=(hn2 y hz).2.2.1
    omega
theorem binds_any {K:Nat} (hF:FormC K) (W:World) (B pb mb:Nat) (ps:List Int) (x:Dt) (rk:Option Addr) (ck:Nat) (w:World) (hC:Ctx W w B pb mb ps) (hl:ps.length+2+4*K≤900) (hX:DOk x) (hdp:x.s.dpt≤K+1) (hR:RS W rk x.s) :
  Calls Tryz.prog 146 #[.pointer (some ⟨pb,0,none⟩),datV x (.slice rk x.s.len ck)] w (Gone B (isP pb) pb mb ps w (bindsD (formM K true) x) fun y e w' => ∃nv uv bs,e = .returned (.tuple #[nv,uv])∧FOne w' w.heap.size (soFar y.1 y.2) nv uv (.slice none 0 0) bs):=by
 obtain ⟨i0,hi0,hz0,hz1,hz2⟩:=info_parts infoStr
 obtain ⟨i1,hi1,hy0,hy1,hy2⟩:=info_parts infoFrm
 obtain ⟨W1,hW1⟩:∃W1,w.alloc (boxD x (.slice rk x.s.len ck))=W1:=⟨_,rfl⟩
 have a1:=(Below.refl _ w).alloc (Nat.le_refl w.heap.size) (boxD x (.slice rk x.s.len ck))
 have HB1:Hid (Below w.heap.size w W1):=by rw [←hW1];exact a1
 have HC1:Hid (Ctx W W1 B pb mb ps):=by rw [←hW1];exact hC.same a1
 have hq0:W1.heap[w.heap.size]?=some (.cells #[.int .u8 x.k, .int .i64 x.n,S x.t, .slice rk x.s.len ck, .bool x.d] 32 (0,0)):=by rw [←hW1];exact World.alloc_heap_new _ _
 have HQ:Hid _:=hq0
 obtain ⟨c0,c1,c2,c3,c4,_⟩:=cells5 hq0
 have HX:Hid (DOk x):=hX
 have HF:Hid (FormC K):=hF
 have HPB:Hid (B≤pb∧pb<w.heap.size):=⟨hC.px.hB,hC.px.lt⟩
 have hlen:=hX.len
 clear hC a1 hX hq0 hF
 cases hL:isListB x.k x.d with
 | false =>
  have HD:Hid (bindsD (formM K true) x = .bad 70 []):=by show _=_;unfold bindsD;rw [hL];rfl
  have HL:Hid _:=hL
  rw [HD.out]
  clear hL hR
  go_enter Tryz.func146,Tryz.ntmps146
  go_upto_region 1 with fail
  clear hW1
  go_wp2_with fail
  refine (mustBe_any B pb mb ps x (.slice rk x.s.len ck) W1 HC1.out.px (by omega) ⟨_,_,rfl⟩).mono ?_
  rw [HL.out]
  rintro e w1 ⟨v', rfl,h1,h2⟩
  go_wp2_with fail
  exact ⟨rfl,GaveUp.elder ⟨v', rfl,h1,h2⟩ (KP.of HB1.out)⟩
 | true =>
  have HD:Hid (bindsD (formM K true) x=bindsM (formM K true) [] 0 x.s):=by show _=_;unfold bindsD;rw [hL];rfl
  have HL:Hid _:=hL
  obtain ⟨b,o,hab,hRd⟩:=hR
  have Hra:Hid (x.s.len≠0→rk=some ⟨b,o,none⟩):=fun h=>hab.resolve_left h
  have HRd:Hid (Rd W b o x.s):=hRd
  rw [HD.out]
  clear hL hab hRd
  go_enter Tryz.func146,Tryz.ntmps146
  go_upto_region 1 with fail
  clear hW1
  go_wp2_with fail
  refine (mustBe_any B pb mb ps x (.slice rk x.s.len ck) W1 HC1.out.px (by omega) ⟨_,_,rfl⟩).mono ?_
  rw [HL.out]
  rintro e w1 ⟨⟨v', rfl⟩,hp1,hk1⟩
  have HK1:Hid (KP B (isP pb) w w1):=(KP.of HB1.out).trans hk1
  have HC2:Hid (Ctx W w1 B pb mb ps):=HC1.out.kpp hk1 hp1
  have q1:=hk1.at HQ.out (by decide) (by have:=HPB.out;show ¬ _=pb;omega)
  have HQ1:Hid _:=q1
  clear c0 c1 c2 c3 c4 hp1 hk1
  obtain ⟨c0,c1,c2,c3,c4,_⟩:=cells5 q1
  clear q1
  have mm:(Instr.makeMap 137 none).run Tryz.prog w1 = .ok (.map (some w1.heap.size)) (w1.alloc (.map #[] 0)):=run_makeMap (P:=Tryz.prog) 137 w1
  have a2:=(Below.refl _ w1).alloc (Nat.le_refl w1.heap.size) (.map #[] 0)
  have HM2:Hid (NM (w1.alloc (.map #[] 0)) w1.heap.size 0 []):=NM.made w1
  have HC3:Hid (Ctx W (w1.alloc (.map #[] 0)) B pb mb ps):=HC2.out.same a2
  have HK3:Hid (KP B (isP pb) w (w1.alloc (.map #[] 0))):=HK1.out.trans (KP.of a2)
  have hws:w.heap.size<w1.heap.size:=(Array.getElem?_eq_some_iff.1 HQ1.out).1
  have HMm:Hid (w1.heap.size≠mb):=by
   obtain ⟨n,hn⟩:=HC2.out.px.mf
   obtain ⟨es,c,hm⟩:=hn.map
   have:=(Array.getElem?_eq_some_iff.1 hm).1
   show _≠_;omega
  have HQ2:Hid ((w1.alloc (.map #[] 0)).heap[w.heap.size]?=some (.cells #[.int .u8 x.k, .int .i64 x.n,S x.t, .slice rk x.s.len ck, .bool x.d] 32 (0,0))):=(a2.block _ hws).trans HQ1.out
  have HZ:Hid ((w1.alloc (.map #[] 0)).heap.size=w1.heap.size+1):=by show _=_;simp
  generalize hm0:w1.heap.size=m at *
  clear a2 HQ1 HC2 HK1 HC1
  go_upto_region 5 with fail
  generalize w1.alloc (.map #[] 0)=w2 at *
  clear mm
  obtain ⟨c0', c1', c2', c3', c4', _⟩:=cells5 HQ2.out
  go_wp2
  clear c0 c1 c2 c3 c4 c0' c1' c2' c3' c4'
  go_loopw [6,7,20] (fun nv uv i wr=>∃(j:Nat) (q fi:Fo) (l:List (List UInt8)) (g:Fm) (bs:List Nat),i = .int .i64 j∧fi.len+j=x.s.len∧Hid (l.length=j∧g.len=j)∧Hid (x.s=q.app fi)∧Hid (Rd W b (o+j*5) fi)∧Hid (NM wr m j l)∧Hid (FOne wr (m+1) (soFar l g) nv uv (.slice none 0 0) bs)∧Hid (Ctx W wr B pb mb ps)∧Hid (KP B (isP pb) w wr)∧Hid (m<wr.heap.size)∧Hid (bindsM (formM K true) [] 0 x.s=behindB l g (bindsM (formM K true) l j fi))) (fun _ _ i _=>x.s.len-(intOf i).toNat)
  case atStart =>
   refine ⟨0, .nil,x.s,[], .nil,[],rfl,by simp,⟨rfl,rfl⟩,rfl,by simpa using HRd,HM2,?_,HC3,HK3,by show m<_;have:=HZ.out;omega,by show _=_;rw [behindB_nil];rfl⟩
   exact ⟨⟨[],[],[],[],by simp [own1_nil],World.ownsRow_nil _ _ _ _,⟨World.ownsRow_nil _ _ _ _,rfl,rfl⟩,World.ownsRow_nil _ _ _ _,rfl,rfl⟩,List.nodup_nil⟩
  case round =>
   obtain ⟨j,q,fi,l,g,bs,rfl,hj,HLL,HXq,HFr,HM,HO,HC,HK,HS,HE⟩:=hrel
   have hmw:w.heap.size<m:=hws
   have hxo:=HX.out
   obtain ⟨ra,cv,ra2,cv2,ra3,cv3,rfl,rfl,hnil⟩:=HO.out.slices
   clear hnil
   cases fi with
   | nil =>
    have hj' : j=x.s.len:=by simpa [Fo.len] using hj
    have k1:¬ ((j:Int)<(x.s.len:Int)):=by omega
    clear hj hj' hxo
    go_wp2
    go_ret2
    rw [HE.out,show behindB l g (bindsM (formM K true) l j .nil) = .ok (l++[],g.app .nil) from rfl]
    refine Gone.ok ?_ HC.out.px HK.out
    rw [List.append_nil,Fm.app_nil]
    exact ⟨_,_,rfl,bs,HO.out.mono (Nat.le_of_lt (Nat.lt_succ_of_lt hmw))⟩
   | cons k n t s d r =>
    simp only [Fo.len] at hj
    have k1:(j:Int)<(x.s.len:Int):=by omega
    have hra:=Hra.out (by omega)
    subst hra
    obtain ⟨hb0,hsl,rk2,ck2,d0,d1,d2,d3,d4,hrs,hr⟩:=rd_cons HFr.out
    have HRk:Hid (RS W rk2 s):=hrs
    have Hr:Hid (Rd W b (o+j*5+5) r):=hr
    have HOk:Hid (DOk ⟨k,n,t,s,d⟩):=hxo.kid HXq.out
    have HDp:Hid (s.dpt≤K):=by
     have:=Fo.dpt_app (k:=k) (n:=n) (t:=t) (s:=s) (d:=d) (r:=r) q
     have h2:=HXq.out
     show _≤_
     rw [←h2] at this;omega
    have bel:=HC.out.hW
    have e0:=(bel.cell (p:=⟨b,_,none⟩) hb0).trans d0
    have e1:=(bel.cell (p:=⟨b,_,none⟩) hb0).trans d1
    have e2:=(bel.cell (p:=⟨b,_,none⟩) hb0).trans d2
    have e3:=(bel.cell (p:=⟨b,_,none⟩) hb0).trans d3
    have e4:=(bel.cell (p:=⟨b,_,none⟩) hb0).trans d4
    have hst:=binds_step (formM K true) l g j k n t s d r
    rw [←HE.out] at hst
    have HST:Hid _:=hst
    obtain ⟨w3,hw3⟩:∃w3,wr.alloc (boxD ⟨k,n,t,s,d⟩ (.slice rk2 s.len ck2))=w3:=⟨_,rfl⟩
    have a3:=(Below.refl _ wr).alloc (Nat.le_refl wr.heap.size) (boxD ⟨k,n,t,s,d⟩ (.slice rk2 s.len ck2))
    have q3:w3.heap[wr.heap.size]?=some (.cells #[.int .u8 k, .int .i64 n,S t, .slice rk2 s.len ck2, .bool d] 32 (0,0)):=by rw [←hw3];exact World.alloc_heap_new _ _
    rw [hw3] at a3
    have HQ3:Hid _:=q3
    have HC3:Hid (Ctx W w3 B pb mb ps):=HC.out.same a3
    have HK3:Hid (KP B (isP pb) w w3):=HK.out.trans (KP.of a3)
    have HM3:Hid (NM w3 m j l):=HM.out.kept (a3.block _ HM.out.lt)
    have HO3:Hid (FOne w3 (m+1) (soFar l g) (.slice ra l.length cv) (.slice ra2 g.len cv2) (.slice none 0 0) bs):=HO.out.kept (fun g hg=>a3.block g (HO.out.lt g hg).2)
    have hs3:=a3.size
    have hsm:=HS.out
    have hpb:=HPB.out
    clear a3 q3 d0 d1 d2 d3 d4 hrs hr bel hst hxo hb0
    have HEnt:=enter_any B pb mb ps j w3 HC3.out.px (by omega) (by have:=HC3.out.px.hB;have:=HC3.out.px.lt;omega)
    cases hx:bindM (formM K true) l ⟨k,n,t,s,d⟩ with
    | bad er p =>
     have HNW:Hid (bindM (formM K true) l ⟨k,n,t,s,d⟩ = .bad er p):=hx
     have HR:Hid (bindsM (formM K true) [] 0 x.s = .bad er (j::p)):=by show _=_;rw [HST.out,hx]
     clear hx
     go_wp2_with fail
     refine HEnt.mono ?_
     rintro e w4 ⟨⟨v4,rfl⟩,hp4,hk4⟩
     have q4:=hk4.at HQ3.out (by decide) (by show ¬ _=pb;omega)
     obtain ⟨c0,c1,c2,c3,c4,_⟩:=cells5 q4
     have HC4:Hid (Ctx W w4 B pb mb (ps++[(j:Int)])):=HC3.out.kpp hk4 hp4
     have HK4:Hid (KP B (isP pb) w w4):=HK3.out.trans hk4
     have HM4:Hid (NM w4 m j l):=HM3.out.kept (hk4.block _ HM3.out.lt (by show ¬ _=pb;omega) (.inr HM3.out.notInt))
     clear q4 hp4 hk4 e0 e1 e2 e3 e4 HEnt
     go_wp2_with fail
     refine (binding_any HF.out W B pb mb m j (ps++[(j:Int)]) ⟨k,n,t,s,d⟩ rk2 ck2 l w4 HC4.out (by simp;omega) HOk.out HDp.out HRk.out HM4.out (by omega) HMm.out (by have:=HC4.out.px.hB;omega)).mono ?_
     rw [HNW.out]
     rintro e w5 ⟨v5,rfl,h1,h2⟩
     go_wp2_with fail
     refine ⟨rfl,?_⟩
     rw [HR.out]
     exact (GaveUp.elder (GaveUp.cast ⟨v5,rfl,h1,h2⟩ (by simp)) (HK4.out.mono fun g _ h => .inl h)).more fun g hg h=>h.resolve_right (by omega)
    | ok y =>
     obtain ⟨a,f⟩:=y
     have HNW:Hid (bindM (formM K true) l ⟨k,n,t,s,d⟩ = .ok (a,f)):=hx
     have HST2:Hid (bindsM (formM K true) [] 0 x.s=behindB (l++[a]) (g.app (f.fm .nil)) (bindsM (formM K true) (l++[a]) ((j:Int)+1) r)):=by show _=_;rw [HST.out,hx]
     clear hx
     go_wp2_with fail
     refine HEnt.mono ?_
     rintro e w4 ⟨⟨v4,rfl⟩,hp4,hk4⟩
     have q4:=hk4.at HQ3.out (by decide) (by show ¬ _=pb;omega)
     obtain ⟨c0,c1,c2,c3,c4,_⟩:=cells5 q4
     have HC4:Hid (Ctx W w4 B pb mb (ps++[(j:Int)])):=HC3.out.kpp hk4 hp4
     have HK4:Hid (KP B (isP pb) w w4):=HK3.out.trans hk4
     have HM4:Hid (NM w4 m j l):=HM3.out.kept (hk4.block _ HM3.out.lt (by show ¬ _=pb;omega) (.inr HM3.out.notInt))
     have HO4:Hid (FOne w4 (m+1) (soFar l g) (.slice ra l.length cv) (.slice ra2 g.len cv2) (.slice none 0 0) bs):=HO3.out.keep hk4 (fun g h1 _=>by show ¬ _=pb;omega)
     clear q4 hp4 hk4 e0 e1 e2 e3 e4 HEnt
     go_wp2_with fail
     refine (binding_any HF.out W B pb mb m j (ps++[(j:Int)]) ⟨k,n,t,s,d⟩ rk2 ck2 l w4 HC4.out (by simp;omega) HOk.out HDp.out HRk.out HM4.out (by omega) HMm.out (by have:=HC4.out.px.hB;omega)).mono ?_
     rw [HNW.out]
     rintro e w5 ⟨⟨fn,fk,fd,nbs,rfl,hone,hm5⟩,hp5,hk5⟩
     obtain ⟨b1,g1,b2,g2,b3,g3,rfl,rfl,rfl⟩:=hone.slices
     have hs5:=hk5.size
     have hms:m<w4.heap.size:=HM4.out.lt
     have HC5:Hid (Ctx W w5 B pb mb (ps++[(j:Int)])):=HC4.out.kp hk5 (fun g hg=>hg.elim (fun e=>by omega) (fun e=>by have:=HC4.out.px.hB;have:=hpb;omega)) hp5
     have HK5:Hid (KP B (isP pb) w w5):=(HK4.out.mono fun g _ h => .inl h).trans hk5 |>.mono fun g hg h=>h.resolve_right (by omega)
     have HO5:Hid (FOne w5 (m+1) (soFar l g) (.slice ra l.length cv) (.slice ra2 g.len cv2) (.slice none 0 0) bs):=HO4.out.keep hk5 (fun g h1 _=>by show ¬ (_=pb∨_=m);omega)
     have HM5:Hid (NM w5 m (j+1) (l++[a])):=hm5
     have Hone:Hid (FOne w5 w4.heap.size f (.slice b1 f.names.length g1) (.slice b2 f.kids.len g2) (.slice b3 f.dat.s.len g3) nbs):=hone
     have Hbs:Hid (∀y∈bs,y<w4.heap.size):=fun y hy=>(HO4.out.lt y hy).2
     obtain ⟨w6,hw6⟩:∃w6,w5.alloc (Z9 f (.slice b1 f.names.length g1) (.slice b2 f.kids.len g2) (.slice b3 f.dat.s.len g3))=w6:=⟨_,rfl⟩
     have a6:=(Below.refl _ w5).alloc (Nat.le_refl w5.heap.size) (Z9 f (.slice b1 f.names.length g1) (.slice b2 f.kids.len g2) (.slice b3 f.dat.s.len g3))
     have q6:w6.heap[w5.heap.size]?=some (.cells #[.int .u8 f.kind,S f.text, .slice b1 f.names.length g1, .slice b2 f.kids.len g2, .int .u8 f.dat.k, .int .i64 f.dat.n,S f.dat.t, .slice b3 f.dat.s.len g3, .bool f.dat.d] 36 (0,0)):=by rw [←hw6];exact World.alloc_heap_new _ _
     rw [hw6] at a6
     have HQ6:Hid _:=q6
     have HC6:Hid (Ctx W w6 B pb mb (ps++[(j:Int)])):=HC5.out.same a6
     have HK6:Hid (KP B (isP pb) w w6):=HK5.out.trans (KP.of a6)
     have HO6:Hid (FOne w6 (m+1) (soFar l g) (.slice ra l.length cv) (.slice ra2 g.len cv2) (.slice none 0 0) bs):=HO5.out.kept (fun g hg=>a6.block g (HO5.out.lt g hg).2)
     have HM6:Hid (NM w6 m (j+1) (l++[a])):=HM5.out.kept (a6.block _ HM5.out.lt)
     have Hone6:Hid (FOne w6 w4.heap.size f (.slice b1 f.names.length g1) (.slice b2 f.kids.len g2) (.slice b3 f.dat.s.len g3) nbs):=Hone.out.kept (fun g hg=>a6.block g (Hone.out.lt g hg).2)
     clear hp5 hk5 hm5 c0 c1 c2 c3 c4 hone a6 q6
     go_wp2_with fail
     refine (leave_any B pb mb ps j w6 HC6.out.px (by omega)).mono ?_
     rintro e w7 ⟨⟨v7,rfl⟩,hp7,hk7⟩
     have HC7:Hid (Ctx W w7 B pb mb ps):=HC6.out.kpp hk7 hp7
     have HK7:Hid (KP B (isP pb) w w7):=HK6.out.trans hk7
     have HM7:Hid (NM w7 m (j+1) (l++[a])):=HM6.out.kept (hk7.block _ HM6.out.lt (by show ¬ _=pb;omega) (.inr HM6.out.notInt))
     have HO7:Hid (FOne w7 (m+1) (soFar l g) (.slice ra l.length cv) (.slice ra2 g.len cv2) (.slice none 0 0) bs):=HO6.out.keep hk7 (fun g h1 _=>by show ¬ _=pb;omega)
     have Hone7:Hid (FOne w7 w4.heap.size f (.slice b1 f.names.length g1) (.slice b2 f.kids.len g2) (.slice b3 f.dat.s.len g3) nbs):=Hone6.out.keep hk7 (fun g h1 _=>by show ¬ _=pb;omega)
     have q7:=hk7.at HQ6.out (by decide) (by show ¬ _=pb;omega)
     have hs57:w5.heap.size<w7.heap.size:=(Array.getElem?_eq_some_iff.1 q7).1
     obtain ⟨⟨u0,u1,u2,u3,u4,u5,u6,u7,u8⟩,_⟩:=cells9 q7
     obtain ⟨kcs,kbs,dcs,dbs,hbs,hn1,⟨hn2,hn3⟩,hn4,hn5⟩:=HO7.out.row
     have HN1:Hid (w7.ownsRow (m+1) 9 1 (.slice ra l.length cv) l.length (l.map S)):=hn1
     have HN2:Hid (w7.ownsRow (m+1) 36 9 (.slice ra2 g.len cv2) g.len kcs):=hn2
     have hm7:m+1≤w7.heap.size:=by have:=HM7.out.lt;omega
     have HQ7:Hid (w7.heap[w5.heap.size]?=some (.cells #[.int .u8 f.kind,S f.text, .slice b1 f.names.length g1, .slice b2 f.kids.len g2, .int .u8 f.dat.k, .int .i64 f.dat.n,S f.dat.t, .slice b3 f.dat.s.len g3, .bool f.dat.d] 36 (0,0))):=q7
     clear hp7 hk7 q7 hn1 hn2
     go_upto_region 11 with fail
     go_region_law (first
      | (refine step_append_grew rfl _ _ 25 rfl (m+1) 9 i0 (.string ⟨#[]⟩) 1 16 Tryz.underlying25 hi0 hz0 hz1 hz2 rfl (by decide) (.slice ra l.length cv) l.length (l.map S) rfl (by repeat' (first|exact HN1.out|apply World.ownsRow.alloc|exact (Grew.keepO (by assumption) (by repeat' (first|exact HN1.out|apply World.ownsRow.alloc)) (by decide)))) ⟨_,0,none⟩ 1 1 [S a] rfl rfl (cells_at (cs := #[S a]) (by repeat' (first|exact alloc_new_at (by simp)|apply heap_keep_alloc|exact (Grew.keepH (by assumption) (by repeat' (first|exact alloc_new_at (by simp)|apply heap_keep_alloc)) (by decide))))) (by intro u hu;simp at hu;subst hu;rfl) (by omega) (by have:=HLL.out;unfold maxLen;omega) (by have:=HLL.out;omega) (by first|(simp;omega)|(have:=Grew.size (by assumption);simp at this ⊢; omega)) ?_;intro gs cps ws G1;(try obtain ⟨⟨t0,t1,t2,t3,t4,t5,t6,t7,t8⟩,_⟩:=cells9 (G1.keepH (b:=w5.heap.size) (by repeat' (first|exact HQ7.out|apply heap_keep_alloc)) (by decide))))
      | (refine step_append_grew rfl _ _ 34 rfl (m+1) 36 i1 (.agg #[.int .u8 0, .string ⟨#[]⟩, .slice none 0 0, .slice none 0 0, .int .u8 0, .int .i64 0, .string ⟨#[]⟩, .slice none 0 0, .bool false]) 9 136 Tryz.underlying34 hi1 hy0 hy1 hy2 rfl (by decide) (.slice ra2 g.len cv2) g.len kcs rfl (by repeat' (first|exact HN2.out|apply World.ownsRow.alloc|exact (Grew.keepO (by assumption) (by repeat' (first|exact HN2.out|apply World.ownsRow.alloc)) (by decide)))) ⟨_,0,none⟩ 1 1 [.int .u8 f.kind,S f.text, .slice b1 f.names.length g1, .slice b2 f.kids.len g2, .int .u8 f.dat.k, .int .i64 f.dat.n,S f.dat.t, .slice b3 f.dat.s.len g3, .bool f.dat.d] rfl rfl (cells_at (cs := #[.int .u8 f.kind,S f.text, .slice b1 f.names.length g1, .slice b2 f.kids.len g2, .int .u8 f.dat.k, .int .i64 f.dat.n,S f.dat.t, .slice b3 f.dat.s.len g3, .bool f.dat.d]) (by repeat' (first|exact alloc_new_at (by simp)|apply heap_keep_alloc|exact (Grew.keepH (by assumption) (by repeat' (first|exact alloc_new_at (by simp)|apply heap_keep_alloc)) (by decide))))) Hone7.out.fm.one (by omega) (by have:=HLL.out;unfold maxLen;omega) (by have:=HLL.out;omega) (by first|(simp;omega)|(have:=Grew.size (by assumption);simp at this ⊢; omega)) ?_;intro gf cpf wf G2))
     all_goals
      have EV7:Evo w7 wf (Value.slice ra l.length cv).ownBlock (Value.slice ra2 g.len cv2).ownBlock:=by
       refine Evo.two ?_ G2 rfl
       repeat' (first|exact Evo.refl _ _ _|apply Evo.alloc|apply Evo.drew|(refine Evo.one ?_ G1 rfl))
      have hnf:wf.ownsRow (m+1) 9 1 (.slice (some ⟨gs,0,none⟩) (l.length+1) cps) (l.length+1) (l.map S++[S a]):=G2.keepO (by repeat' (first|exact G1.own|apply World.ownsRow.alloc)) (by decide)
      have pS:(Value.slice ra l.length cv).ownBlock=some gs∨w7.heap.size≤gs:=G1.place.imp id (fun h=>by rw [h];simp;try omega)
      have pF:(Value.slice ra2 g.len cv2).ownBlock=some gf∨w7.heap.size≤gf:=G2.place.imp id (fun h=>by have:=G1.size;simp at this;rw [h];simp;try omega)
      obtain ⟨bs2,hone2⟩:=grow_both (l:=l) (a:=a) HO7.out.nodup hbs hn3 Hone7.out Hbs.out (by omega) hnf G2.own rfl rfl pS pF EV7
      have hpw:=HPB.out
      have hcB:=HC7.out.hB
      have HOf:Hid (∃bs', FOne wf (m+1) (soFar (l++[a]) (g.app (f.fm .nil))) (.slice (some ⟨gs,0,none⟩) (l.length+1) cps) (.slice (some ⟨gf,0,none⟩) (g.len+1) cpf) (.slice none 0 0) bs'):=⟨bs2,hone2⟩
      have HCf:Hid (Ctx W wf B pb mb ps):=HC7.out.evo HN1.out HN2.out EV7 (by decide) (by decide) (by decide) (by decide) (by omega) (by omega)
      have HKf:Hid (KP B (isP pb) w wf):=HK7.out.evo HN1.out HN2.out EV7 (by omega) (by omega)
      have HMf:Hid (NM wf m (j+1) (l++[a])):=HM7.out.evo HN1.out HN2.out EV7
      have HSf:Hid (m<wf.heap.size):=HMf.out.lt
      have HLf:Hid ((l++[a]).length=j+1∧(g.app (f.fm .nil)).len=j+1):=by
       show _∧_
       have:=HLL.out
       rw [Fm.len_app,List.length_append]
       simp only [Frm.len1,List.length_singleton]
       omega
      clear EV7 hnf pS pF hone2 G1 G2 t0 t1 t2 t3 t4 t5 t6 t7 t8 u0 u1 u2 u3 u4 u5 u6 u7 u8 hn3 hn4 hn5 hbs
      go_wp2_with fail
      go_roundw
      case rel =>
       obtain ⟨bs3,h3⟩:=HOf.out
       exact ⟨j+1,q.app (.cons k n t s d .nil),r,l++[a],g.app (f.fm .nil),bs3,by go_num,by omega,HLf.out,by show _=_;rw [app_cons];exact HXq.out,by rw [show o+(j+1)*5=o+j*5+5 by omega];exact Hr.out,HMf.out,h3,HCf.out,HKf.out,HSf.out,by show _=_;rw [HST2.out];rfl⟩
      case measure=>simp [intOf];omega
end Go.Proofs.YtkgnigloboajcaaGreatDoor
