/- What a list is by its first Kid.; A keyword's list.; form, of any datum. -/
import Derived.Test.YtkgnigloboajcaaGreatDoorK24
set_option maxRecDepth 100000
set_option maxHeartbeats 16000000
namespace Go.Proofs.YtkgnigloboajcaaGreatDoor
open Go.RowKit Go.Maps Go.ChangeMaps
theorem kwOf_lt {s:List UInt8} {kd:Nat} (h:kwOf s=some kd):1≤kd∧kd≤15:=by
 unfold kwOf at h
 split at h
 ·cases h
 ·cases hf:shpL.findIdx? (fun x=>x.1 == s) with
  | none=>rw [hf] at h;cases h
  | some j =>
   rw [hf] at h
   simp only [Option.map_some,Option.some.injEq] at h
   subst h
   rw [List.findIdx?_eq_some_iff_getElem] at hf
   obtain ⟨hj,_⟩:=hf
   have hl:shpL.length=15:=rfl
   omega
theorem SL.at {w:World} (h:SL w) {kd:Nat} (h1:1≤kd) (h2:kd≤15):w.cell? ⟨1,kd*4,none⟩=some (S (shpOf kd).1)∧w.cell? ⟨1,kd*4+1,none⟩=some (.int .i64 (shpOf kd).2.1) ∧
  w.cell? ⟨1,kd*4+1+1,none⟩=some (.int .i64 (shpOf kd).2.2.1)∧w.cell? ⟨1,kd*4+1+1+1,none⟩=some (.int .i64 (shpOf kd).2.2.2):=by
 obtain ⟨j,rfl⟩:∃j,kd=j+1:=⟨kd-1,by omega⟩
 exact h j (by omega)
theorem ahead_lt {kd:Nat}:0≤(shpOf kd).2.1∧(shpOf kd).2.1≤1:=by
 unfold shpOf
 rcases Nat.lt_or_ge (kd-1) 15 with h|h
 ·generalize kd-1=j at h
  rcases j with _|_|_|_|_|_|_|_|_|_|_|_|_|_|_|j
  all_goals first|exact ⟨by decide,by decide⟩|omega
 ·rw [List.getD_eq_getElem?_getD,List.getElem?_eq_none (show shpL.length≤kd-1 from h)];decide
theorem list_bad (W:World) (B pb mb:Nat) (ps:List Int) (x:Dt) (rk:Option Addr) (ck:Nat) (w:World) (R:Dt→PR Frm) (hC:Ctx W w B pb mb ps) (hl:ps.length≤900) (hX:DOk x) (hb:(x.d || x.s.len == 0)=true) :
  RowC W w B pb mb ps x rk ck 107 (listM R (!ps.isEmpty) x):=by
 unfold RowC
 rw [show listM R (!ps.isEmpty) x = .bad 70 [] by unfold listM;rw [if_pos hb]]
 have HH:Hid (Hd W w ((w.alloc (boxD x (.slice rk x.s.len ck))).alloc F9) B pb mb ps x (.slice rk x.s.len ck)):=Hd.new hC x _
 have hlen:=hX.len
 clear hC hX
 cases hd:x.d with
 | true =>
  have HD:Hid (x.d=true):=hd
  clear hb hd
  go_enter Tryz.func107,Tryz.ntmps107
  go_upto_region 1 with fail
  generalize (w.alloc (boxD x (.slice rk x.s.len ck))).alloc F9=W2 at *
  obtain ⟨c0,c1,c2,c3,c4,_⟩:=cells5 HH.out.q0
  rw [HD.out] at c4
  go_wp2_with fail
  refine (giveUp_any B pb mb ps 70 W2 HH.out.c.px (by omega)).mono ?_
  rintro e w1 ⟨v', rfl,h1,h2⟩
  go_wp2_with fail
  exact ⟨rfl,(GaveUp.elder ⟨v', rfl,h1,h2⟩ HH.out.k).cast (by simp)⟩
 | false =>
  have h0:x.s.len=0:=by rw [hd] at hb;simpa using hb
  have h1:((x.s.len:Int) == 0)=true:=by rw [h0];rfl
  have HD:Hid (x.d=false):=hd
  clear hb h0 hd
  go_enter Tryz.func107,Tryz.ntmps107
  go_upto_region 1 with fail
  generalize (w.alloc (boxD x (.slice rk x.s.len ck))).alloc F9=W2 at *
  obtain ⟨c0,c1,c2,c3,c4,_⟩:=cells5 HH.out.q0
  rw [HD.out] at c4
  go_wp2_with fail
  refine (giveUp_any B pb mb ps 70 W2 HH.out.c.px (by omega)).mono ?_
  rintro e w1 ⟨v', rfl,h1,h2⟩
  go_wp2_with fail
  exact ⟨rfl,(GaveUp.elder ⟨v', rfl,h1,h2⟩ HH.out.k).cast (by simp)⟩
theorem list_call {K:Nat} (hF:FormC K) (W:World) (B pb mb:Nat) (ps:List Int) (x:Dt) (rk:Option Addr) (ck:Nat) (w:World) (hC:Ctx W w B pb mb ps) (hl:ps.length+1+4*K≤900) (hX:DOk x) (hdp:x.s.dpt≤K) (hR:RS W rk x.s) (hb:x.d=false) (hx1:∃k0 n0 t0 s0 d0 r,x.s = .cons k0 n0 t0 s0 d0 r∧kwOf t0=none) :
  RowC W w B pb mb ps x rk ck 107 (listM (formM K true) (!ps.isEmpty) x):=by
 unfold RowC
 have HH:Hid (Hd W w ((w.alloc (boxD x (.slice rk x.s.len ck))).alloc F9) B pb mb ps x (.slice rk x.s.len ck)):=Hd.new hC x _
 have HR:Hid (RS W rk x.s):=hR
 have HX:Hid (DOk x):=hX
 have HF:Hid (FormC K):=hF
 obtain ⟨k0,n0,t0,s0,d0,r,hs,hkw⟩:=hx1
 have HS:Hid (∃k0 n0 t0 s0 d0 r,x.s = .cons k0 n0 t0 s0 d0 r):=⟨_,_,_,_,_,_,hs⟩
 have HOk:Hid (DOk ⟨k0,n0,t0,s0,d0⟩):=hX.kid (q := .nil) (r:=r) (by rw [hs];rfl)
 have HCM:Hid (listM (formM K true) (!ps.isEmpty) x=callM (formM K true) x):=by
  show _=_;unfold listM;rw [hb,hs];simp only [Fo.len,Fo.hd,hkw];rfl
 have HZ:Hid (((w.alloc (boxD x (.slice rk x.s.len ck))).alloc F9).heap.size=w.heap.size+2):=by show _=_;simp
 have hlen:=hX.len
 obtain ⟨b,o,hab,hRd⟩:=hR
 have hra:rk=some ⟨b,o,none⟩:=hab.resolve_left (by rw [hs];simp [Fo.len])
 have hsl:(0:Int)<(x.s.len:Int):=by rw [hs];simp only [Fo.len];omega
 have hsl2:0<x.s.len:=by omega
 have hsl3:((x.s.len:Int) == 0)=false:=by simp;omega
 subst hra
 rw [hs] at hRd
 obtain ⟨hb0,hsl0,rk2,ck2,y0,y1,y2,y3,y4,hrs,_⟩:=rd_cons hRd
 have HKW:Hid (kwOf t0=none):=hkw
 have HD:Hid (x.d=false):=hb
 rw [HCM.out]
 clear hs hab hRd hC hX hrs hF hkw hb
 go_enter Tryz.func107,Tryz.ntmps107
 go_upto_region 1 with fail
 generalize (w.alloc (boxD x (.slice (some ⟨b,o,none⟩) x.s.len ck))).alloc F9=W2 at *
 obtain ⟨c0,c1,c2,c3,c4,_⟩:=cells5 HH.out.q0
 rw [HD.out] at c4
 have bel:=HH.out.c.hW
 have e2:W2.cell? ⟨b,o+2,none⟩=some (S t0):=(bel.cell (p:=⟨b,_,none⟩) hb0).trans y2
 clear bel y0 y1 y2 y3 y4
 go_wp2_with fail
 refine (keyword_any t0 W2 (by have:=HOk.out.t;unfold maxLen;dsimp only at this;omega) HH.out.c.envw.sl).mono ?_
 rintro e w1 ⟨rfl,hb1⟩
 rw [HKW.out]
 simp only [kwV]
 have HH1:Hid (Hd W w w1 B pb mb ps x (.slice (some ⟨b,o,none⟩) x.s.len ck)):=HH.out.step (HH.out.c.px.same hb1) (KP.of hb1)
 have HZ1:Hid (w.heap.size+2≤w1.heap.size):=by show _≤_;have:=HZ.out;have:=hb1.size;omega
 clear hb1 c0 c1 c2 c3 c4 e2
 obtain ⟨c0,c1,c2,c3,c4,_⟩:=cells5 HH1.out.q0
 have hca:=call_any HF.out W B pb mb ps x (some ⟨b,o,none⟩) ck w1 HH1.out.c hl HX.out hdp HR.out HS.out
 unfold RowC at hca
 cases hx:callM (formM K true) x with
 | bad er p =>
  rw [hx] at hca
  have HNW:Hid (callM (formM K true) x = .bad er p):=hx
  clear hx
  go_wp2_with fail
  refine hca.mono ?_
  rintro e w2 ⟨v', rfl,h1,h2⟩
  go_wp2_with fail
  refine ⟨rfl,?_⟩
  rw [HNW.out]
  exact GaveUp.elder ⟨v', rfl,h1,h2⟩ HH1.out.k
 | ok f =>
  rw [hx] at hca
  have HNW:Hid (callM (formM K true) x = .ok f):=hx
  clear hx
  go_wp2_with fail
  refine hca.mono ?_
  rintro e w5 ⟨⟨nv,kv,dv,nbs,rfl,hone⟩,hp5,hk5⟩
  obtain ⟨b1,g1,b2,g2,b3,g3,rfl,rfl,rfl⟩:=hone.slices
  have HH5:Hid (Hd W w w5 B pb mb ps x (.slice (some ⟨b,o,none⟩) x.s.len ck)):=HH1.out.step hp5 hk5
  have Hone:Hid (FOne w5 (w.heap.size+2) f (.slice b1 f.names.length g1) (.slice b2 f.kids.len g2) (.slice b3 f.dat.s.len g3) nbs):=hone.mono HZ1.out
  obtain ⟨⟨z0,z1,z2,z3,z4,z5,z6,z7,z8⟩,zf⟩:=cells9 HH5.out.q1
  have f0:=zf 0
  have f1:=zf 1
  have f2:=zf 2
  have f3:=zf 3
  have f4:=zf 4
  have f5:=zf 5
  have f6:=zf 6
  have f7:=zf 7
  have f8:=zf 8
  clear hp5 hk5 zf c0 c1 c2 c3 c4 hone hca
  go_wp2_with fail
  refine bodyPost_nine (s:=4) rfl rfl rfl HH5.out.q1 fun W9 h9=>?_
  rw [HNW.out]
  exact row_end HH5.out Hone.out h9
theorem gone_or {B:Nat} {X:Nat→Prop} {pb mb:Nat} {ps:List Int} {w w' : World} {r:PR Frm} {Q:Frm→Ending→World→Prop} {e:Ending} (h:Gone B X pb mb ps w r Q e w'):(∃er p,r = .bad er p∧GaveUp B X er (ps++p) w e w')∨∃f,r = .ok f∧Q f e w' ∧ PX w' B pb mb ps∧KP B X w w' := by
 cases r with
 | bad er p=>exact .inl ⟨er,p,rfl,h⟩
 | ok f=>exact .inr ⟨f,rfl,h⟩
theorem px_nine {w6 W9:World} {B pb mb b:Nat} {ps:List Int} {cs:Array Value} (h:PX w6 B pb mb ps) (hb:w6.heap[b]?=some (.cells cs 36 (0,0))) (o9:Nine w6 W9 b):PX W9 B pb mb ps:=by
 refine h.grown (m:=b) (fun g _ hg=>o9.other g hg) ?_ ?_ ?_
 ·rintro rfl
  obtain ⟨v,hv,_⟩:=h.ex
  rw [hv] at hb;cases hb
 ·rintro rfl
  obtain ⟨n,hn⟩:=h.mf
  obtain ⟨es,c,hm⟩:=hn.map
  rw [hm] at hb;cases hb
 ·rintro ⟨c,f', q⟩
  rw [hb] at q;cases q
theorem list_not (R:Dt→PR Frm) (W:World) (B pb mb:Nat) (ps:List Int) (x:Dt) (rk:Option Addr) (ck:Nat) (w:World) (hC:Ctx W w B pb mb ps) (hl:ps.length≤900) (hX:DOk x) (hR:RS W rk x.s) (hb:x.d=false) (kd:Nat) (hx1:∃k0 n0 t0 s0 d0 r,x.s = .cons k0 n0 t0 s0 d0 r∧kwOf t0=some kd) (hno:takesB kd (x.s.len-1-(shpOf kd).2.1)=false∨(kd=5∧ps≠[])) :
  RowC W w B pb mb ps x rk ck 107 (listM R (!ps.isEmpty) x):=by
 unfold RowC
 have HH:Hid (Hd W w ((w.alloc (boxD x (.slice rk x.s.len ck))).alloc F9) B pb mb ps x (.slice rk x.s.len ck)):=Hd.new hC x _
 have HR:Hid (RS W rk x.s):=hR
 have HX:Hid (DOk x):=hX
 obtain ⟨k0,n0,t0,s0,d0,r,hs,hkw⟩:=hx1
 have HOk:Hid (DOk ⟨k0,n0,t0,s0,d0⟩):=hX.kid (q := .nil) (r:=r) (by rw [hs];rfl)
 have HCM:Hid (listM R (!ps.isEmpty) x = .bad 70 []):=by
  have e0:(!takesB kd ((x.s.len:Int)-1-(shpOf kd).2.1) || kd == 5 && !ps.isEmpty)=true:=by
   rcases hno with h|⟨h1,h2⟩
   ·rw [h];rfl
   ·subst h1
    cases ps with
    | nil=>exact absurd rfl h2
    | cons=>simp
  show _=_;unfold listM;rw [hb,if_neg (by rw [hs];simp [Fo.len]),show x.s.hd.t=t0 by rw [hs];rfl,hkw];simp only [];rw [if_pos e0]
 have HZ:Hid (((w.alloc (boxD x (.slice rk x.s.len ck))).alloc F9).heap.size=w.heap.size+2):=by show _=_;simp
 have hlen:=hX.len
 obtain ⟨hk1,hk2⟩:=kwOf_lt hkw
 obtain ⟨ha1,ha2⟩:=ahead_lt (kd:=kd)
 obtain ⟨b,o,hab,hRd⟩:=hR
 have hra:rk=some ⟨b,o,none⟩:=hab.resolve_left (by rw [hs];simp [Fo.len])
 have hsl:(0:Int)<(x.s.len:Int):=by rw [hs];simp only [Fo.len];omega
 have hsl2:0<x.s.len:=by omega
 have hsl3:((x.s.len:Int) == 0)=false:=by simp;omega
 subst hra
 rw [hs] at hRd
 obtain ⟨hb0,hsl0,rk2,ck2,y0,y1,y2,y3,y4,hrs,_⟩:=rd_cons hRd
 have HKW:Hid (kwOf t0=some kd):=hkw
 have HD:Hid (x.d=false):=hb
 rw [HCM.out]
 have HNO:Hid _:=hno
 clear hno
 clear hs hab hRd hC hX hrs hkw hb
 go_enter Tryz.func107,Tryz.ntmps107
 go_upto_region 1 with fail
 generalize (w.alloc (boxD x (.slice (some ⟨b,o,none⟩) x.s.len ck))).alloc F9=W2 at *
 obtain ⟨c0,c1,c2,c3,c4,_⟩:=cells5 HH.out.q0
 rw [HD.out] at c4
 have bel:=HH.out.c.hW
 have e2:W2.cell? ⟨b,o+2,none⟩=some (S t0):=(bel.cell (p:=⟨b,_,none⟩) hb0).trans y2
 clear bel y0 y1 y2 y3 y4
 go_wp2_with fail
 refine (keyword_any t0 W2 (by have:=HOk.out.t;unfold maxLen;dsimp only at this;omega) HH.out.c.envw.sl).mono ?_
 rintro e w1 ⟨rfl,hb1⟩
 rw [HKW.out]
 simp only [kwV]
 have HH1:Hid (Hd W w w1 B pb mb ps x (.slice (some ⟨b,o,none⟩) x.s.len ck)):=HH.out.step (HH.out.c.px.same hb1) (KP.of hb1)
 have HZ1:Hid (w.heap.size+2≤w1.heap.size):=by show _≤_;have:=HZ.out;have:=hb1.size;omega
 clear hb1 c0 c1 c2 c3 c4 e2
 obtain ⟨c0,c1,c2,c3,c4,_⟩:=cells5 HH1.out.q0
 obtain ⟨p0,p1,p2,p3⟩:=HH1.out.c.envw.sl.at hk1 hk2
 have HSP:Hid (shpV kd = .agg #[S (shpOf kd).1, .int .i64 (shpOf kd).2.1, .int .i64 (shpOf kd).2.2.1, .int .i64 (shpOf kd).2.2.2]):=rfl
 have HTK:Hid (∀n w,Calls Tryz.prog 149 #[.agg #[S (shpOf kd).1, .int .i64 (shpOf kd).2.1, .int .i64 (shpOf kd).2.2.1, .int .i64 (shpOf kd).2.2.2], .int .i64 n] w fun e w' => e = .returned (.bool (takesB kd n))∧Below w.heap.size w w'):=fun n w=>takes_any kd n w
 obtain ⟨⟨wd,ah,le,mo⟩,hsh⟩:∃y,shpOf kd=y:=⟨_,rfl⟩
 rw [hsh] at p0 p1 p2 p3 HTK ha1 ha2
 dsimp only at p0 p1 p2 p3 HTK ha1 ha2
 obtain ⟨w3,hw3⟩:∃w3,w1.alloc (.cells #[S wd, .int .i64 ah, .int .i64 le, .int .i64 mo] 193)=w3:=⟨_,rfl⟩
 have a3:=(Below.refl _ w1).alloc (Nat.le_refl w1.heap.size) (.cells #[S wd, .int .i64 ah, .int .i64 le, .int .i64 mo] 193)
 rw [hw3] at a3
 have q3:w3.heap[w1.heap.size]?=some (.cells #[S wd, .int .i64 ah, .int .i64 le, .int .i64 mo] 193 (0,0)):=by rw [←hw3];exact World.alloc_heap_new _ _
 have HH3:Hid (Hd W w w3 B pb mb ps x (.slice (some ⟨b,o,none⟩) x.s.len ck)):=HH1.out.step (HH1.out.c.px.same a3) (KP.of a3)
 have HZ3:Hid (w.heap.size+2≤w3.heap.size):=by show _≤_;have:=HZ1.out;have:=a3.size;omega
 obtain ⟨u0,u1,u2,u3⟩:w3.cell? ⟨w1.heap.size,0,none⟩=some (S wd)∧w3.cell? ⟨w1.heap.size,1,none⟩=some (.int .i64 ah)∧w3.cell? ⟨w1.heap.size,2,none⟩=some (.int .i64 le)∧w3.cell? ⟨w1.heap.size,3,none⟩=some (.int .i64 mo):=by
  refine ⟨?_,?_,?_,?_⟩<;>simp [World.cell?,q3]
 obtain ⟨c0,c1,c2,c3,c4,_⟩:=cells5 HH3.out.q0
 clear a3 q3
 go_wp2_with fail
 refine (HTK.out _ _).mono ?_
 rintro e w4 ⟨rfl,hb4⟩
 have HH4:Hid (Hd W w w4 B pb mb ps x (.slice (some ⟨b,o,none⟩) x.s.len ck)):=HH3.out.step (HH3.out.c.px.same hb4) (KP.of hb4)
 have HZ4:Hid (w.heap.size+2≤w4.heap.size):=by show _≤_;have:=HZ3.out;have:=hb4.size;omega
 clear hb4 c0 c1 c2 c3 c4 p0 p1 p2 p3 u0 u1 u2 u3
 clear c0 c1 c2 c3 c4
 obtain ⟨tk,htk⟩:∃tk,takesB kd ((x.s.len:Int)-1-ah)=tk:=⟨_,rfl⟩
 have hno2:=HNO.out
 rw [hsh] at hno2
 dsimp only at hno2
 rw [htk] at hno2 ⊢
 obtain ⟨c0,c1,c2,c3,c4,_⟩:=cells5 HH4.out.q0
 clear htk hsh HNO HTK HSP
 cases tk with
 | false =>
  clear hno2
  go_wp2_with fail
  refine (giveUp_any B pb mb ps 70 w4 HH4.out.c.px (by omega)).mono ?_
  rintro e w5 ⟨v', rfl,h1,h2⟩
  go_wp2_with fail
  exact ⟨rfl,(GaveUp.elder ⟨v', rfl,h1,h2⟩ HH4.out.k).cast (by simp)⟩
 | true =>
  obtain ⟨hk5,hps⟩:=hno2.resolve_left (by simp)
  have hwi:(!ps.isEmpty)=true:=by
   cases ps with
   | nil=>exact absurd rfl hps
   | cons=>rfl
  have HWI:Hid _:=hwi
  have HK5:Hid (kd=5):=hk5
  have e5:((kd:Int) == 5)=true:=by rw [hk5];rfl
  clear hno2 hps hk5 hwi
  go_wp2_with fail
  refine (within_any B pb mb ps w4 HH4.out.c.px (by omega)).mono ?_
  rintro e w5 ⟨rfl,hb5⟩
  rw [HWI.out]
  have HH5:Hid (Hd W w w5 B pb mb ps x (.slice (some ⟨b,o,none⟩) x.s.len ck)):=HH4.out.step (HH4.out.c.px.same hb5) (KP.of hb5)
  clear hb5 c0 c1 c2 c3 c4
  obtain ⟨c0,c1,c2,c3,c4,_⟩:=cells5 HH5.out.q0
  go_wp2_with fail
  refine (giveUp_any B pb mb ps 70 w5 HH5.out.c.px (by omega)).mono ?_
  rintro e w6 ⟨v', rfl,h1,h2⟩
  go_wp2_with fail
  exact ⟨rfl,(GaveUp.elder ⟨v', rfl,h1,h2⟩ HH5.out.k).cast (by simp)⟩
theorem list_row (R:Dt→PR Frm) (fn:Nat) (W:World) (B pb mb:Nat) (ps:List Int) (x:Dt) (rk:Option Addr) (ck:Nat) (w:World) (hC:Ctx W w B pb mb ps) (hl:ps.length≤900) (hX:DOk x) (hR:RS W rk x.s) (hb:x.d=false) (kd:Nat) (hx1:∃k0 n0 t0 s0 d0 r,x.s = .cons k0 n0 t0 s0 d0 r∧kwOf t0=some kd∧rowFn t0=fn∧0<fn) (hgo:takesB kd (x.s.len-1-(shpOf kd).2.1)=true∧(kd=5→ps=[]))
  (eg:∀args W,(callFunc fn args).run Tryz.prog W = .ok (.enter fn args) W) (hRow:∀w', Ctx W w' B pb mb ps→RowC W w' B pb mb ps x rk ck fn (rowM R kd x)) :
  RowC W w B pb mb ps x rk ck 107 (listM R (!ps.isEmpty) x):=by
 unfold RowC
 have HH:Hid (Hd W w ((w.alloc (boxD x (.slice rk x.s.len ck))).alloc F9) B pb mb ps x (.slice rk x.s.len ck)):=Hd.new hC x _
 have HR:Hid (RS W rk x.s):=hR
 have HX:Hid (DOk x):=hX
 obtain ⟨k0,n0,t0,s0,d0,r,hs,hkw,hfn⟩:=hx1
 have HOk:Hid (DOk ⟨k0,n0,t0,s0,d0⟩):=hX.kid (q := .nil) (r:=r) (by rw [hs];rfl)
 have HCM:Hid (listM R (!ps.isEmpty) x=(rowM R kd x).then fun f => .ok { f with kind:=kd }):=by
  have e0:(!takesB kd ((x.s.len:Int)-1-(shpOf kd).2.1) || kd == 5 && !ps.isEmpty)=false:=by
   rw [hgo.1]
   cases h:kd == 5 with
   | false=>rfl
   | true=>rw [hgo.2 (by simpa using h)];rfl
  show _=_;unfold listM;rw [hb,if_neg (by rw [hs];simp [Fo.len]),show x.s.hd.t=t0 by rw [hs];rfl,hkw];simp only [];rw [if_neg (by rw [e0];simp)]
 have HFN:Hid (rowFn t0=fn∧0<fn):=hfn
 have HZ:Hid (((w.alloc (boxD x (.slice rk x.s.len ck))).alloc F9).heap.size=w.heap.size+2):=by show _=_;simp
 have hlen:=hX.len
 obtain ⟨hk1,hk2⟩:=kwOf_lt hkw
 obtain ⟨ha1,ha2⟩:=ahead_lt (kd:=kd)
 obtain ⟨b,o,hab,hRd⟩:=hR
 have hra:rk=some ⟨b,o,none⟩:=hab.resolve_left (by rw [hs];simp [Fo.len])
 have hsl:(0:Int)<(x.s.len:Int):=by rw [hs];simp only [Fo.len];omega
 have hsl2:0<x.s.len:=by omega
 have hsl3:((x.s.len:Int) == 0)=false:=by simp;omega
 subst hra
 rw [hs] at hRd
 obtain ⟨hb0,hsl0,rk2,ck2,y0,y1,y2,y3,y4,hrs,_⟩:=rd_cons hRd
 have HKW:Hid (kwOf t0=some kd):=hkw
 have HD:Hid (x.d=false):=hb
 rw [HCM.out]
 have HGO:Hid _:=hgo
 have HRow:Hid (∀w', Ctx W w' B pb mb ps→RowC W w' B pb mb ps x (some ⟨b,o,none⟩) ck fn (rowM R kd x)):=hRow
 clear hgo hRow hfn
 clear hs hab hRd hC hX hrs hkw hb
 go_enter Tryz.func107,Tryz.ntmps107
 go_upto_region 1 with fail
 generalize (w.alloc (boxD x (.slice (some ⟨b,o,none⟩) x.s.len ck))).alloc F9=W2 at *
 obtain ⟨c0,c1,c2,c3,c4,_⟩:=cells5 HH.out.q0
 rw [HD.out] at c4
 have bel:=HH.out.c.hW
 have e2:W2.cell? ⟨b,o+2,none⟩=some (S t0):=(bel.cell (p:=⟨b,_,none⟩) hb0).trans y2
 clear bel y0 y1 y2 y3 y4
 go_wp2_with fail
 refine (keyword_any t0 W2 (by have:=HOk.out.t;unfold maxLen;dsimp only at this;omega) HH.out.c.envw.sl).mono ?_
 rintro e w1 ⟨rfl,hb1⟩
 rw [HKW.out]
 simp only [kwV]
 have HH1:Hid (Hd W w w1 B pb mb ps x (.slice (some ⟨b,o,none⟩) x.s.len ck)):=HH.out.step (HH.out.c.px.same hb1) (KP.of hb1)
 have HZ1:Hid (w.heap.size+2≤w1.heap.size):=by show _≤_;have:=HZ.out;have:=hb1.size;omega
 clear hb1 c0 c1 c2 c3 c4 e2
 obtain ⟨c0,c1,c2,c3,c4,_⟩:=cells5 HH1.out.q0
 obtain ⟨p0,p1,p2,p3⟩:=HH1.out.c.envw.sl.at hk1 hk2
 have HSP:Hid (shpV kd = .agg #[S (shpOf kd).1, .int .i64 (shpOf kd).2.1, .int .i64 (shpOf kd).2.2.1, .int .i64 (shpOf kd).2.2.2]):=rfl
 have HTK:Hid (∀n w,Calls Tryz.prog 149 #[.agg #[S (shpOf kd).1, .int .i64 (shpOf kd).2.1, .int .i64 (shpOf kd).2.2.1, .int .i64 (shpOf kd).2.2.2], .int .i64 n] w fun e w' => e = .returned (.bool (takesB kd n))∧Below w.heap.size w w'):=fun n w=>takes_any kd n w
 obtain ⟨⟨wd,ah,le,mo⟩,hsh⟩:∃y,shpOf kd=y:=⟨_,rfl⟩
 rw [hsh] at p0 p1 p2 p3 HTK ha1 ha2
 dsimp only at p0 p1 p2 p3 HTK ha1 ha2
 obtain ⟨w3,hw3⟩:∃w3,w1.alloc (.cells #[S wd, .int .i64 ah, .int .i64 le, .int .i64 mo] 193)=w3:=⟨_,rfl⟩
 have a3:=(Below.refl _ w1).alloc (Nat.le_refl w1.heap.size) (.cells #[S wd, .int .i64 ah, .int .i64 le, .int .i64 mo] 193)
 rw [hw3] at a3
 have q3:w3.heap[w1.heap.size]?=some (.cells #[S wd, .int .i64 ah, .int .i64 le, .int .i64 mo] 193 (0,0)):=by rw [←hw3];exact World.alloc_heap_new _ _
 have HH3:Hid (Hd W w w3 B pb mb ps x (.slice (some ⟨b,o,none⟩) x.s.len ck)):=HH1.out.step (HH1.out.c.px.same a3) (KP.of a3)
 have HZ3:Hid (w.heap.size+2≤w3.heap.size):=by show _≤_;have:=HZ1.out;have:=a3.size;omega
 obtain ⟨u0,u1,u2,u3⟩:w3.cell? ⟨w1.heap.size,0,none⟩=some (S wd)∧w3.cell? ⟨w1.heap.size,1,none⟩=some (.int .i64 ah)∧w3.cell? ⟨w1.heap.size,2,none⟩=some (.int .i64 le)∧w3.cell? ⟨w1.heap.size,3,none⟩=some (.int .i64 mo):=by
  refine ⟨?_,?_,?_,?_⟩<;>simp [World.cell?,q3]
 obtain ⟨c0,c1,c2,c3,c4,_⟩:=cells5 HH3.out.q0
 clear a3 q3
 go_wp2_with fail
 refine (HTK.out _ _).mono ?_
 rintro e w4 ⟨rfl,hb4⟩
 have HH4:Hid (Hd W w w4 B pb mb ps x (.slice (some ⟨b,o,none⟩) x.s.len ck)):=HH3.out.step (HH3.out.c.px.same hb4) (KP.of hb4)
 have HZ4:Hid (w.heap.size+2≤w4.heap.size):=by show _≤_;have:=HZ3.out;have:=hb4.size;omega
 clear hb4 c0 c1 c2 c3 c4 p0 p1 p2 p3 u0 u1 u2 u3
 clear c0 c1 c2 c3 c4
 obtain ⟨tk,htk⟩:∃tk,takesB kd ((x.s.len:Int)-1-ah)=tk:=⟨_,rfl⟩
 have hgo2:=HGO.out
 rw [hsh] at hgo2
 dsimp only at hgo2
 rw [htk] at hgo2 ⊢
 obtain ⟨rfl,hk5⟩:=hgo2
 clear htk hsh HGO HTK HSP
 by_cases h5:kd=5
 ·have HPS:Hid (ps=[]):=hk5 h5
  have e5:((kd:Int) == 5)=true:=by rw [h5];rfl
  have H5:Hid (kd=5):=h5
  clear hk5 h5
  obtain ⟨c0,c1,c2,c3,c4,_⟩:=cells5 HH4.out.q0
  go_wp2_with fail
  refine (within_any B pb mb ps w4 HH4.out.c.px (by omega)).mono ?_
  rintro e w5 ⟨rfl,hb5⟩
  rw [show (!ps.isEmpty)=false by rw [HPS.out];rfl]
  have HH5:Hid (Hd W w w5 B pb mb ps x (.slice (some ⟨b,o,none⟩) x.s.len ck)):=HH4.out.step (HH4.out.c.px.same hb5) (KP.of hb5)
  have HZ5:Hid (w.heap.size+2≤w5.heap.size):=by show _≤_;have:=HZ4.out;have:=hb5.size;omega
  clear hb5 c0 c1 c2 c3 c4
  go_upto_region 10 with fail
  have HSm:Hid (∀wx,PX wx B pb mb ps→wx.heap[w.heap.size]?=some (.cells #[.int .u8 x.k, .int .i64 x.n,S x.t,(.slice (some ⟨b,o,none⟩) x.s.len ck), .bool x.d] 32 (0,0))→wx.cell? ⟨pb,0,none⟩=some (.map (some mb))∧(Instr.lookup 103 (.map (some mb)) (S t0) false).run Tryz.prog wx = .ok (.func (.func fn) #[] #[]) wx∧wx.cell? ⟨w.heap.size,0,none⟩=some (.int .u8 x.k)∧wx.cell? ⟨w.heap.size,1,none⟩=some (.int .i64 x.n)∧wx.cell? ⟨w.heap.size,2,none⟩=some (S x.t)∧wx.cell? ⟨w.heap.size,3,none⟩=some (.slice (some ⟨b,o,none⟩) x.s.len ck)∧wx.cell? ⟨w.heap.size,4,none⟩=some (.bool x.d)):=by
   intro wx hp hq
   obtain ⟨c0,c1,c2,c3,c4,_⟩:=cells5 hq
   obtain ⟨v,hv,_⟩:=hp.ex
   obtain ⟨n,hn⟩:=hp.mf
   refine ⟨by simp [World.cell?,hv],?_,c0,c1,c2,c3,c4⟩
   have:=hn.look (s:=t0) (by have:=HOk.out.t;unfold maxLen;dsimp only at this;omega)
   rw [this]
   have e:=HFN.out
   rw [show fnV (rowFn t0) = .func (.func fn) #[] #[] by rw [e.1];unfold fnV;rw [if_neg (by omega)]]
  have hbd:Below w5.heap.size w5 w5.drew:=(Below.refl _ _).drew
  have hba:Below w5.heap.size w5 (w5.drew.alloc F9):=hbd.trans ((Below.refl _ w5.drew).alloc (Nat.le_refl _) F9)
  have HHd:Hid (Hd W w w5.drew B pb mb ps x (.slice (some ⟨b,o,none⟩) x.s.len ck)):=HH5.out.step (HH5.out.c.px.same hbd) (KP.of hbd)
  have HHa:Hid (Hd W w (w5.drew.alloc F9) B pb mb ps x (.slice (some ⟨b,o,none⟩) x.s.len ck)):=HH5.out.step (HH5.out.c.px.same hba) (KP.of hba)
  have hrd:=HRow.out _ HHd.out.c
  have hra:=HRow.out _ HHa.out.c
  unfold RowC at hrd hra
  replace hrd:=hrd.mono fun _ _=>gone_or
  replace hra:=hra.mono fun _ _=>gone_or
  have HRD:Hid _:=hrd
  have HRA:Hid _:=hra
  have HQ9:Hid ((w5.drew.alloc F9).heap[w5.heap.size]?=some (.cells #[.int .u8 0, .string ⟨#[]⟩, .slice none 0 0, .slice none 0 0, .int .u8 0, .int .i64 0, .string ⟨#[]⟩, .slice none 0 0, .bool false] 36 (0,0))):=World.alloc_heap_new _ _
  have hmx:Tryz.prog.follows .mixedOrders=true:=by kernel_rfl
  have hlt:=HH5.out.lt
  have hzn:=HZ5.out
  clear hbd hba hrd hra
  refine wp_region_held_drew (S:=fun wx=>PX wx B pb mb ps∧wx.heap[w.heap.size]?=some (.cells #[.int .u8 x.k, .int .i64 x.n,S x.t,(.slice (some ⟨b,o,none⟩) x.s.len ck), .bool x.d] 32 (0,0))) hmx ⟨HHd.out.c.px,HHd.out.q0⟩ (fun hHeld=>?_)
  refine wpAnyH_take (i:=0) (oi:={ dst:=some 58,op:=Op.move (Operand.tmp 0),type:=150,pos := "parser.go:64", after := #[],guard:=none }) (v:=?v0w5) rfl (by kernel_rfl) (by kernel_rfl) (by kernel_rfl) (fun _ _ _ h=>h) (Or.inl ⟨by rfl,?hy0w5⟩) (by assumption) ?rest0w5
  case hy0w5=>(intro wz hSw;obtain ⟨m0,m1,m2,m3,m4,m5,m6⟩:=HSm.out wz hSw.1 hSw.2;go_simp;try with_reducible rfl)
  try simp only [Act.put,List.setIfInBounds_toArray,List.set_cons_zero,List.set_cons_succ]
  refine wpAnyH_take (i:=1) (oi:={ dst:=some 59,op:=Op.nilCheck (Operand.tmp 58),type:=0,pos := "parser.go:64", after := #[{ on:=0,ground:=Ground.data }],guard:=none }) (v:=?v1w5) rfl (by kernel_rfl) (by kernel_rfl) (by kernel_rfl) (fun _ _ _ h=>h) (Or.inl ⟨by rfl,?hy1w5⟩) (by assumption) ?rest1w5
  case hy1w5=>(intro wz hSw;obtain ⟨m0,m1,m2,m3,m4,m5,m6⟩:=HSm.out wz hSw.1 hSw.2;go_simp;try with_reducible rfl)
  try simp only [Act.put,List.setIfInBounds_toArray,List.set_cons_zero,List.set_cons_succ]
  refine wpAnyH_take (i:=2) (oi:={ dst:=some 60,op:=Op.fieldAddr 106 (Operand.tmp 59) 0,type:=0,pos := "parser.go:64", after := #[{ on:=1,ground:=Ground.data }],guard:=none }) (v:=?v2w5) rfl (by kernel_rfl) (by kernel_rfl) (by kernel_rfl) (fun _ _ _ h=>h) (Or.inl ⟨by rfl,?hy2w5⟩) (by assumption) ?rest2w5
  case hy2w5=>(intro wz hSw;obtain ⟨m0,m1,m2,m3,m4,m5,m6⟩:=HSm.out wz hSw.1 hSw.2;go_simp;try with_reducible rfl)
  try simp only [Act.put,List.setIfInBounds_toArray,List.set_cons_zero,List.set_cons_succ]
  refine wpAnyH_take (i:=3) (oi:={ dst:=some 61,op:=Op.load 103 (Operand.tmp 60),type:=103,pos := "parser.go:64", after := #[{ on:=2,ground:=Ground.data }],guard:=none }) (v:=?v3w5) rfl (by kernel_rfl) (by kernel_rfl) (by kernel_rfl) (fun _ _ _ h=>h) (Or.inl ⟨by rfl,?hy3w5⟩) (by assumption) ?rest3w5
  case hy3w5=>(intro wz hSw;obtain ⟨m0,m1,m2,m3,m4,m5,m6⟩:=HSm.out wz hSw.1 hSw.2;go_simp;try with_reducible rfl)
  try simp only [Act.put,List.setIfInBounds_toArray,List.set_cons_zero,List.set_cons_succ]
  refine wpAnyH_take (i:=4) (oi:={ dst:=some 62,op:=Op.move (Operand.tmp 5),type:=9,pos := "parser.go:64", after := #[],guard:=none }) (v:=?v4w5) rfl (by kernel_rfl) (by kernel_rfl) (by kernel_rfl) (fun _ _ _ h=>h) (Or.inl ⟨by rfl,?hy4w5⟩) (by assumption) ?rest4w5
  case hy4w5=>(intro wz hSw;obtain ⟨m0,m1,m2,m3,m4,m5,m6⟩:=HSm.out wz hSw.1 hSw.2;go_simp;try with_reducible rfl)
  try simp only [Act.put,List.setIfInBounds_toArray,List.set_cons_zero,List.set_cons_succ]
  refine wpAnyH_take (i:=5) (oi:={ dst:=some 63,op:=Op.lookup 103 (Operand.tmp 61) (Operand.tmp 62) false,type:=149,pos := "parser.go:64", after := #[{ on:=3,ground:=Ground.data },{ on:=4,ground:=Ground.data }],guard:=none }) (v:=?v5w5) rfl (by kernel_rfl) (by kernel_rfl) (by kernel_rfl) (fun _ _ _ h=>h) (Or.inl ⟨by rfl,?hy5w5⟩) (by assumption) ?rest5w5
  case hy5w5=>(intro wz hSw;obtain ⟨m0,m1,m2,m3,m4,m5,m6⟩:=HSm.out wz hSw.1 hSw.2;go_simp;try with_reducible rfl)
  try simp only [Act.put,List.setIfInBounds_toArray,List.set_cons_zero,List.set_cons_succ]
  refine wpAnyH_take (i:=6) (oi:={ dst:=some 64,op:=Op.move (Operand.tmp 0),type:=150,pos := "parser.go:64", after := #[],guard:=none }) (v:=?v6w5) rfl (by kernel_rfl) (by kernel_rfl) (by kernel_rfl) (fun _ _ _ h=>h) (Or.inl ⟨by rfl,?hy6w5⟩) (by assumption) ?rest6w5
  case hy6w5=>(intro wz hSw;obtain ⟨m0,m1,m2,m3,m4,m5,m6⟩:=HSm.out wz hSw.1 hSw.2;go_simp;try with_reducible rfl)
  try simp only [Act.put,List.setIfInBounds_toArray,List.set_cons_zero,List.set_cons_succ]
  refine wpAnyH_take (i:=7) (oi:={ dst:=some 65,op:=Op.load 32 (Operand.tmp 3),type:=32,pos := "parser.go:64", after := #[],guard:=none }) (v:=?v7w5) rfl (by kernel_rfl) (by kernel_rfl) (by kernel_rfl) (fun _ _ _ h=>h) (Or.inl ⟨by rfl,?hy7w5⟩) (by assumption) ?rest7w5
  case hy7w5=>(intro wz hSw;obtain ⟨m0,m1,m2,m3,m4,m5,m6⟩:=HSm.out wz hSw.1 hSw.2;go_simp;try with_reducible rfl)
  try simp only [Act.put,List.setIfInBounds_toArray,List.set_cons_zero,List.set_cons_succ]
  refine wpAnyH_ready (rs:=[8,9]) (by kernel_rfl) (by simp) ?_
  refine AllReadyH.cons (o:={ dst:=some 66,op:=Op.call { callee:=Callee.value (Operand.tmp 63),args := #[Operand.tmp 64,Operand.tmp 65],argTypes := #[150,32] },type:=36,pos := "parser.go:64", after := #[{ on:=5,ground:=Ground.data },{ on:=6,ground:=Ground.data },{ on:=7,ground:=Ground.data }],guard:=none }) rfl (fun K hK=>?_) (AllReadyH.cons (o:={ dst:=some 9,op:=Op.alloc 36,type:=0,pos := "parser.go:64", after := #[],guard:=none }) rfl (fun K hK=>?_) AllReadyH.nil)
  ·go_simp
   refine Calls.mono HRD.out ?_
   rintro e w6 (⟨er,p,hr,v', rfl,h1,h2⟩|⟨f,hr,⟨nv,kv,dv,nbs,rfl,hone⟩,hp6,hk6⟩)
   ·go_wp2_with fail
    refine ⟨rfl,?_⟩
    rw [hr]
    exact GaveUp.elder ⟨v', rfl,h1,h2⟩ HHd.out.k
   ·obtain ⟨b1,g1,b2,g2,b3,g3,rfl,rfl,rfl⟩:=hone.slices
    have HH6:Hid (Hd W w w6 B pb mb ps x (.slice (some ⟨b,o,none⟩) x.s.len ck)):=HHd.out.step hp6 hk6
    have a7:=(Below.refl _ w6).alloc (Nat.le_refl _) F9
    have HH7:Hid (Hd W w (w6.alloc F9) B pb mb ps x (.slice (some ⟨b,o,none⟩) x.s.len ck)):=HH6.out.step (HH6.out.c.px.same a7) (KP.of a7)
    have a8:=(Below.refl _ w6).alloc (Nat.le_refl _) (Z9 f (.slice b1 f.names.length g1) (.slice b2 f.kids.len g2) (.slice b3 f.dat.s.len g3))
    have HH8:Hid (Hd W w (w6.alloc (Z9 f (.slice b1 f.names.length g1) (.slice b2 f.kids.len g2) (.slice b3 f.dat.s.len g3))) B pb mb ps x (.slice (some ⟨b,o,none⟩) x.s.len ck)):=HH6.out.step (HH6.out.c.px.same a8) (KP.of a8)
    have hs6:w5.heap.size≤w6.heap.size:=hk6.size
    have Hone:Hid (FOne (w6.alloc (Z9 f (.slice b1 f.names.length g1) (.slice b2 f.kids.len g2) (.slice b3 f.dat.s.len g3))) (w.heap.size+2) f (.slice b1 f.names.length g1) (.slice b2 f.kids.len g2) (.slice b3 f.dat.s.len g3) nbs):=(hone.mono (show w.heap.size+2≤w5.drew.heap.size from hzn)).kept (fun g hg=>a8.block g (hone.lt g hg).2)
    have HNB0:Hid (∀g∈nbs,g≠w6.heap.size):=fun g hg e=>by have:=(hone.lt g hg).2;omega
    clear a7 a8 hone hp6 hk6
    go_wp2_with fail
    refine hK.out _ _ ⟨HH6.out.c.px,HH6.out.q0⟩ (fun hHeld=>?_)
    clear hK K
    try simp only [Act.put,List.setIfInBounds_toArray,List.set_cons_zero,List.set_cons_succ]
    refine wpAnyH_ready (rs:=[9]) (by kernel_rfl) (by simp) ?_
    refine AllReadyH.cons (o:={ dst:=some 9,op:=Op.alloc 36,type:=0,pos := "parser.go:64", after := #[],guard:=none }) rfl (fun K hK=>?_) AllReadyH.nil
    go_simp
    refine hK.out _ _ ⟨HH7.out.c.px,HH7.out.q0⟩ (fun hHeld=>?_)
    clear hK K
    try simp only [Act.put,List.setIfInBounds_toArray,List.set_cons_zero,List.set_cons_succ]
    refine wpAnyH_ready (rs:=[10]) (by kernel_rfl) (by simp) ?_
    refine AllReadyH.cons (o:={ dst:=none,op:=Op.store 36 (Operand.tmp 9) (Operand.tmp 66),type:=0,pos := "parser.go:64", after := #[{ on:=9,ground:=Ground.data },{ on:=8,ground:=Ground.data },{ on:=8,ground:=Ground.chain },{ on:=0,ground:=Ground.phase },{ on:=1,ground:=Ground.phase },{ on:=2,ground:=Ground.phase },{ on:=3,ground:=Ground.phase },{ on:=4,ground:=Ground.phase },{ on:=5,ground:=Ground.phase },{ on:=6,ground:=Ground.phase },{ on:=7,ground:=Ground.phase },{ on:=8,ground:=Ground.phase },{ on:=9,ground:=Ground.phase }],guard:=none }) rfl (fun K hK=>?_) AllReadyH.nil
    go_simp
    refine hK.out _ _ ⟨HH8.out.c.px,HH8.out.q0⟩ (fun hHeld=>?_)
    clear hK K
    try simp only [Act.put,List.setIfInBounds_toArray,List.set_cons_zero,List.set_cons_succ]
    have HQ8:Hid ((w6.alloc (Z9 f (.slice b1 f.names.length g1) (.slice b2 f.kids.len g2) (.slice b3 f.dat.s.len g3))).heap[w6.heap.size]?=some (Z9 f (.slice b1 f.names.length g1) (.slice b2 f.kids.len g2) (.slice b3 f.dat.s.len g3))):=World.alloc_heap_new _ _
    have HNB:Hid (∀g∈nbs,g≠w6.heap.size):=HNB0.out
    have hn9:w.heap.size+2≤w6.heap.size:=by omega
    generalize w6.alloc (Z9 f (.slice b1 f.names.length g1) (.slice b2 f.kids.len g2) (.slice b3 f.dat.s.len g3))=W8 at *
    generalize w6.heap.size=n9 at *
    have q8:=HQ8.out
    obtain ⟨⟨y0,y1,y2,y3,y4,y5,y6,y7,y8⟩,yf⟩:=cells9 q8
    have gf0:=yf 0
    have o10:Nine W8 (W8.setCell ⟨n9,0,none⟩ (.int .u8 kd)) n9:=(Nine.refl W8 n9).set 0 _
    have q10:(W8.setCell ⟨n9,0,none⟩ (.int .u8 kd)).heap[n9]?=some (.cells #[.int .u8 kd,S f.text, .slice b1 f.names.length g1, .slice b2 f.kids.len g2, .int .u8 f.dat.k, .int .i64 f.dat.n,S f.dat.t, .slice b3 f.dat.s.len g3, .bool f.dat.d] 36 (0,0)):=by
     have:=set_atC (j:=0) q8 (.int .u8 (kd:Int))
     rw [this];rfl
    have HH10:Hid (Hd W w (W8.setCell ⟨n9,0,none⟩ (.int .u8 kd)) B pb mb ps x (.slice (some ⟨b,o,none⟩) x.s.len ck)):=⟨⟨HH8.out.c.hW.trans ⟨o10.os,o10.tape,o10.output,Nat.le_of_eq o10.size.symm,fun g hg=>o10.other g (by have:=HH8.out.c.hB;have:=HH8.out.c.px.hB;omega)⟩,HH8.out.c.hB,HH8.out.c.env,px_nine HH8.out.c.px q8 o10⟩,kp_at HH8.out.k o10.size o10.other (by omega) o10.os o10.tape o10.output,(o10.other w.heap.size (by omega)).trans HH8.out.q0,(o10.other (w.heap.size+1) (by omega)).trans HH8.out.q1,HH8.out.ltx,HH8.out.lt⟩
    have Hone10:Hid (FOne (W8.setCell ⟨n9,0,none⟩ (.int .u8 kd)) (w.heap.size+2) { f with kind:=kd } (.slice b1 f.names.length g1) (.slice b2 f.kids.len g2) (.slice b3 f.dat.s.len g3) nbs):=by
     have h:=Hone.out.kept (fun g hg=>o10.other g (HNB.out g hg))
     exact ⟨h.row,h.nodup⟩
    refine wpAnyH_done (by kernel_rfl) ?_ _
    go_upto_region 12 with fail
    generalize W8.setCell ⟨n9,0,none⟩ (.int .u8 kd)=W10 at *
    clear y0 y1 y2 y3 y4 y5 y6 y7 y8 yf gf0 q8 o10
    obtain ⟨⟨y0,y1,y2,y3,y4,y5,y6,y7,y8⟩,_⟩:=cells9 q10
    obtain ⟨⟨z0,z1,z2,z3,z4,z5,z6,z7,z8⟩,zf⟩:=cells9 HH10.out.q1
    have f0:=zf 0
    have f1:=zf 1
    have f2:=zf 2
    have f3:=zf 3
    have f4:=zf 4
    have f5:=zf 5
    have f6:=zf 6
    have f7:=zf 7
    have f8:=zf 8
    clear zf q10
    go_wp2_with fail
    refine bodyPost_nine (s:=4) rfl rfl rfl HH10.out.q1 fun W9 h9=>?_
    rw [hr]
    exact row_end (f:={ f with kind:=kd }) HH10.out Hone10.out h9
  ·go_simp
   refine hK.out _ _ ⟨HHa.out.c.px,HHa.out.q0⟩ (fun hHeld=>?_)
   clear hK K
   try simp only [Act.put,List.setIfInBounds_toArray,List.set_cons_zero,List.set_cons_succ]
   refine wpAnyH_ready (rs:=[8]) (by kernel_rfl) (by simp) ?_
   refine AllReadyH.cons (o:={ dst:=some 66,op:=Op.call { callee:=Callee.value (Operand.tmp 63),args := #[Operand.tmp 64,Operand.tmp 65],argTypes := #[150,32] },type:=36,pos := "parser.go:64", after := #[{ on:=5,ground:=Ground.data },{ on:=6,ground:=Ground.data },{ on:=7,ground:=Ground.data }],guard:=none }) rfl (fun K hK=>?_) AllReadyH.nil
   go_simp
   refine Calls.mono HRA.out ?_
   rintro e w6 (⟨er,p,hr,v', rfl,h1,h2⟩|⟨f,hr,⟨nv,kv,dv,nbs,rfl,hone⟩,hp6,hk6⟩)
   ·go_wp2_with fail
    refine ⟨rfl,?_⟩
    rw [hr]
    exact GaveUp.elder ⟨v', rfl,h1,h2⟩ HHa.out.k
   ·obtain ⟨b1,g1,b2,g2,b3,g3,rfl,rfl,rfl⟩:=hone.slices
    have HH6:Hid (Hd W w w6 B pb mb ps x (.slice (some ⟨b,o,none⟩) x.s.len ck)):=HHa.out.step hp6 hk6
    have r9:=hk6.at HQ9.out (by decide) (by show ¬ _=pb;omega)
    have HR9:Hid _:=r9
    obtain ⟨⟨z0,z1,z2,z3,z4,z5,z6,z7,z8⟩,zf⟩:=cells9 r9
    have f0:=zf 0
    have f1:=zf 1
    have f2:=zf 2
    have f3:=zf 3
    have f4:=zf 4
    have f5:=zf 5
    have f6:=zf 6
    have f7:=zf 7
    have f8:=zf 8
    clear zf r9
    go_wp2_with fail
    refine hK.out _ _ ⟨HH6.out.c.px,HH6.out.q0⟩ (fun hHeld=>?_)
    clear hK K
    try simp only [Act.put,List.setIfInBounds_toArray,List.set_cons_zero,List.set_cons_succ]
    refine wpAnyH_ready (rs:=[10]) (by kernel_rfl) (by simp) ?_
    refine AllReadyH.cons (o:={ dst:=none,op:=Op.store 36 (Operand.tmp 9) (Operand.tmp 66),type:=0,pos := "parser.go:64", after := #[{ on:=9,ground:=Ground.data },{ on:=8,ground:=Ground.data },{ on:=8,ground:=Ground.chain },{ on:=0,ground:=Ground.phase },{ on:=1,ground:=Ground.phase },{ on:=2,ground:=Ground.phase },{ on:=3,ground:=Ground.phase },{ on:=4,ground:=Ground.phase },{ on:=5,ground:=Ground.phase },{ on:=6,ground:=Ground.phase },{ on:=7,ground:=Ground.phase },{ on:=8,ground:=Ground.phase },{ on:=9,ground:=Ground.phase }],guard:=none }) rfl (fun K hK=>?_) AllReadyH.nil
    go_simp
    have o9:=nine_nine w5.heap.size w6 (.int .u8 f.kind) (S f.text) (.slice b1 f.names.length g1) (.slice b2 f.kids.len g2) (.int .u8 f.dat.k) (.int .i64 f.dat.n) (S f.dat.t) (.slice b3 f.dat.s.len g3) (.bool f.dat.d)
    have h9:=nine_at HR9.out (.int .u8 f.kind) (S f.text) (.slice b1 f.names.length g1) (.slice b2 f.kids.len g2) (.int .u8 f.dat.k) (.int .i64 f.dat.n) (S f.dat.t) (.slice b3 f.dat.s.len g3) (.bool f.dat.d)
    have HP8:=px_nine HH6.out.c.px HR9.out o9
    have HB8:=(o9.other w.heap.size (by omega)).trans HH6.out.q0
    unfold nine at o9 h9 HP8 HB8
    refine hK.out _ _ ⟨HP8,HB8⟩ (fun hHeld=>?_)
    clear hK K
    try simp only [Act.put,List.setIfInBounds_toArray,List.set_cons_zero,List.set_cons_succ]
    obtain ⟨W8,hW8⟩:∃W8,(((((((((w6.setCell ⟨w5.heap.size,0,none⟩ (.int .u8 f.kind)).setCell ⟨w5.heap.size,1,none⟩ (S f.text)).setCell ⟨w5.heap.size,2,none⟩ (.slice b1 f.names.length g1)).setCell ⟨w5.heap.size,3,none⟩ (.slice b2 f.kids.len g2)).setCell ⟨w5.heap.size,4,none⟩ (.int .u8 f.dat.k)).setCell ⟨w5.heap.size,5,none⟩ (.int .i64 f.dat.n)).setCell ⟨w5.heap.size,6,none⟩ (S f.dat.t)).setCell ⟨w5.heap.size,7,none⟩ (.slice b3 f.dat.s.len g3)).setCell ⟨w5.heap.size,8,none⟩ (.bool f.dat.d))=W8:=⟨_,rfl⟩
    rw [hW8] at o9 h9 HP8 HB8 ⊢
    have HQ8:Hid (W8.heap[w5.heap.size]?=some (Z9 f (.slice b1 f.names.length g1) (.slice b2 f.kids.len g2) (.slice b3 f.dat.s.len g3))):=h9
    have HH8:Hid (Hd W w W8 B pb mb ps x (.slice (some ⟨b,o,none⟩) x.s.len ck)):=⟨⟨HH6.out.c.hW.trans ⟨o9.os,o9.tape,o9.output,Nat.le_of_eq o9.size.symm,fun g hg=>o9.other g (by have:=HH6.out.c.hB;have:=HH6.out.c.px.hB;omega)⟩,HH6.out.c.hB,HH6.out.c.env,HP8⟩,kp_at HH6.out.k o9.size o9.other (by omega) o9.os o9.tape o9.output,HB8,(o9.other (w.heap.size+1) (by omega)).trans HH6.out.q1,HH6.out.ltx,HH6.out.lt⟩
    have Hone:Hid (FOne W8 (w.heap.size+2) f (.slice b1 f.names.length g1) (.slice b2 f.kids.len g2) (.slice b3 f.dat.s.len g3) nbs):=(hone.kept (fun g hg=>o9.other g (by have h1:=(hone.lt g hg).1;simp at h1;omega))).mono (by simp;omega)
    have HNB:Hid (∀g∈nbs,g≠w5.heap.size):=fun g hg e=>by have h1:=(hone.lt g hg).1;simp at h1;omega
    clear hW8 o9 h9 HP8 HB8 hone hp6 hk6 z0 z1 z2 z3 z4 z5 z6 z7 z8 f0 f1 f2 f3 f4 f5 f6 f7 f8
    have q8:=HQ8.out
    obtain ⟨⟨y0,y1,y2,y3,y4,y5,y6,y7,y8⟩,yf⟩:=cells9 q8
    have gf0:=yf 0
    have o10:Nine W8 (W8.setCell ⟨w5.heap.size,0,none⟩ (.int .u8 kd)) w5.heap.size:=(Nine.refl W8 w5.heap.size).set 0 _
    have q10:(W8.setCell ⟨w5.heap.size,0,none⟩ (.int .u8 kd)).heap[w5.heap.size]?=some (.cells #[.int .u8 kd,S f.text, .slice b1 f.names.length g1, .slice b2 f.kids.len g2, .int .u8 f.dat.k, .int .i64 f.dat.n,S f.dat.t, .slice b3 f.dat.s.len g3, .bool f.dat.d] 36 (0,0)):=by
     have:=set_atC (j:=0) q8 (.int .u8 (kd:Int))
     rw [this];rfl
    have HH10:Hid (Hd W w (W8.setCell ⟨w5.heap.size,0,none⟩ (.int .u8 kd)) B pb mb ps x (.slice (some ⟨b,o,none⟩) x.s.len ck)):=⟨⟨HH8.out.c.hW.trans ⟨o10.os,o10.tape,o10.output,Nat.le_of_eq o10.size.symm,fun g hg=>o10.other g (by have:=HH8.out.c.hB;have:=HH8.out.c.px.hB;omega)⟩,HH8.out.c.hB,HH8.out.c.env,px_nine HH8.out.c.px q8 o10⟩,kp_at HH8.out.k o10.size o10.other (by omega) o10.os o10.tape o10.output,(o10.other w.heap.size (by omega)).trans HH8.out.q0,(o10.other (w.heap.size+1) (by omega)).trans HH8.out.q1,HH8.out.ltx,HH8.out.lt⟩
    have Hone10:Hid (FOne (W8.setCell ⟨w5.heap.size,0,none⟩ (.int .u8 kd)) (w.heap.size+2) { f with kind:=kd } (.slice b1 f.names.length g1) (.slice b2 f.kids.len g2) (.slice b3 f.dat.s.len g3) nbs):=by
     have h:=Hone.out.kept (fun g hg=>o10.other g (HNB.out g hg))
     exact ⟨h.row,h.nodup⟩
    refine wpAnyH_done (by kernel_rfl) ?_ _
    go_upto_region 12 with fail
    generalize W8.setCell ⟨w5.heap.size,0,none⟩ (.int .u8 kd)=W10 at *
    clear y0 y1 y2 y3 y4 y5 y6 y7 y8 yf gf0 q8 o10
    obtain ⟨⟨y0,y1,y2,y3,y4,y5,y6,y7,y8⟩,_⟩:=cells9 q10
    obtain ⟨⟨z0,z1,z2,z3,z4,z5,z6,z7,z8⟩,zf⟩:=cells9 HH10.out.q1
    have f0:=zf 0
    have f1:=zf 1
    have f2:=zf 2
    have f3:=zf 3
    have f4:=zf 4
    have f5:=zf 5
    have f6:=zf 6
    have f7:=zf 7
    have f8:=zf 8
    clear zf q10
    go_wp2_with fail
    refine bodyPost_nine (s:=4) rfl rfl rfl HH10.out.q1 fun W9 h9=>?_
    rw [hr]
    exact row_end (f:={ f with kind:=kd }) HH10.out Hone10.out h9
 ·have e5:((kd:Int) == 5)=false:=by simp;omega
  have H5:Hid (kd≠5):=h5
  clear hk5 h5
  go_upto_region 10 with fail
  have HSm:Hid (∀wx,PX wx B pb mb ps→wx.heap[w.heap.size]?=some (.cells #[.int .u8 x.k, .int .i64 x.n,S x.t,(.slice (some ⟨b,o,none⟩) x.s.len ck), .bool x.d] 32 (0,0))→wx.cell? ⟨pb,0,none⟩=some (.map (some mb))∧(Instr.lookup 103 (.map (some mb)) (S t0) false).run Tryz.prog wx = .ok (.func (.func fn) #[] #[]) wx∧wx.cell? ⟨w.heap.size,0,none⟩=some (.int .u8 x.k)∧wx.cell? ⟨w.heap.size,1,none⟩=some (.int .i64 x.n)∧wx.cell? ⟨w.heap.size,2,none⟩=some (S x.t)∧wx.cell? ⟨w.heap.size,3,none⟩=some (.slice (some ⟨b,o,none⟩) x.s.len ck)∧wx.cell? ⟨w.heap.size,4,none⟩=some (.bool x.d)):=by
   intro wx hp hq
   obtain ⟨c0,c1,c2,c3,c4,_⟩:=cells5 hq
   obtain ⟨v,hv,_⟩:=hp.ex
   obtain ⟨n,hn⟩:=hp.mf
   refine ⟨by simp [World.cell?,hv],?_,c0,c1,c2,c3,c4⟩
   have:=hn.look (s:=t0) (by have:=HOk.out.t;unfold maxLen;dsimp only at this;omega)
   rw [this]
   have e:=HFN.out
   rw [show fnV (rowFn t0) = .func (.func fn) #[] #[] by rw [e.1];unfold fnV;rw [if_neg (by omega)]]
  have hbd:Below w4.heap.size w4 w4.drew:=(Below.refl _ _).drew
  have hba:Below w4.heap.size w4 (w4.drew.alloc F9):=hbd.trans ((Below.refl _ w4.drew).alloc (Nat.le_refl _) F9)
  have HHd:Hid (Hd W w w4.drew B pb mb ps x (.slice (some ⟨b,o,none⟩) x.s.len ck)):=HH4.out.step (HH4.out.c.px.same hbd) (KP.of hbd)
  have HHa:Hid (Hd W w (w4.drew.alloc F9) B pb mb ps x (.slice (some ⟨b,o,none⟩) x.s.len ck)):=HH4.out.step (HH4.out.c.px.same hba) (KP.of hba)
  have hrd:=HRow.out _ HHd.out.c
  have hra:=HRow.out _ HHa.out.c
  unfold RowC at hrd hra
  replace hrd:=hrd.mono fun _ _=>gone_or
  replace hra:=hra.mono fun _ _=>gone_or
  have HRD:Hid _:=hrd
  have HRA:Hid _:=hra
  have HQ9:Hid ((w4.drew.alloc F9).heap[w4.heap.size]?=some (.cells #[.int .u8 0, .string ⟨#[]⟩, .slice none 0 0, .slice none 0 0, .int .u8 0, .int .i64 0, .string ⟨#[]⟩, .slice none 0 0, .bool false] 36 (0,0))):=World.alloc_heap_new _ _
  have hmx:Tryz.prog.follows .mixedOrders=true:=by kernel_rfl
  have hlt:=HH4.out.lt
  have hzn:=HZ4.out
  clear hbd hba hrd hra
  refine wp_region_held_drew (S:=fun wx=>PX wx B pb mb ps∧wx.heap[w.heap.size]?=some (.cells #[.int .u8 x.k, .int .i64 x.n,S x.t,(.slice (some ⟨b,o,none⟩) x.s.len ck), .bool x.d] 32 (0,0))) hmx ⟨HHd.out.c.px,HHd.out.q0⟩ (fun hHeld=>?_)
  refine wpAnyH_take (i:=0) (oi:={ dst:=some 58,op:=Op.move (Operand.tmp 0),type:=150,pos := "parser.go:64", after := #[],guard:=none }) (v:=?v0w4) rfl (by kernel_rfl) (by kernel_rfl) (by kernel_rfl) (fun _ _ _ h=>h) (Or.inl ⟨by rfl,?hy0w4⟩) (by assumption) ?rest0w4
  case hy0w4=>(intro wz hSw;obtain ⟨m0,m1,m2,m3,m4,m5,m6⟩:=HSm.out wz hSw.1 hSw.2;go_simp;try with_reducible rfl)
  try simp only [Act.put,List.setIfInBounds_toArray,List.set_cons_zero,List.set_cons_succ]
  refine wpAnyH_take (i:=1) (oi:={ dst:=some 59,op:=Op.nilCheck (Operand.tmp 58),type:=0,pos := "parser.go:64", after := #[{ on:=0,ground:=Ground.data }],guard:=none }) (v:=?v1w4) rfl (by kernel_rfl) (by kernel_rfl) (by kernel_rfl) (fun _ _ _ h=>h) (Or.inl ⟨by rfl,?hy1w4⟩) (by assumption) ?rest1w4
  case hy1w4=>(intro wz hSw;obtain ⟨m0,m1,m2,m3,m4,m5,m6⟩:=HSm.out wz hSw.1 hSw.2;go_simp;try with_reducible rfl)
  try simp only [Act.put,List.setIfInBounds_toArray,List.set_cons_zero,List.set_cons_succ]
  refine wpAnyH_take (i:=2) (oi:={ dst:=some 60,op:=Op.fieldAddr 106 (Operand.tmp 59) 0,type:=0,pos := "parser.go:64", after := #[{ on:=1,ground:=Ground.data }],guard:=none }) (v:=?v2w4) rfl (by kernel_rfl) (by kernel_rfl) (by kernel_rfl) (fun _ _ _ h=>h) (Or.inl ⟨by rfl,?hy2w4⟩) (by assumption) ?rest2w4
  case hy2w4=>(intro wz hSw;obtain ⟨m0,m1,m2,m3,m4,m5,m6⟩:=HSm.out wz hSw.1 hSw.2;go_simp;try with_reducible rfl)
  try simp only [Act.put,List.setIfInBounds_toArray,List.set_cons_zero,List.set_cons_succ]
  refine wpAnyH_take (i:=3) (oi:={ dst:=some 61,op:=Op.load 103 (Operand.tmp 60),type:=103,pos := "parser.go:64", after := #[{ on:=2,ground:=Ground.data }],guard:=none }) (v:=?v3w4) rfl (by kernel_rfl) (by kernel_rfl) (by kernel_rfl) (fun _ _ _ h=>h) (Or.inl ⟨by rfl,?hy3w4⟩) (by assumption) ?rest3w4
  case hy3w4=>(intro wz hSw;obtain ⟨m0,m1,m2,m3,m4,m5,m6⟩:=HSm.out wz hSw.1 hSw.2;go_simp;try with_reducible rfl)
  try simp only [Act.put,List.setIfInBounds_toArray,List.set_cons_zero,List.set_cons_succ]
  refine wpAnyH_take (i:=4) (oi:={ dst:=some 62,op:=Op.move (Operand.tmp 5),type:=9,pos := "parser.go:64", after := #[],guard:=none }) (v:=?v4w4) rfl (by kernel_rfl) (by kernel_rfl) (by kernel_rfl) (fun _ _ _ h=>h) (Or.inl ⟨by rfl,?hy4w4⟩) (by assumption) ?rest4w4
  case hy4w4=>(intro wz hSw;obtain ⟨m0,m1,m2,m3,m4,m5,m6⟩:=HSm.out wz hSw.1 hSw.2;go_simp;try with_reducible rfl)
  try simp only [Act.put,List.setIfInBounds_toArray,List.set_cons_zero,List.set_cons_succ]
  refine wpAnyH_take (i:=5) (oi:={ dst:=some 63,op:=Op.lookup 103 (Operand.tmp 61) (Operand.tmp 62) false,type:=149,pos := "parser.go:64", after := #[{ on:=3,ground:=Ground.data },{ on:=4,ground:=Ground.data }],guard:=none }) (v:=?v5w4) rfl (by kernel_rfl) (by kernel_rfl) (by kernel_rfl) (fun _ _ _ h=>h) (Or.inl ⟨by rfl,?hy5w4⟩) (by assumption) ?rest5w4
  case hy5w4=>(intro wz hSw;obtain ⟨m0,m1,m2,m3,m4,m5,m6⟩:=HSm.out wz hSw.1 hSw.2;go_simp;try with_reducible rfl)
  try simp only [Act.put,List.setIfInBounds_toArray,List.set_cons_zero,List.set_cons_succ]
  refine wpAnyH_take (i:=6) (oi:={ dst:=some 64,op:=Op.move (Operand.tmp 0),type:=150,pos := "parser.go:64", after := #[],guard:=none }) (v:=?v6w4) rfl (by kernel_rfl) (by kernel_rfl) (by kernel_rfl) (fun _ _ _ h=>h) (Or.inl ⟨by rfl,?hy6w4⟩) (by assumption) ?rest6w4
  case hy6w4=>(intro wz hSw;obtain ⟨m0,m1,m2,m3,m4,m5,m6⟩:=HSm.out wz hSw.1 hSw.2;go_simp;try with_reducible rfl)
  try simp only [Act.put,List.setIfInBounds_toArray,List.set_cons_zero,List.set_cons_succ]
  refine wpAnyH_take (i:=7) (oi:={ dst:=some 65,op:=Op.load 32 (Operand.tmp 3),type:=32,pos := "parser.go:64", after := #[],guard:=none }) (v:=?v7w4) rfl (by kernel_rfl) (by kernel_rfl) (by kernel_rfl) (fun _ _ _ h=>h) (Or.inl ⟨by rfl,?hy7w4⟩) (by assumption) ?rest7w4
  case hy7w4=>(intro wz hSw;obtain ⟨m0,m1,m2,m3,m4,m5,m6⟩:=HSm.out wz hSw.1 hSw.2;go_simp;try with_reducible rfl)
  try simp only [Act.put,List.setIfInBounds_toArray,List.set_cons_zero,List.set_cons_succ]
  refine wpAnyH_ready (rs:=[8,9]) (by kernel_rfl) (by simp) ?_
  refine AllReadyH.cons (o:={ dst:=some 66,op:=Op.call { callee:=Callee.value (Operand.tmp 63),args := #[Operand.tmp 64,Operand.tmp 65],argTypes := #[150,32] },type:=36,pos := "parser.go:64", after := #[{ on:=5,ground:=Ground.data },{ on:=6,ground:=Ground.data },{ on:=7,ground:=Ground.data }],guard:=none }) rfl (fun K hK=>?_) (AllReadyH.cons (o:={ dst:=some 9,op:=Op.alloc 36,type:=0,pos := "parser.go:64", after := #[],guard:=none }) rfl (fun K hK=>?_) AllReadyH.nil)
  ·go_simp
   refine Calls.mono HRD.out ?_
   rintro e w6 (⟨er,p,hr,v', rfl,h1,h2⟩|⟨f,hr,⟨nv,kv,dv,nbs,rfl,hone⟩,hp6,hk6⟩)
   ·go_wp2_with fail
    refine ⟨rfl,?_⟩
    rw [hr]
    exact GaveUp.elder ⟨v', rfl,h1,h2⟩ HHd.out.k
   ·obtain ⟨b1,g1,b2,g2,b3,g3,rfl,rfl,rfl⟩:=hone.slices
    have HH6:Hid (Hd W w w6 B pb mb ps x (.slice (some ⟨b,o,none⟩) x.s.len ck)):=HHd.out.step hp6 hk6
    have a7:=(Below.refl _ w6).alloc (Nat.le_refl _) F9
    have HH7:Hid (Hd W w (w6.alloc F9) B pb mb ps x (.slice (some ⟨b,o,none⟩) x.s.len ck)):=HH6.out.step (HH6.out.c.px.same a7) (KP.of a7)
    have a8:=(Below.refl _ w6).alloc (Nat.le_refl _) (Z9 f (.slice b1 f.names.length g1) (.slice b2 f.kids.len g2) (.slice b3 f.dat.s.len g3))
    have HH8:Hid (Hd W w (w6.alloc (Z9 f (.slice b1 f.names.length g1) (.slice b2 f.kids.len g2) (.slice b3 f.dat.s.len g3))) B pb mb ps x (.slice (some ⟨b,o,none⟩) x.s.len ck)):=HH6.out.step (HH6.out.c.px.same a8) (KP.of a8)
    have hs6:w4.heap.size≤w6.heap.size:=hk6.size
    have Hone:Hid (FOne (w6.alloc (Z9 f (.slice b1 f.names.length g1) (.slice b2 f.kids.len g2) (.slice b3 f.dat.s.len g3))) (w.heap.size+2) f (.slice b1 f.names.length g1) (.slice b2 f.kids.len g2) (.slice b3 f.dat.s.len g3) nbs):=(hone.mono (show w.heap.size+2≤w4.drew.heap.size from hzn)).kept (fun g hg=>a8.block g (hone.lt g hg).2)
    have HNB0:Hid (∀g∈nbs,g≠w6.heap.size):=fun g hg e=>by have:=(hone.lt g hg).2;omega
    clear a7 a8 hone hp6 hk6
    go_wp2_with fail
    refine hK.out _ _ ⟨HH6.out.c.px,HH6.out.q0⟩ (fun hHeld=>?_)
    clear hK K
    try simp only [Act.put,List.setIfInBounds_toArray,List.set_cons_zero,List.set_cons_succ]
    refine wpAnyH_ready (rs:=[9]) (by kernel_rfl) (by simp) ?_
    refine AllReadyH.cons (o:={ dst:=some 9,op:=Op.alloc 36,type:=0,pos := "parser.go:64", after := #[],guard:=none }) rfl (fun K hK=>?_) AllReadyH.nil
    go_simp
    refine hK.out _ _ ⟨HH7.out.c.px,HH7.out.q0⟩ (fun hHeld=>?_)
    clear hK K
    try simp only [Act.put,List.setIfInBounds_toArray,List.set_cons_zero,List.set_cons_succ]
    refine wpAnyH_ready (rs:=[10]) (by kernel_rfl) (by simp) ?_
    refine AllReadyH.cons (o:={ dst:=none,op:=Op.store 36 (Operand.tmp 9) (Operand.tmp 66),type:=0,pos := "parser.go:64", after := #[{ on:=9,ground:=Ground.data },{ on:=8,ground:=Ground.data },{ on:=8,ground:=Ground.chain },{ on:=0,ground:=Ground.phase },{ on:=1,ground:=Ground.phase },{ on:=2,ground:=Ground.phase },{ on:=3,ground:=Ground.phase },{ on:=4,ground:=Ground.phase },{ on:=5,ground:=Ground.phase },{ on:=6,ground:=Ground.phase },{ on:=7,ground:=Ground.phase },{ on:=8,ground:=Ground.phase },{ on:=9,ground:=Ground.phase }],guard:=none }) rfl (fun K hK=>?_) AllReadyH.nil
    go_simp
    refine hK.out _ _ ⟨HH8.out.c.px,HH8.out.q0⟩ (fun hHeld=>?_)
    clear hK K
    try simp only [Act.put,List.setIfInBounds_toArray,List.set_cons_zero,List.set_cons_succ]
    have HQ8:Hid ((w6.alloc (Z9 f (.slice b1 f.names.length g1) (.slice b2 f.kids.len g2) (.slice b3 f.dat.s.len g3))).heap[w6.heap.size]?=some (Z9 f (.slice b1 f.names.length g1) (.slice b2 f.kids.len g2) (.slice b3 f.dat.s.len g3))):=World.alloc_heap_new _ _
    have HNB:Hid (∀g∈nbs,g≠w6.heap.size):=HNB0.out
    have hn9:w.heap.size+2≤w6.heap.size:=by omega
    generalize w6.alloc (Z9 f (.slice b1 f.names.length g1) (.slice b2 f.kids.len g2) (.slice b3 f.dat.s.len g3))=W8 at *
    generalize w6.heap.size=n9 at *
    have q8:=HQ8.out
    obtain ⟨⟨y0,y1,y2,y3,y4,y5,y6,y7,y8⟩,yf⟩:=cells9 q8
    have gf0:=yf 0
    have o10:Nine W8 (W8.setCell ⟨n9,0,none⟩ (.int .u8 kd)) n9:=(Nine.refl W8 n9).set 0 _
    have q10:(W8.setCell ⟨n9,0,none⟩ (.int .u8 kd)).heap[n9]?=some (.cells #[.int .u8 kd,S f.text, .slice b1 f.names.length g1, .slice b2 f.kids.len g2, .int .u8 f.dat.k, .int .i64 f.dat.n,S f.dat.t, .slice b3 f.dat.s.len g3, .bool f.dat.d] 36 (0,0)):=by
     have:=set_atC (j:=0) q8 (.int .u8 (kd:Int))
     rw [this];rfl
    have HH10:Hid (Hd W w (W8.setCell ⟨n9,0,none⟩ (.int .u8 kd)) B pb mb ps x (.slice (some ⟨b,o,none⟩) x.s.len ck)):=⟨⟨HH8.out.c.hW.trans ⟨o10.os,o10.tape,o10.output,Nat.le_of_eq o10.size.symm,fun g hg=>o10.other g (by have:=HH8.out.c.hB;have:=HH8.out.c.px.hB;omega)⟩,HH8.out.c.hB,HH8.out.c.env,px_nine HH8.out.c.px q8 o10⟩,kp_at HH8.out.k o10.size o10.other (by omega) o10.os o10.tape o10.output,(o10.other w.heap.size (by omega)).trans HH8.out.q0,(o10.other (w.heap.size+1) (by omega)).trans HH8.out.q1,HH8.out.ltx,HH8.out.lt⟩
    have Hone10:Hid (FOne (W8.setCell ⟨n9,0,none⟩ (.int .u8 kd)) (w.heap.size+2) { f with kind:=kd } (.slice b1 f.names.length g1) (.slice b2 f.kids.len g2) (.slice b3 f.dat.s.len g3) nbs):=by
     have h:=Hone.out.kept (fun g hg=>o10.other g (HNB.out g hg))
     exact ⟨h.row,h.nodup⟩
    refine wpAnyH_done (by kernel_rfl) ?_ _
    go_upto_region 12 with fail
    generalize W8.setCell ⟨n9,0,none⟩ (.int .u8 kd)=W10 at *
    clear y0 y1 y2 y3 y4 y5 y6 y7 y8 yf gf0 q8 o10
    obtain ⟨⟨y0,y1,y2,y3,y4,y5,y6,y7,y8⟩,_⟩:=cells9 q10
    obtain ⟨⟨z0,z1,z2,z3,z4,z5,z6,z7,z8⟩,zf⟩:=cells9 HH10.out.q1
    have f0:=zf 0
    have f1:=zf 1
    have f2:=zf 2
    have f3:=zf 3
    have f4:=zf 4
    have f5:=zf 5
    have f6:=zf 6
    have f7:=zf 7
    have f8:=zf 8
    clear zf q10
    go_wp2_with fail
    refine bodyPost_nine (s:=4) rfl rfl rfl HH10.out.q1 fun W9 h9=>?_
    rw [hr]
    exact row_end (f:={ f with kind:=kd }) HH10.out Hone10.out h9
  ·go_simp
   refine hK.out _ _ ⟨HHa.out.c.px,HHa.out.q0⟩ (fun hHeld=>?_)
   clear hK K
   try simp only [Act.put,List.setIfInBounds_toArray,List.set_cons_zero,List.set_cons_succ]
   refine wpAnyH_ready (rs:=[8]) (by kernel_rfl) (by simp) ?_
   refine AllReadyH.cons (o:={ dst:=some 66,op:=Op.call { callee:=Callee.value (Operand.tmp 63),args := #[Operand.tmp 64,Operand.tmp 65],argTypes := #[150,32] },type:=36,pos := "parser.go:64", after := #[{ on:=5,ground:=Ground.data },{ on:=6,ground:=Ground.data },{ on:=7,ground:=Ground.data }],guard:=none }) rfl (fun K hK=>?_) AllReadyH.nil
   go_simp
   refine Calls.mono HRA.out ?_
   rintro e w6 (⟨er,p,hr,v', rfl,h1,h2⟩|⟨f,hr,⟨nv,kv,dv,nbs,rfl,hone⟩,hp6,hk6⟩)
   ·go_wp2_with fail
    refine ⟨rfl,?_⟩
    rw [hr]
    exact GaveUp.elder ⟨v', rfl,h1,h2⟩ HHa.out.k
   ·obtain ⟨b1,g1,b2,g2,b3,g3,rfl,rfl,rfl⟩:=hone.slices
    have HH6:Hid (Hd W w w6 B pb mb ps x (.slice (some ⟨b,o,none⟩) x.s.len ck)):=HHa.out.step hp6 hk6
    have r9:=hk6.at HQ9.out (by decide) (by show ¬ _=pb;omega)
    have HR9:Hid _:=r9
    obtain ⟨⟨z0,z1,z2,z3,z4,z5,z6,z7,z8⟩,zf⟩:=cells9 r9
    have f0:=zf 0
    have f1:=zf 1
    have f2:=zf 2
    have f3:=zf 3
    have f4:=zf 4
    have f5:=zf 5
    have f6:=zf 6
    have f7:=zf 7
    have f8:=zf 8
    clear zf r9
    go_wp2_with fail
    refine hK.out _ _ ⟨HH6.out.c.px,HH6.out.q0⟩ (fun hHeld=>?_)
    clear hK K
    try simp only [Act.put,List.setIfInBounds_toArray,List.set_cons_zero,List.set_cons_succ]
    refine wpAnyH_ready (rs:=[10]) (by kernel_rfl) (by simp) ?_
    refine AllReadyH.cons (o:={ dst:=none,op:=Op.store 36 (Operand.tmp 9) (Operand.tmp 66),type:=0,pos := "parser.go:64", after := #[{ on:=9,ground:=Ground.data },{ on:=8,ground:=Ground.data },{ on:=8,ground:=Ground.chain },{ on:=0,ground:=Ground.phase },{ on:=1,ground:=Ground.phase },{ on:=2,ground:=Ground.phase },{ on:=3,ground:=Ground.phase },{ on:=4,ground:=Ground.phase },{ on:=5,ground:=Ground.phase },{ on:=6,ground:=Ground.phase },{ on:=7,ground:=Ground.phase },{ on:=8,ground:=Ground.phase },{ on:=9,ground:=Ground.phase }],guard:=none }) rfl (fun K hK=>?_) AllReadyH.nil
    go_simp
    have o9:=nine_nine w4.heap.size w6 (.int .u8 f.kind) (S f.text) (.slice b1 f.names.length g1) (.slice b2 f.kids.len g2) (.int .u8 f.dat.k) (.int .i64 f.dat.n) (S f.dat.t) (.slice b3 f.dat.s.len g3) (.bool f.dat.d)
    have h9:=nine_at HR9.out (.int .u8 f.kind) (S f.text) (.slice b1 f.names.length g1) (.slice b2 f.kids.len g2) (.int .u8 f.dat.k) (.int .i64 f.dat.n) (S f.dat.t) (.slice b3 f.dat.s.len g3) (.bool f.dat.d)
    have HP8:=px_nine HH6.out.c.px HR9.out o9
    have HB8:=(o9.other w.heap.size (by omega)).trans HH6.out.q0
    unfold nine at o9 h9 HP8 HB8
    refine hK.out _ _ ⟨HP8,HB8⟩ (fun hHeld=>?_)
    clear hK K
    try simp only [Act.put,List.setIfInBounds_toArray,List.set_cons_zero,List.set_cons_succ]
    obtain ⟨W8,hW8⟩:∃W8,(((((((((w6.setCell ⟨w4.heap.size,0,none⟩ (.int .u8 f.kind)).setCell ⟨w4.heap.size,1,none⟩ (S f.text)).setCell ⟨w4.heap.size,2,none⟩ (.slice b1 f.names.length g1)).setCell ⟨w4.heap.size,3,none⟩ (.slice b2 f.kids.len g2)).setCell ⟨w4.heap.size,4,none⟩ (.int .u8 f.dat.k)).setCell ⟨w4.heap.size,5,none⟩ (.int .i64 f.dat.n)).setCell ⟨w4.heap.size,6,none⟩ (S f.dat.t)).setCell ⟨w4.heap.size,7,none⟩ (.slice b3 f.dat.s.len g3)).setCell ⟨w4.heap.size,8,none⟩ (.bool f.dat.d))=W8:=⟨_,rfl⟩
    rw [hW8] at o9 h9 HP8 HB8 ⊢
    have HQ8:Hid (W8.heap[w4.heap.size]?=some (Z9 f (.slice b1 f.names.length g1) (.slice b2 f.kids.len g2) (.slice b3 f.dat.s.len g3))):=h9
    have HH8:Hid (Hd W w W8 B pb mb ps x (.slice (some ⟨b,o,none⟩) x.s.len ck)):=⟨⟨HH6.out.c.hW.trans ⟨o9.os,o9.tape,o9.output,Nat.le_of_eq o9.size.symm,fun g hg=>o9.other g (by have:=HH6.out.c.hB;have:=HH6.out.c.px.hB;omega)⟩,HH6.out.c.hB,HH6.out.c.env,HP8⟩,kp_at HH6.out.k o9.size o9.other (by omega) o9.os o9.tape o9.output,HB8,(o9.other (w.heap.size+1) (by omega)).trans HH6.out.q1,HH6.out.ltx,HH6.out.lt⟩
    have Hone:Hid (FOne W8 (w.heap.size+2) f (.slice b1 f.names.length g1) (.slice b2 f.kids.len g2) (.slice b3 f.dat.s.len g3) nbs):=(hone.kept (fun g hg=>o9.other g (by have h1:=(hone.lt g hg).1;simp at h1;omega))).mono (by simp;omega)
    have HNB:Hid (∀g∈nbs,g≠w4.heap.size):=fun g hg e=>by have h1:=(hone.lt g hg).1;simp at h1;omega
    clear hW8 o9 h9 HP8 HB8 hone hp6 hk6 z0 z1 z2 z3 z4 z5 z6 z7 z8 f0 f1 f2 f3 f4 f5 f6 f7 f8
    have q8:=HQ8.out
    obtain ⟨⟨y0,y1,y2,y3,y4,y5,y6,y7,y8⟩,yf⟩:=cells9 q8
    have gf0:=yf 0
    have o10:Nine W8 (W8.setCell ⟨w4.heap.size,0,none⟩ (.int .u8 kd)) w4.heap.size:=(Nine.refl W8 w4.heap.size).set 0 _
    have q10:(W8.setCell ⟨w4.heap.size,0,none⟩ (.int .u8 kd)).heap[w4.heap.size]?=some (.cells #[.int .u8 kd,S f.text, .slice b1 f.names.length g1, .slice b2 f.kids.len g2, .int .u8 f.dat.k, .int .i64 f.dat.n,S f.dat.t, .slice b3 f.dat.s.len g3, .bool f.dat.d] 36 (0,0)):=by
     have:=set_atC (j:=0) q8 (.int .u8 (kd:Int))
     rw [this];rfl
    have HH10:Hid (Hd W w (W8.setCell ⟨w4.heap.size,0,none⟩ (.int .u8 kd)) B pb mb ps x (.slice (some ⟨b,o,none⟩) x.s.len ck)):=⟨⟨HH8.out.c.hW.trans ⟨o10.os,o10.tape,o10.output,Nat.le_of_eq o10.size.symm,fun g hg=>o10.other g (by have:=HH8.out.c.hB;have:=HH8.out.c.px.hB;omega)⟩,HH8.out.c.hB,HH8.out.c.env,px_nine HH8.out.c.px q8 o10⟩,kp_at HH8.out.k o10.size o10.other (by omega) o10.os o10.tape o10.output,(o10.other w.heap.size (by omega)).trans HH8.out.q0,(o10.other (w.heap.size+1) (by omega)).trans HH8.out.q1,HH8.out.ltx,HH8.out.lt⟩
    have Hone10:Hid (FOne (W8.setCell ⟨w4.heap.size,0,none⟩ (.int .u8 kd)) (w.heap.size+2) { f with kind:=kd } (.slice b1 f.names.length g1) (.slice b2 f.kids.len g2) (.slice b3 f.dat.s.len g3) nbs):=by
     have h:=Hone.out.kept (fun g hg=>o10.other g (HNB.out g hg))
     exact ⟨h.row,h.nodup⟩
    refine wpAnyH_done (by kernel_rfl) ?_ _
    go_upto_region 12 with fail
    generalize W8.setCell ⟨w4.heap.size,0,none⟩ (.int .u8 kd)=W10 at *
    clear y0 y1 y2 y3 y4 y5 y6 y7 y8 yf gf0 q8 o10
    obtain ⟨⟨y0,y1,y2,y3,y4,y5,y6,y7,y8⟩,_⟩:=cells9 q10
    obtain ⟨⟨z0,z1,z2,z3,z4,z5,z6,z7,z8⟩,zf⟩:=cells9 HH10.out.q1
    have f0:=zf 0
    have f1:=zf 1
    have f2:=zf 2
    have f3:=zf 3
    have f4:=zf 4
    have f5:=zf 5
    have f6:=zf 6
    have f7:=zf 7
    have f8:=zf 8
    clear zf q10
    go_wp2_with fail
    refine bodyPost_nine (s:=4) rfl rfl rfl HH10.out.q1 fun W9 h9=>?_
    rw [hr]
    exact row_end (f:={ f with kind:=kd }) HH10.out Hone10.out h9
theorem kw_ne {s:List UInt8} {kd:Nat} (h:kwOf s=some kd):kd≠2∧kd≠10:=by
 unfold kwOf at h
 split at h
 ·cases h
 ·rename_i hs
  cases hf:shpL.findIdx? (fun x=>x.1 == s) with
  | none=>rw [hf] at h;cases h
  | some j =>
   rw [hf] at h
   simp only [Option.map_some,Option.some.injEq] at h
   subst h
   rw [List.findIdx?_eq_some_iff_getElem] at hf
   obtain ⟨hj,h1,_⟩:=hf
   refine ⟨fun e=>?_,fun e=>?_⟩
   ·have:j=1:=by omega
    subst this
    exact hs (by simpa [shpL] using h1.symm)
   ·have:j=9:=by omega
    subst this
    exact hs (by simpa [shpL] using h1.symm)
theorem enters_quoted:∀args W,(callFunc 102 args).run Tryz.prog W = .ok (.enter 102 args) W:=enters_of Tryz.func102 (by kernel_rfl) rfl
theorem enters_lambda:∀args W,(callFunc 104 args).run Tryz.prog W = .ok (.enter 104 args) W:=enters_of Tryz.func104 (by kernel_rfl) rfl
theorem enters_named:∀args W,(callFunc 105 args).run Tryz.prog W = .ok (.enter 105 args) W:=enters_of Tryz.func105 (by kernel_rfl) rfl
theorem enters_let:∀args W,(callFunc 106 args).run Tryz.prog W = .ok (.enter 106 args) W:=enters_of Tryz.func106 (by kernel_rfl) rfl
theorem enters_plain:∀args W,(callFunc 103 args).run Tryz.prog W = .ok (.enter 103 args) W:=enters_of Tryz.func103 (by kernel_rfl) rfl
theorem two_of {f:Fo} (h:2≤f.len):∃k0 n0 t0 s0 d0 k1 n1 t1 s1 d1 r,f = .cons k0 n0 t0 s0 d0 (.cons k1 n1 t1 s1 d1 r):=by
 match f,h with
 | .cons k0 n0 t0 s0 d0 (.cons k1 n1 t1 s1 d1 r),_=>exact ⟨_,_,_,_,_,_,_,_,_,_,_,rfl⟩
 | .nil,h=>simp [Fo.len] at h
 | .cons _ _ _ _ _ .nil,h=>simp [Fo.len] at h
theorem list_all {K:Nat} (hF:FormC K) (W:World) (B pb mb:Nat) (ps:List Int) (x:Dt) (rk:Option Addr) (ck:Nat) (w:World) (hC:Ctx W w B pb mb ps) (hl:ps.length+3+4*K≤900) (hX:DOk x) (hdp:x.s.dpt≤K) (hR:RS W rk x.s) :
  RowC W w B pb mb ps x rk ck 107 (listM (formM K true) (!ps.isEmpty) x):=by
 cases hb:(x.d || x.s.len == 0) with
 | true=>exact list_bad W B pb mb ps x rk ck w _ hC (by omega) hX hb
 | false =>
  have hd:x.d=false:=by cases h:x.d<;>simp [h] at hb ⊢
  have hne:x.s.len≠0:=by rw [hd] at hb;simpa using hb
  obtain ⟨k0,n0,t0,s0,d0,r,hs⟩:∃k0 n0 t0 s0 d0 r,x.s = .cons k0 n0 t0 s0 d0 r:=by
   cases h:x.s with
   | nil=>rw [h] at hne;exact absurd rfl hne
   | cons k n t s d r=>exact ⟨_,_,_,_,_,_,rfl⟩
  cases hk:kwOf t0 with
  | none=>exact list_call hF W B pb mb ps x rk ck w hC (by omega) hX hdp hR hd ⟨k0,n0,t0,s0,d0,r,hs,hk⟩
  | some kd =>
   by_cases hgo:takesB kd (x.s.len-1-(shpOf kd).2.1)=true∧(kd=5→ps=[])
   ·obtain ⟨h1,h2⟩:=kwOf_lt hk
    obtain ⟨h3,h4⟩:=kw_ne hk
    have htk:=hgo.1
    have hq:∀fn,rowFn t0=fn→0<fn→(∀args W,(callFunc fn args).run Tryz.prog W = .ok (.enter fn args) W)→(∀w', Ctx W w' B pb mb ps→RowC W w' B pb mb ps x rk ck fn (rowM (formM K true) kd x)) →
      RowC W w B pb mb ps x rk ck 107 (listM (formM K true) (!ps.isEmpty) x):=fun fn e1 e2 eg hRow =>
     list_row (formM K true) fn W B pb mb ps x rk ck w hC (by omega) hX hR hd kd ⟨k0,n0,t0,s0,d0,r,hs,hk,e1,e2⟩ hgo eg hRow
    have hrf:∀fn,(match (some kd:Option Nat) with
      | some 1=>102
      | some 4=>104
      | some 5=>105
      | some 6=>105
      | some 8=>106
      | some _=>103
      | none=>0)=fn→rowFn t0=fn:=fun fn e=>by unfold rowFn;rw [hk];exact e
    have htk' : ∀a b c,shpOf kd=(a,b,c)→c.1≤(x.s.len:Int)-1-b∧(x.s.len:Int)-1-b≤c.2:=fun a b c e=>by
     have:=htk
     unfold takesB at this
     rw [e] at this
     simpa using this
    rcases (show kd=1∨kd=4∨kd=5∨kd=6∨kd=8∨(kd=3∨kd=7∨kd=9∨kd=11∨kd=12∨kd=13∨kd=14∨kd=15) by omega) with e|e|e|e|e|e
    ·subst e
     have:=htk' _ _ _ rfl
     exact hq _ (hrf _ rfl) (by decide) enters_quoted (fun w' hC' => quoted_any W B pb mb ps x rk ck w' hC' hX hR (two_of (by have:=this.1;simp at this;omega)))
    ·subst e
     have:=htk' _ _ _ rfl
     exact hq _ (hrf _ rfl) (by decide) enters_lambda (fun w' hC' => lambda_any hF W B pb mb ps x rk ck w' hC' (by omega) hX hdp hR (two_of (by have:=this.1;simp at this;omega)))
    ·subst e
     have:=htk' _ _ _ rfl
     exact hq _ (hrf _ rfl) (by decide) enters_named (fun w' hC' => named_any hF W B pb mb ps x rk ck w' hC' (by omega) hX hdp hR (two_of (by have:=this.1;simp at this;omega)))
    ·subst e
     have:=htk' _ _ _ rfl
     exact hq _ (hrf _ rfl) (by decide) enters_named (fun w' hC' => named_any hF W B pb mb ps x rk ck w' hC' (by omega) hX hdp hR (two_of (by have:=this.1;simp at this;omega)))
    ·subst e
     have:=htk' _ _ _ rfl
     exact hq _ (hrf _ rfl) (by decide) enters_let (fun w' hC' => let_any hF W B pb mb ps x rk ck w' hC' (by omega) hX hdp hR (by have:=this.1;simp at this;omega) (two_of (by have:=this.1;simp at this;omega)))
    ·have hp:RowC W w B pb mb ps x rk ck 107 (listM (formM K true) (!ps.isEmpty) x):=by
      rcases e with e|e|e|e|e|e|e|e<;>subst e <;>
       exact hq _ (hrf _ rfl) (by decide) enters_plain (fun w' hC' => plain_any hF W B pb mb ps x rk ck w' hC' (by omega) hX hdp hR (by omega))
     exact hp
   ·refine list_not (formM K true) W B pb mb ps x rk ck w hC (by omega) hX hR hd kd ⟨k0,n0,t0,s0,d0,r,hs,hk⟩ ?_
    cases ht:takesB kd (x.s.len-1-(shpOf kd).2.1) with
    | false=>exact .inl rfl
    | true =>
     refine .inr ?_
     rw [ht] at hgo
     simp only [true_and,Classical.not_imp] at hgo
     exact hgo
end Go.Proofs.YtkgnigloboajcaaGreatDoor
