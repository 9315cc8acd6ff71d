/- How deep what can be written is.; Of.; Forms, as they are read. -/
import Derived.Test.YtkgnigloboajcaaGreatDoorK10
import Derived.Test.YtkgnigloboajcaaGreatDoorK14
import Derived.Test.YtkgnigloboajcaaGreatDoorK19
import Derived.Test.YtkgnigloboajcaaGreatDoorK21
import Derived.Test.YtkgnigloboajcaaGreatDoorK26
set_option maxRecDepth 100000
set_option maxHeartbeats 8000000
namespace Go.Proofs.YtkgnigloboajcaaGreatDoor
theorem isDat_nil {k n:Int} {t:List UInt8} {s:Fo} {d:Bool} (h:isDat k n t s d=true) (hk:k≠5):s = .nil:=by
 have hs:s.same .nil=true→s = .nil:=fun h=>by cases s<;>simp_all [Fo.same]
 unfold isDat sameB at h
 split at h
 ·simp at h;exact hs (by simp [h])
 split at h
 ·simp at h;exact hs (by simp [h])
 split at h
 ·simp at h;exact hs (by simp [h])
 cases h
theorem dpt_dep:∀(f:Fo) (L:Nat),allD f=true→f.dpt+L≤max (dep L f) L+1
 | .nil,L,_=>by simp only [Fo.dpt,dep];omega
 | .cons k n t s d r,L,h=>by
  have hA:allD (.cons k n t s d r)=(isDat k n t s d && (allD s && allD r)):=rfl
  rw [hA] at h
  simp only [Bool.and_eq_true] at h
  obtain ⟨h1,h2,h3⟩:=h
  have hr:=dpt_dep r L h3
  by_cases hk:k=5
  ·have hs:=dpt_dep s (L+1) h2
   simp only [Fo.dpt,dep,if_pos hk]
   omega
  ·have:=isDat_nil h1 hk
   subst this
   simp only [Fo.dpt,dep,if_neg hk]
   omega
theorem canB_dpt {x:Dt} (h:canB x=true):x.s.dpt+1≤101:=by
 unfold canB at h
 have hc:chk (x.fo .nil)=0:=by
  unfold writeOf at h
  by_cases h0:chk (x.fo .nil)=0
  ·exact h0
  ·rw [if_pos h0] at h
   exact absurd (by simpa using h) h0
 obtain ⟨h1,h2,_⟩:=chk_zero.1 hc
 have:=dpt_dep _ 0 h1
 have e:(x.fo .nil).dpt=max (x.s.dpt+1) 0:=rfl
 omega
open Go.RowKit
theorem resultsF3 {fn:Func} {tmps:Array Value} {b0 b1 b2:Nat} {v0 v1 v2 v3 v4 v5 v6 v7 v8 u1 u2:Value} {W:World} (hres:fn.results = #[.cell 2 36, .cell 3 37, .cell 4 38]) (h2:tmps[2]?=some (.pointer (some ⟨b0,0,none⟩))) (h3:tmps[3]?=some (.pointer (some ⟨b1,0,none⟩))) (h4:tmps[4]?=some (.pointer (some ⟨b2,0,none⟩)))
  (k0:W.heap[b0]?=some (.cells #[v0,v1,v2,v3,v4,v5,v6,v7,v8] 36 (0,0))) (k1:Boxed W b1 37 u1) (k2:Boxed W b2 38 u2):(results fn tmps).run Tryz.prog W = .ok (.tuple #[.agg #[v0,v1,v2,v3,v4,v5,v6,v7,v8],u1,u2]) W:=by
 obtain ⟨⟨y0,y1,y2,y3,y4,y5,y6,y7,y8⟩,_⟩:=cells9 k0
 have c1:=k1.cell
 have c2:=k2.cell
 obtain ⟨l2,e2⟩:=Array.getElem?_eq_some_iff.1 h2
 obtain ⟨l3,e3⟩:=Array.getElem?_eq_some_iff.1 h3
 obtain ⟨l4,e4⟩:=Array.getElem?_eq_some_iff.1 h4
 simp [results,hres,go_sem,y0,y1,y2,y3,y4,y5,y6,y7,y8,c1,c2,l2,e2,l3,e3,l4,e4]
structure ThreeF (w W:World) (b:Nat) (x:Frm) (nv kv dv u1 u2:Value):Prop where
 k0:W.heap[b]?=some (.cells #[.int .u8 x.kind,S x.text,nv,kv, .int .u8 x.dat.k, .int .i64 x.dat.n,S x.dat.t,dv, .bool x.dat.d] 36 (0,0))
 k1:Boxed W (b+1) 37 u1
 k2:Boxed W (b+1+1) 38 u2
 below:Below b w W
abbrev N0:Value := .slice none 0 0
theorem ThreeF.new (w:World):ThreeF w (((w.alloc F9).alloc (.cells #[.int .i64 0] 37)).alloc (.cells #[N0] 38)) w.heap.size frm0 N0 N0 N0 (.int .i64 0) N0:=by
 refine ⟨?_,?_,?_,(((Below.refl _ w).alloc (Nat.le_refl _) _).alloc (by simp) _).alloc (by simp;omega) _⟩
 ·exact (Below.heap_alloc _ _ _ (by simp;omega)).trans ((Below.heap_alloc _ _ _ (by simp)).trans (World.alloc_heap_new w F9))
 ·have:=(Boxed.new (w.alloc F9) 37 (.int .i64 0)).alloc (.cells #[N0] 38)
  rwa [World.size_alloc] at this
 ·have:=Boxed.new ((w.alloc F9).alloc (.cells #[.int .i64 0] 37)) 38 N0
  rwa [World.size_alloc,World.size_alloc] at this
theorem ThreeF.kept {w W W' : World} {b:Nat} {x:Frm} {nv kv dv u1 u2:Value} (h:ThreeF w W b x nv kv dv u1 u2) (hb:∀g,g<W.heap.size→g=b∨g=b+1∨g=b+1+1→W'.heap[g]?=W.heap[g]?) (hB:Below b W W'):ThreeF w W' b x nv kv dv u1 u2 :=
 ⟨(hb _ (Array.getElem?_eq_some_iff.1 h.k0).1 (.inl rfl)).trans h.k0,(hb _ h.k1.lt (.inr (.inl rfl))).trans h.k1,(hb _ h.k2.lt (.inr (.inr rfl))).trans h.k2,h.below.trans hB⟩
theorem ThreeF.le {w W:World} {b:Nat} {x:Frm} {nv kv dv u1 u2:Value} (h:ThreeF w W b x nv kv dv u1 u2):b+1+1<W.heap.size:=h.k2.lt
theorem ThreeF.same {w W W' : World} {b:Nat} {x:Frm} {nv kv dv u1 u2:Value} (h:ThreeF w W b x nv kv dv u1 u2) (hB:Below W.heap.size W W'):ThreeF w W' b x nv kv dv u1 u2:=h.kept (fun g hg _=>hB.block g hg) (hB.mono (by have:=h.le;omega))
theorem ThreeF.set1 {w W:World} {b:Nat} {x:Frm} {nv kv dv u1 u2:Value} (h:ThreeF w W b x nv kv dv u1 u2) (u:Value):ThreeF w (W.setCell ⟨b+1,0,none⟩ u) b x nv kv dv u u2:=⟨(Below.heap_setCell _ _ _ _ (by show b≠b+1;omega)).trans h.k0,h.k1.set u,h.k2.other (by omega) u,h.below.setCell (p:=⟨b+1,0,none⟩) (by simp) u⟩
theorem ThreeF.set2 {w W:World} {b:Nat} {x:Frm} {nv kv dv u1 u2:Value} (h:ThreeF w W b x nv kv dv u1 u2) (u:Value):ThreeF w (W.setCell ⟨b+1+1,0,none⟩ u) b x nv kv dv u1 u:=⟨(Below.heap_setCell _ _ _ _ (by show b≠b+1+1;omega)).trans h.k0,h.k1.other (by omega) u,h.k2.set u,h.below.setCell (p:=⟨b+1+1,0,none⟩) (by simp;omega) u⟩
theorem ThreeF.set9 {w W W9:World} {b:Nat} {x y:Frm} {nv kv dv nv' kv' dv' u1 u2:Value} (h:ThreeF w W b x nv kv dv u1 u2) (k:Nine W W9 b) (ha:W9.heap[b]?=some (.cells #[.int .u8 y.kind,S y.text,nv', kv', .int .u8 y.dat.k, .int .i64 y.dat.n,S y.dat.t,dv', .bool y.dat.d] 36 (0,0))):ThreeF w W9 b y nv' kv' dv' u1 u2 :=
 ⟨ha,(k.other _ (by omega)).trans h.k1,(k.other _ (by omega)).trans h.k2,h.below.trans ⟨k.os,k.tape,k.output,Nat.le_of_eq k.size.symm,fun g hg=>k.other g (by omega)⟩⟩
theorem ThreeF.kp {w W W' : World} {b B pb:Nat} {x:Frm} {nv kv dv u1 u2:Value} (h:ThreeF w W b x nv kv dv u1 u2) (k:KP B (isP pb) W W') (hp:b+1+1<pb) (hB:b≤B):ThreeF w W' b x nv kv dv u1 u2 :=
 ⟨k.at h.k0 (by decide) (by show ¬ b=pb;omega),k.at h.k1 (by decide) (by show ¬ b+1=pb;omega),k.at h.k2 (by decide) (by show ¬ b+1+1=pb;omega),h.below.trans (k.below hB (by have:=h.le;omega) (fun g hg=>by rw [show g=pb from hg];omega))⟩
def OfOut (w:World) (r:Frm × Int × List Int) (e:Ending) (w' : World):Prop :=
 ∃nv kv dv pv bs,e = .returned (.tuple #[frmV r.1 nv kv dv, .int .i64 r.2.1,pv])∧FOne w' w.heap.size r.1 nv kv dv bs∧w'.ownsRow w.heap.size 3 1 pv r.2.2.length (r.2.2.map (.int .i64 ·))
theorem one_nil (w:World) (base:Nat):FOne w base frm0 N0 N0 N0 []:=⟨⟨[],[],[],[],by rw [own1_nil];rfl,World.ownsRow_nil _ _ _ _,⟨World.ownsRow_nil _ _ _ _,rfl,rfl⟩,⟨World.ownsRow_nil _ _ _ _,rfl,rfl⟩⟩,List.nodup_nil⟩
theorem of_any (x:Dt) (rk:Option Addr) (ck:Nat) (w:World) (hX:DOk x) (hR:RS w rk x.s) (hE:Env w) :
  Calls Tryz.prog 15 #[datV x (.slice rk x.s.len ck)] w fun e w' => Below w.heap.size w w' ∧ OfOut w (ofM x) e w' := by
 have HT0:Hid (ThreeF (w.alloc (boxD x (.slice rk x.s.len ck))) ((((w.alloc (boxD x (.slice rk x.s.len ck))).alloc F9).alloc (.cells #[.int .i64 0] 37)).alloc (.cells #[N0] 38)) (w.heap.size+1) frm0 N0 N0 N0 (.int .i64 0) N0):=by
  have:=ThreeF.new (w.alloc (boxD x (.slice rk x.s.len ck)))
  rwa [World.size_alloc] at this
 have a1:=(Below.refl _ w).alloc (Nat.le_refl w.heap.size) (boxD x (.slice rk x.s.len ck))
 have HB0:Hid (Below w.heap.size w ((((w.alloc (boxD x (.slice rk x.s.len ck))).alloc F9).alloc (.cells #[.int .i64 0] 37)).alloc (.cells #[N0] 38))):=a1.trans (HT0.out.below.mono (by omega))
 have HQ0:Hid (((((w.alloc (boxD x (.slice rk x.s.len ck))).alloc F9).alloc (.cells #[.int .i64 0] 37)).alloc (.cells #[N0] 38)).heap[w.heap.size]?=some (.cells #[.int .u8 x.k, .int .i64 x.n,S x.t, .slice rk x.s.len ck, .bool x.d] 32 (0,0))) :=
  (HT0.out.below.block _ (by omega)).trans (World.alloc_heap_new _ _)
 have Ha1:Hid (Below w.heap.size w (w.alloc (boxD x (.slice rk x.s.len ck)))):=a1
 have HX:Hid (DOk x):=hX
 have HR:Hid (RS w rk x.s):=hR
 have HE:Hid (Env w):=hE
 have hmx:Tryz.prog.follows .mixedOrders=true:=by kernel_rfl
 cases hcb:canB x with
 | false =>
  have HM:Hid (ofM x=(frm0,70,[])):=by show _=_;unfold ofM;rw [hcb];rfl
  have HC:Hid (∀w', Below w.heap.size w w' → Calls Tryz.prog 48 #[datV x (.slice rk x.s.len ck)] w' fun e w2=>e = .returned (.bool false)∧Below w'.heap.size w' w2):=fun w' hb=>by rw [←hcb];exact can_any x rk ck w' HX.out (HR.out.below hb) (HE.out.below hb)
  rw [HM.out]
  clear hX hR hE hcb a1
  go_enter_defers Tryz.func15,Tryz.ntmps15
  go_upto_region 1 with fail
  generalize (((w.alloc (boxD x (.slice rk x.s.len ck))).alloc F9).alloc (.cells #[.int .i64 0] 37)).alloc (.cells #[N0] 38)=W1 at *
  obtain ⟨c0,c1,c2,c3,c4,_⟩:=cells5 HQ0.out
  go_wp2_with fail
  refine (HC.out _ HB0.out).mono ?_
  rintro e w1 ⟨rfl,hb1⟩
  have HT1:Hid _:=HT0.out.same hb1
  have HB1:Hid (Below w.heap.size w w1):=HB0.out.trans (hb1.mono HB0.out.size)
  clear hb1 c0 c1 c2 c3 c4
  obtain ⟨⟨z0,z1,z2,z3,z4,z5,z6,z7,z8⟩,zf⟩:=cells9 HT1.out.k0
  have y0:=zf 0
  have y1:=zf 1
  have y2:=zf 2
  have y3:=zf 3
  have y4:=zf 4
  have y5:=zf 5
  have y6:=zf 6
  have y7:=zf 7
  have y8:=zf 8
  have d1:=HT1.out.k1.cell
  have d2:=HT1.out.k2.cell
  have g1:=HT1.out.k1.frozen
  have g2:=HT1.out.k2.frozen
  clear zf
  go_wp2_with fail
  have k9:=nine_nine (w.heap.size+1) w1 (.int .u8 0) (.string ⟨#[]⟩) (.slice none 0 0) (.slice none 0 0) (.int .u8 0) (.int .i64 0) (.string ⟨#[]⟩) (.slice none 0 0) (.bool false)
  have a9:=nine_at HT1.out.k0 (.int .u8 0) (.string ⟨#[]⟩) (.slice none 0 0) (.slice none 0 0) (.int .u8 0) (.int .i64 0) (.string ⟨#[]⟩) (.slice none 0 0) (.bool false)
  unfold nine at k9 a9
  generalize (World.setCell (World.setCell (World.setCell (World.setCell (World.setCell (World.setCell (World.setCell (World.setCell (World.setCell w1 ⟨w.heap.size+1,0,none⟩ (.int .u8 0)) ⟨w.heap.size+1,1,none⟩ (.string ⟨#[]⟩)) ⟨w.heap.size+1,2,none⟩ (.slice none 0 0)) ⟨w.heap.size+1,3,none⟩ (.slice none 0 0)) ⟨w.heap.size+1,4,none⟩ (.int .u8 0)) ⟨w.heap.size+1,5,none⟩ (.int .i64 0)) ⟨w.heap.size+1,6,none⟩ (.string ⟨#[]⟩)) ⟨w.heap.size+1,7,none⟩ (.slice none 0 0)) ⟨w.heap.size+1,8,none⟩ (.bool false))=W9 at k9 a9 ⊢
  have T9:=((HT1.out.set9 (y:=frm0) k9 a9).set1 (.int .i64 70)).set2 N0
  exact ⟨_,resultsF3 rfl rfl rfl rfl T9.k0 T9.k1 T9.k2,Ha1.out.trans (T9.below.mono (by omega)),N0,N0,N0,N0,[],rfl,one_nil _ _,World.ownsRow_nil _ _ _ _⟩
 | true =>
  have HM:Hid (ofM x=(match formM 200 false x with | .ok f=>(f,0,[]) | .bad e p=>(frm0,e,p))):=by show _=_;unfold ofM;rw [hcb];rfl
  have HC:Hid (∀w', Below w.heap.size w w' → Calls Tryz.prog 48 #[datV x (.slice rk x.s.len ck)] w' fun e w2=>e = .returned (.bool true)∧Below w'.heap.size w' w2):=fun w' hb=>by rw [←hcb];exact can_any x rk ck w' HX.out (HR.out.below hb) (HE.out.below hb)
  have hdp:=canB_dpt hcb
  have HF:Hid (∀w' B pb mb,Ctx w w' B pb mb []→Calls Tryz.prog 52 #[.pointer (some ⟨pb,0,none⟩),datV x (.slice rk x.s.len ck)] w' (Gone B (isP pb) pb mb [] w' (formM 200 false x) (OutF w'))):=fun w' B pb mb hC=>form_any 200 w w' B pb mb [] x rk ck hC (by simp) HX.out (by omega) HR.out
  clear hX hR hcb a1 hdp
  go_enter_defers Tryz.func15,Tryz.ntmps15
  go_upto_region 1 with fail
  generalize (((w.alloc (boxD x (.slice rk x.s.len ck))).alloc F9).alloc (.cells #[.int .i64 0] 37)).alloc (.cells #[N0] 38)=W1 at *
  obtain ⟨c0,c1,c2,c3,c4,_⟩:=cells5 HQ0.out
  go_wp2_with fail
  refine (HC.out _ HB0.out).mono ?_
  rintro e w1 ⟨rfl,hb1⟩
  have HT1:Hid _:=HT0.out.same hb1
  have HB1:Hid (Below w.heap.size w w1):=HB0.out.trans (hb1.mono HB0.out.size)
  have HQ1:Hid _:=(hb1.block _ (Array.getElem?_eq_some_iff.1 HQ0.out).1).trans HQ0.out
  clear hb1 c0 c1 c2 c3 c4
  go_wp2_with fail
  refine (rows_any _).mono ?_
  rintro e w2 ⟨mb,rfl,hmb,hmf,hb2⟩
  have HT2:Hid _:=HT1.out.same hb2
  have HB2:Hid (Below w.heap.size w w2):=HB1.out.trans (hb2.mono HB1.out.size)
  have HQ2:Hid _:=(hb2.block _ (Array.getElem?_eq_some_iff.1 HQ1.out).1).trans HQ1.out
  have HMF:Hid (∃n,MF w2 mb n rowFn):=hmf
  have HMB:Hid (w.heap.size+1≤mb):=Nat.le_trans (by have:=HT1.out.le;omega) hmb
  have hlt2:=(Array.getElem?_eq_some_iff.1 HQ2.out).1
  obtain ⟨c0,c1,c2,c3,c4,_⟩:=cells5 HQ2.out
  clear hb2 hmb hmf
  go_wp2_with fail
  have HT3:Hid (ThreeF (w.alloc (boxD x (.slice rk x.s.len ck))) (w2.alloc (.cells #[.map (some mb), .slice none 0 0] 106)) (w.heap.size+1) frm0 N0 N0 N0 (.int .i64 0) N0):=HT2.out.same ((Below.refl _ _).alloc (Nat.le_refl _) _)
  have hle2:=HT2.out.le
  have hC:Ctx w (w2.alloc (.cells #[.map (some mb), .slice none 0 0] 106)) (w.heap.size+1) w2.heap.size mb []:=by
   refine ⟨HB2.out.alloc HB2.out.size _,by omega,HE.out,⟨N0,World.alloc_heap_new _ _,World.ownsRow_nil _ _ _ _⟩,by omega,?_,HMB.out⟩
   obtain ⟨n,hn⟩:=HMF.out
   obtain ⟨es,c,hm⟩:=hn.map
   exact ⟨n,hn.kept (Below.heap_alloc _ _ _ (Array.getElem?_eq_some_iff.1 hm).1)⟩
  refine (HF.out _ _ _ _ hC).mono ?_
  have hsz:(w2.alloc (.cells #[.map (some mb), .slice none 0 0] 106)).heap.size=w2.heap.size+1:=World.size_alloc ..
  generalize w2.alloc (.cells #[.map (some mb), .slice none 0 0] 106)=X at *
  cases hx:formM 200 false x with
  | bad er p =>
   have HR2:Hid (ofM x=(frm0,er,p)):=by show _=_;rw [HM.out,hx]
   rintro e' w3 ⟨v,rfl,ho,hk⟩
   have ho2:w3.ownsRow X.heap.size 3 1 v p.length (p.map (.int .i64 ·)):=ho
   obtain ⟨ra,cap,rfl⟩:=own_slice ho2
   have HT4:Hid _:=HT3.out.kp hk (by omega) (Nat.le_refl _)
   have HO:Hid (w3.ownsRow X.heap.size 3 1 (.slice ra p.length cap) p.length (p.map (.int .i64 ·))):=ho2
   clear ho ho2 hk hx c0 c1 c2 c3 c4 hC HF HC
   go_wp2_with fail
   refine leaves_cons (f:=49) (args := #[.pointer (some ⟨w.heap.size+1,0,none⟩), .pointer (some ⟨w.heap.size+1+1,0,none⟩), .pointer (some ⟨w.heap.size+1+1+1,0,none⟩)]) (by simp) (by simp [go_sem]) ?_
   refine (catchF_fault (w.heap.size+1) (w.heap.size+1+1) (w.heap.size+1+1+1) er ra p.length cap _ _ _ _ _ _ _ _ _ _ _ w3 HT4.out.k0 HT4.out.k1 HT4.out.k2 (by omega) (by omega) (by omega)).mono ?_
   rintro e' u' w4 ⟨⟨⟨v', rfl⟩,v'', rfl⟩,hb4,k0,k1,k2⟩
   simp only [settle]
   refine ⟨_,resultsF3 rfl rfl rfl rfl k0 k1 k2,?_,?_⟩
   ·have h4:=Ha1.out.trans (HT4.out.below.mono (by omega))
    exact h4.trans ⟨hb4.os,hb4.tape,hb4.output,hb4.size,fun y hy=>hb4.block y (by have:=h4.size;omega) (by omega) (by omega) (by omega)⟩
   ·rw [HR2.out]
    refine ⟨N0,N0,N0, .slice ra p.length cap,[],rfl,one_nil _ _,?_⟩
    exact own_mono (own_same HO.out (fun g hg=>hb4.block g (HO.out.lt g hg).2 (by have:=(HO.out.lt g hg).1;omega) (by have:=(HO.out.lt g hg).1;omega) (by have:=(HO.out.lt g hg).1;omega))) (by omega)
  | ok f =>
   have HR2:Hid (ofM x=(f,0,[])):=by show _=_;rw [HM.out,hx]
   rintro e' w3 ⟨⟨nv,kv,dv,bs,rfl,hone⟩,_,hk⟩
   obtain ⟨b1,g1,b2,g2,b3,g3,rfl,rfl,rfl⟩:=hone.slices
   have HT4:Hid _:=HT3.out.kp hk (by omega) (Nat.le_refl _)
   have HO:Hid (FOne w3 X.heap.size f (.slice b1 f.names.length g1) (.slice b2 f.kids.len g2) (.slice b3 f.dat.s.len g3) bs):=hone
   clear hone hk hx c0 c1 c2 c3 c4 hC HF HC
   obtain ⟨⟨z0,z1,z2,z3,z4,z5,z6,z7,z8⟩,zf⟩:=cells9 HT4.out.k0
   have y0:=zf 0
   have y1:=zf 1
   have y2:=zf 2
   have y3:=zf 3
   have y4:=zf 4
   have y5:=zf 5
   have y6:=zf 6
   have y7:=zf 7
   have y8:=zf 8
   have d1:=HT4.out.k1.cell
   have d2:=HT4.out.k2.cell
   have q1:=HT4.out.k1.frozen
   have q2:=HT4.out.k2.frozen
   clear zf
   go_wp2_with fail
   have k9:=nine_nine (w.heap.size+1) w3 (.int .u8 f.kind) (S f.text) (.slice b1 f.names.length g1) (.slice b2 f.kids.len g2) (.int .u8 f.dat.k) (.int .i64 f.dat.n) (S f.dat.t) (.slice b3 f.dat.s.len g3) (.bool f.dat.d)
   have a9:=nine_at HT4.out.k0 (.int .u8 f.kind) (S f.text) (.slice b1 f.names.length g1) (.slice b2 f.kids.len g2) (.int .u8 f.dat.k) (.int .i64 f.dat.n) (S f.dat.t) (.slice b3 f.dat.s.len g3) (.bool f.dat.d)
   unfold nine at k9 a9
   generalize (World.setCell (World.setCell (World.setCell (World.setCell (World.setCell (World.setCell (World.setCell (World.setCell (World.setCell w3 ⟨w.heap.size+1,0,none⟩ (.int .u8 f.kind)) ⟨w.heap.size+1,1,none⟩ (S f.text)) ⟨w.heap.size+1,2,none⟩ (.slice b1 f.names.length g1)) ⟨w.heap.size+1,3,none⟩ (.slice b2 f.kids.len g2)) ⟨w.heap.size+1,4,none⟩ (.int .u8 f.dat.k)) ⟨w.heap.size+1,5,none⟩ (.int .i64 f.dat.n)) ⟨w.heap.size+1,6,none⟩ (S f.dat.t)) ⟨w.heap.size+1,7,none⟩ (.slice b3 f.dat.s.len g3)) ⟨w.heap.size+1,8,none⟩ (.bool f.dat.d))=W9 at k9 a9 ⊢
   have T9:=((HT4.out.set9 (y:=f) k9 a9).set1 (.int .i64 0)).set2 N0
   have hW:∀g,X.heap.size≤g→(((W9.setCell ⟨w.heap.size+1+1,0,none⟩ (.int .i64 0)).setCell ⟨w.heap.size+1+1+1,0,none⟩ N0).heap[g]?)=w3.heap[g]?:=fun g hg =>
    (Below.heap_setCell _ _ _ _ (by show g≠w.heap.size+1+1+1;omega)).trans ((Below.heap_setCell _ _ _ _ (by show g≠w.heap.size+1+1;omega)).trans (k9.other g (by omega)))
   have ho2:=HO.out.kept fun g hg=>hW g (HO.out.lt g hg).1
   generalize (W9.setCell ⟨w.heap.size+1+1,0,none⟩ (.int .i64 0)).setCell ⟨w.heap.size+1+1+1,0,none⟩ N0=W5 at T9 ho2 ⊢
   clear hW a9 k9
   refine leaves_cons (f:=49) (args := #[.pointer (some ⟨w.heap.size+1,0,none⟩), .pointer (some ⟨w.heap.size+1+1,0,none⟩), .pointer (some ⟨w.heap.size+1+1+1,0,none⟩)]) (by simp) (by simp [go_sem]) ?_
   refine (catchF_idle (w.heap.size+1) (w.heap.size+1+1) (w.heap.size+1+1+1) W5).mono ?_
   rintro e' u' w6 ⟨⟨v', rfl⟩,rfl,hb6⟩
   simp only [settle]
   have T6:=T9.same hb6
   refine ⟨_,resultsF3 rfl rfl rfl rfl T6.k0 T6.k1 T6.k2,Ha1.out.trans (T6.below.mono (by omega)),?_⟩
   rw [HR2.out]
   exact ⟨_,_,_,N0,bs,rfl,(ho2.kept fun g hg=>hb6.block g (ho2.lt g hg).2).mono (by omega),World.ownsRow_nil _ _ _ _⟩
def RN (w:World) (ra:Option Addr) (l:List (List UInt8)):Prop:=∃b o,(l=[]∨ra=some ⟨b,o,none⟩)∧∀(j:Nat) (s:List UInt8),l[j]?=some s→w.cell? ⟨b,o+j,none⟩=some (S s)
theorem RN.below {w w' : World} {ra:Option Addr} {l:List (List UInt8)} (h:RN w ra l) (hb:Below w.heap.size w w'):RN w' ra l:=by
 obtain ⟨b,o,h1,h2⟩:=h
 exact ⟨b,o,h1,fun j s hs=>(hb.cell (p:=⟨b,o+j,none⟩) (cell_lt (h2 j s hs))).trans (h2 j s hs)⟩
def RdF (w:World):Fm→Nat→Nat→Prop
 | .nil,_,_=>True
 | .cons k t ns ks dk dn dt ds dd r,b,o=>(w.cell? ⟨b,o,none⟩=some (.int .u8 k)∧w.cell? ⟨b,o+1,none⟩=some (S t)∧w.cell? ⟨b,o+4,none⟩=some (.int .u8 dk)∧w.cell? ⟨b,o+5,none⟩=some (.int .i64 dn)∧w.cell? ⟨b,o+6,none⟩=some (S dt)∧w.cell? ⟨b,o+8,none⟩=some (.bool dd)) ∧
   (∃nr nc kr kc dr dc,(w.cell? ⟨b,o+2,none⟩=some (.slice nr ns.length nc)∧w.cell? ⟨b,o+3,none⟩=some (.slice kr ks.len kc)∧w.cell? ⟨b,o+7,none⟩=some (.slice dr ds.len dc))∧RN w nr ns∧(ks.len≤kc∧∃b' o', (ks.len=0∨kr=some ⟨b', o', none⟩)∧RdF w ks b' o')∧RS w dr ds)∧RdF w r b (o+9)
def RSF (w:World) (ra:Option Addr) (f:Fm):Prop:=∃b o,(f.len=0∨ra=some ⟨b,o,none⟩)∧RdF w f b o
theorem RdF.below {w w' : World} (hb:Below w.heap.size w w'):∀{f:Fm} {b o:Nat},RdF w f b o→RdF w' f b o
 | .nil,_,_,_=>trivial
 | .cons k t ns ks dk dn dt ds dd r,b,o,⟨⟨h1,h2,h3,h4,h5,h6⟩,⟨nr,nc,kr,kc,dr,dc,⟨h7,h8,h9⟩,hn,⟨hkc,b', o', hz,hk⟩,hd⟩,hr⟩=>by
  have lt:=cell_lt h1
  have e:∀o,w'.cell? ⟨b,o,none⟩=w.cell? ⟨b,o,none⟩:=fun o=>hb.cell (p:=⟨b,o,none⟩) lt
  exact ⟨⟨(e _).trans h1,(e _).trans h2,(e _).trans h3,(e _).trans h4,(e _).trans h5,(e _).trans h6⟩,⟨nr,nc,kr,kc,dr,dc,⟨(e _).trans h7,(e _).trans h8,(e _).trans h9⟩,hn.below hb,⟨hkc,b', o', hz,RdF.below hb hk⟩,hd.below hb⟩,RdF.below hb hr⟩
theorem RSF.below {w w' : World} {ra:Option Addr} {f:Fm} (h:RSF w ra f) (hb:Below w.heap.size w w'):RSF w' ra f:=by
 obtain ⟨b,o,h1,h2⟩:=h
 exact ⟨b,o,h1,h2.below hb⟩
structure RFo (w:World) (f:Frm) (nr kr dr:Option Addr):Prop where
 n:RN w nr f.names
 k:RSF w kr f.kids
 d:RS w dr f.dat.s
theorem RFo.below {w w' : World} {f:Frm} {nr kr dr:Option Addr} (h:RFo w f nr kr dr) (hb:Below w.heap.size w w'):RFo w' f nr kr dr:=⟨h.n.below hb,h.k.below hb,h.d.below hb⟩
structure FOk (f:Frm):Prop where
 t:f.text.length≤281474976710656
 nl:f.names.length≤1000000
 ns:∀s∈f.names,s.length≤281474976710656
 kl:f.kids.len≤1000000
 d:DOk f.dat
def Fm.oks:Fm→Prop
 | .nil=>True
 | .cons k t ns ks dk dn dt ds dd r=>FOk ⟨k,t,ns,ks,⟨dk,dn,dt,ds,dd⟩⟩∧ks.oks∧r.oks
def valsN (f:Frm):Nat:=if f.kind=8 then f.names.length else 0
def hasTextB (k:Int):Bool:=k == 2 || (k == 5 || k == 6)
def hasNamesB (k:Int):Bool:=k == 4 || k == 8
def datFitB (f:Frm):Bool:=if f.kind=1 then canB f.dat else sameB f.dat.k f.dat.n f.dat.t f.dat.s f.dat.d 0 0 [] .nil false
def Fm.hd:Fm→Frm
 | .nil=>frm0
 | .cons k t ns ks dk dn dt ds dd _=>⟨k,t,ns,ks,⟨dk,dn,dt,ds,dd⟩⟩
def callFitB (f:Frm):Bool:=if f.kind=10∧f.kids.hd.kind=2 then argsB f.kids.hd.text (f.kids.len-1) else true
def shapedB (f:Frm):Bool:=if f.kind<1∨15<f.kind then false else
 ((((takesB f.kind.toNat (f.kids.len-valsN f) && (f.text == [] || hasTextB f.kind)) && (f.names.length == 0 || hasNamesB f.kind)) && datFitB f) && callFitB f)
def namedB (f:Frm):Bool:=if f.kind=2 then nameB f.text else if f.kind=5∨f.kind=6 then varB f.text else f.names.all varB
def twiceB (l:List (List UInt8)):List (List UInt8)→Bool
 | []=>false
 | s::r=>decide (s∈l) || twiceB (l++[s]) r
def termE (f:Frm) (inn:Bool):Int:=if !shapedB f || (inn && f.kind == 5) then 70 else if !namedB f then 71 else if twiceB [] f.names then 72 else 0
def termsE (inn:Bool):Fm→Int
 | .nil=>0
 | .cons k t ns ks dk dn dt ds dd r=>if termE ⟨k,t,ns,ks,⟨dk,dn,dt,ds,dd⟩⟩ inn≠0 then termE ⟨k,t,ns,ks,⟨dk,dn,dt,ds,dd⟩⟩ inn else if termsE true ks≠0 then termsE true ks else termsE inn r
theorem hasText_any (k:Int) (w:World):Calls Tryz.prog 126 #[.int .u8 k] w fun e w' => e = .returned (.bool (hasTextB k))∧Below w.heap.size w w' := by
 have HT:Hid (hasTextB k=(k == 2 || (k == 5 || k == 6))):=rfl
 cases h2:k == 2 with
 | true =>
  have H:Hid _:=h2
  go_enter Tryz.func126,Tryz.ntmps126
  go_wp2
  go_ret
  exact ⟨by rw [HT.out,H.out];rfl,Below.refl _ _⟩
 | false =>
  cases h5:k == 5 with
  | true =>
   have H:Hid _:=h2
   have H5:Hid _:=h5
   go_enter Tryz.func126,Tryz.ntmps126
   go_wp2
   go_ret
   exact ⟨by rw [HT.out,H.out,H5.out];rfl,Below.refl _ _⟩
  | false =>
   have H:Hid _:=h2
   have H5:Hid _:=h5
   go_enter Tryz.func126,Tryz.ntmps126
   go_wp2
   go_ret
   exact ⟨by rw [HT.out,H.out,H5.out];simp,Below.refl _ _⟩
theorem hasNames_any (k:Int) (w:World):Calls Tryz.prog 173 #[.int .u8 k] w fun e w' => e = .returned (.bool (hasNamesB k))∧Below w.heap.size w w' := by
 have HT:Hid (hasNamesB k=(k == 4 || k == 8)):=rfl
 cases h2:k == 4 with
 | true =>
  have H:Hid _:=h2
  go_enter Tryz.func173,Tryz.ntmps173
  go_wp2
  go_ret
  exact ⟨by rw [HT.out,H.out];rfl,Below.refl _ _⟩
 | false =>
  have H:Hid _:=h2
  go_enter Tryz.func173,Tryz.ntmps173
  go_wp2
  go_ret
  exact ⟨by rw [HT.out,H.out];simp,Below.refl _ _⟩
theorem valueCount_any (f:Frm) (nr kr dr:Option Addr) (nc kc dc:Nat) (w:World) (_:f.names.length≤1000000):Calls Tryz.prog 124 #[frmV f (.slice nr f.names.length nc) (.slice kr f.kids.len kc) (.slice dr f.dat.s.len dc)] w fun e w' => e = .returned (.int .i64 (valsN f))∧Below w.heap.size w w' := by
 have HT:Hid (valsN f=if f.kind=8 then f.names.length else 0):=rfl
 cases h2:f.kind == 8 with
 | true =>
  have H:Hid (f.kind=8):=by show _=_;simpa using h2
  go_enter Tryz.func124,Tryz.ntmps124
  go_wp2
  go_ret
  exact ⟨by rw [HT.out,if_pos H.out];rfl,(Below.refl _ w).alloc (Nat.le_refl _) _⟩
 | false =>
  have H:Hid (¬ f.kind=8):=by show ¬ _;simpa using h2
  go_enter Tryz.func124,Tryz.ntmps124
  go_wp2
  go_ret
  exact ⟨by rw [HT.out,if_neg H.out];rfl,(Below.refl _ w).alloc (Nat.le_refl _) _⟩
end Go.Proofs.YtkgnigloboajcaaGreatDoor
